/-
  Parse of package value reads a pair, or returns the error.
-/
import Derived.Test.YtdndngabddnpmaaGreatDoorParseP
namespace Go.Proofs.YtdndngabddnpmaaGreatDoor.vl
open Go.RowKit Go.Proofs.YtdndngabddnpmaaGreatDoor.cm

theorem ext_bytes (s : ByteArray) (a b : Nat) : s.extract a b = ⟨((s.data.toList.drop a).take (b - a)).toArray⟩ := by
  apply bytes_of
  have := Lib.extract_toList s a b
  rwa [Lib.toList_data] at this

theorem cut2_E (s : ByteArray) : (∃ nm v, cutE s.data.toList = some (nm, v) ∧ cut2 61 s = (⟨nm.toArray⟩, ⟨v.toArray⟩, true)) ∨ (cutE s.data.toList = none ∧ cut2 61 s = (s, ⟨#[]⟩, false)) := by
  rcases rg.index_cases s 61 with hi | ⟨i, hi⟩
  · right
    refine ⟨?_, cut2_none hi⟩
    have hn := Lib.indexByte_none hi
    unfold cutE
    rw [if_neg]
    intro hlt
    have h1 : s.data.toList[s.data.toList.idxOf 61]'hlt = 61 := List.getElem_idxOf hlt
    exact hn (s.data.toList.idxOf 61) (by rw [List.getElem?_eq_getElem hlt, h1])
  · left
    obtain ⟨h1, h2⟩ := Lib.indexByte_some hi
    obtain ⟨hlt, he⟩ := List.getElem?_eq_some_iff.1 h1
    refine ⟨s.data.toList.take i, s.data.toList.drop (i + 1), ?_, ?_⟩
    · have hd := List.drop_eq_getElem_cons hlt
      rw [he] at hd
      have hs : s.data.toList = s.data.toList.take i ++ 61 :: s.data.toList.drop (i + 1) := by rw [← hd, List.take_append_drop]
      have hc : ∀ c ∈ s.data.toList.take i, c ≠ 61 := by
        intro c hc hce
        subst hce
        obtain ⟨j, hj, e⟩ := List.getElem_of_mem hc
        have hj2 : j < i := by rw [List.length_take] at hj; omega
        rw [List.getElem_take] at e
        exact h2 j hj2 (by rw [List.getElem?_eq_getElem (by omega), e])
      have := cutE_app (s.data.toList.take i) (s.data.toList.drop (i + 1)) hc
      rwa [← hs] at this
    · rw [cut2_some hi, ext_bytes, ext_bytes]
      have hl := bytes_len s
      rw [List.drop_zero, Nat.sub_zero, List.take_of_length_le (l := s.data.toList.drop (i + 1)) (by rw [List.length_drop]; omega)]

/-- a text that is the text of no pair -/
theorem par_cut {s : ByteArray} (h : cutE s.data.toList = none) : parP s.data.toList = none := by rw [parP_char, h]
theorem par_name {s : ByteArray} {nm v : List UInt8} (h : cutE s.data.toList = some (nm, v)) (hn : nameL nm = false) : parP s.data.toList = none := by
  rw [parP_char, h]; dsimp only; rw [if_neg (by rw [hn]; simp)]
theorem par_val {s : ByteArray} {nm v : List UInt8} (h : cutE s.data.toList = some (nm, v)) (hn : nameL nm = true) (hv : vV v = none) : parP s.data.toList = none := by
  rw [parP_char, h]; dsimp only; rw [if_pos hn, hv]; rfl
theorem par_all {s : ByteArray} {nm v t : List UInt8} {k n : Int} (h : cutE s.data.toList = some (nm, v)) (hn : nameL nm = true) (hv : vV v = some (k, n, t)) : parP s.data.toList = some ⟨nm, k, n, t⟩ := by
  rw [parP_char, h]; dsimp only; rw [if_pos hn, hv]; rfl

theorem cut_size {s : ByteArray} {nm v : List UInt8} (h : cutE s.data.toList = some (nm, v)) : nm.length ≤ s.size ∧ v.length ≤ s.size := by
  have := congrArg List.length (cutE_form h).1
  rw [bytes_len] at this
  simp at this
  omega

theorem Box.alloc {w : World} {B : Nat} {a b c d : Value} (h : Box w B a b c d) (o : Obj) : Box (w.alloc o) B a b c d := by
  have hb := Below.heap_alloc w o B (cell_lt h.c0)
  have hc : ∀ j, (w.alloc o).cell? ⟨B, j, none⟩ = w.cell? ⟨B, j, none⟩ := fun j => World.cell?_of_block (w := w) hb
  have hf : ∀ j, (w.alloc o).frozen? ⟨B, j, none⟩ = w.frozen? ⟨B, j, none⟩ := fun j => World.frozen?_of_block (w := w) hb
  exact ⟨(hc 0).trans h.c0, (hc 1).trans h.c1, (hc 2).trans h.c2, (hc 3).trans h.c3, (hf 0).trans h.f0, (hf 1).trans h.f1, (hf 2).trans h.f2, (hf 3).trans h.f3⟩

theorem ret_pe {v v' : Value} {b b' : Int} (h : v = v') (h' : b = b') : Ending.returned (.tuple #[v, .int .i64 b]) = .returned (.tuple #[v', .int .i64 b']) := by rw [h, h']

set_option maxRecDepth 100000 in
set_option maxHeartbeats 4000000 in
theorem Parse_any (s : ByteArray) (w : World) (hs : s.size ≤ 100000) (hE : Env2 w) :
    Calls Tryz.prog 67 #[.string s] w fun e w' => e = .returned (.tuple #[parV s, .int .i64 (parE s)]) ∧ Below w.heap.size w w' := by
  have HE := Lib.hid (fun W (h : Below w.heap.size w W) => hE.below h)
  have CC := fun W => strcut_any 61 s W hs
  clear hE
  rcases cut2_E s with ⟨nm, v, hc, h2⟩ | ⟨hc, h2⟩
  · rw [h2] at CC
    have CC := Lib.hid CC
    obtain ⟨z1, z2⟩ := cut_size hc
    have hz1 : (⟨nm.toArray⟩ : ByteArray).size ≤ 100000 := by show nm.toArray.size ≤ _; rw [List.size_toArray]; omega
    have hz2 : (⟨v.toArray⟩ : ByteArray).size ≤ 100000 := by show v.toArray.size ≤ _; rw [List.size_toArray]; omega
    have CN := fun W => isName_any ⟨nm.toArray⟩ W (by unfold maxLen; omega)
    rw [show nameS ⟨nm.toArray⟩ = nameL nm from rfl] at CN
    cases hn : nameL nm
    · obtain ⟨p1, p2⟩ := par_none (par_name hc hn)
      have H1 := Lib.hid p1
      have H2 := Lib.hid p2
      rw [hn] at CN
      have CN := Lib.hid CN
      clear h2 hc hn p1 p2 z1 z2 hz2
      generalize (⟨nm.toArray⟩ : ByteArray) = NM at *
      generalize (⟨v.toArray⟩ : ByteArray) = V at *
      go_enter Tryz.func67, Tryz.ntmps67
      go_wp2_with fail
      refine (CC.out _).mono ?_
      rintro e w' ⟨rfl, q, rfl⟩
      go_wp2_with fail
      refine (CN.out _).mono ?_
      rintro e w' ⟨rfl, rfl⟩
      go_wp2_with fail
      exact bodyPost_ret (v := .tuple #[zV, .int .i64 21]) (by simp [results, Tryz.f67, go_sem, zV]) rfl ⟨ret_pe H1.out.symm H2.out.symm, Box.belowSet (below_drewN ((Below.refl _ _).alloc (Nat.le_refl _) _) _) (Nat.le_refl _) _ _ _ _⟩
    · rw [hn] at CN
      have CN := Lib.hid CN
      cases hv : vV v with
      | none =>
        have CV := Lib.hid (fun W (h : Env2 W) => parseValue_none ⟨v.toArray⟩ W hz2 h hv)
        obtain ⟨p1, p2⟩ := par_none (par_val hc hn hv)
        have H1 := Lib.hid p1
        have H2 := Lib.hid p2
        clear h2 hc hn p1 p2 z1 z2 hv
        generalize (⟨nm.toArray⟩ : ByteArray) = NM at *
        generalize (⟨v.toArray⟩ : ByteArray) = V at *
        go_enter Tryz.func67, Tryz.ntmps67
        go_wp2_with fail
        refine (CC.out _).mono ?_
        rintro e w' ⟨rfl, q, rfl⟩
        go_wp2_with fail
        refine (CN.out _).mono ?_
        rintro e w' ⟨rfl, rfl⟩
        go_wp2_with fail
        refine (CV.out _ (HE.out _ (below_drewN ((Below.refl _ _).alloc (Nat.le_refl _) _) _))).mono ?_
        rintro e w1 ⟨c, k, m, d, rfl, hb⟩
        have hblk := (hb.block w.heap.size (by simp)).trans (box_new w 39 (.string ⟨#[]⟩) (.int .i64 0) (.int .i64 0) (.string ⟨#[]⟩))
        have hlt : w.heap.size < w1.heap.size := by have := hb.size; simp at this; omega
        have hb1 := (below_drewN ((Below.refl w.heap.size w).alloc (Nat.le_refl _) (.cells #[.string ⟨#[]⟩, .int .i64 0, .int .i64 0, .string ⟨#[]⟩] 39)) q).trans (hb.mono (by simp))
        obtain ⟨c0, c1, c2, c3, f0, f1, f2, f3⟩ := box_of hblk
        have bx := (box_of hblk).set (.string ⟨#[]⟩) (.int .i64 0) (.int .i64 0) (.string ⟨#[]⟩)
        have bz := Nat.le_of_lt (cell_lt bx.c0)
        obtain ⟨r0, r1, r2, r3, _, _, _, _⟩ := bx.alloc (.cells #[.string c, .int .i64 k, .int .i64 m, .string d] 39)
        have hb2 := (Box.belowSet hb1 (Nat.le_refl _) (.string ⟨#[]⟩) (.int .i64 0) (.int .i64 0) (.string ⟨#[]⟩)).alloc bz (.cells #[.string c, .int .i64 k, .int .i64 m, .string d] 39)
        clear hb hblk bx bz
        go_wp2_with fail
        exact bodyPost_ret (v := .tuple #[zV, .int .i64 21]) (by simp [results, Tryz.f67, go_sem, zV, r0, r1, r2, r3]) rfl ⟨ret_pe H1.out.symm H2.out.symm, hb2⟩
      | some p =>
        obtain ⟨k, n, t⟩ := p
        have CV := Lib.hid (fun W (h : Env2 W) => parseValue_some ⟨v.toArray⟩ W k n t hz2 h hv)
        obtain ⟨p1, p2⟩ := par_some (par_all hc hn hv)
        have H1 : Hid (parV s = .agg #[.string ⟨nm.toArray⟩, .int .i64 k, .int .i64 n, .string ⟨t.toArray⟩]) := Lib.hid p1
        have H2 := Lib.hid p2
        clear h2 hc hn p1 p2 z1 z2 hv
        generalize (⟨nm.toArray⟩ : ByteArray) = NM at *
        generalize (⟨v.toArray⟩ : ByteArray) = V at *
        generalize (⟨t.toArray⟩ : ByteArray) = T at *
        go_enter Tryz.func67, Tryz.ntmps67
        go_wp2_with fail
        refine (CC.out _).mono ?_
        rintro e w' ⟨rfl, q, rfl⟩
        go_wp2_with fail
        refine (CN.out _).mono ?_
        rintro e w' ⟨rfl, rfl⟩
        go_wp2_with fail
        refine (CV.out _ (HE.out _ (below_drewN ((Below.refl _ _).alloc (Nat.le_refl _) _) _))).mono ?_
        rintro e w1 ⟨rfl, hb⟩
        have hblk := (hb.block w.heap.size (by simp)).trans (box_new w 39 (.string ⟨#[]⟩) (.int .i64 0) (.int .i64 0) (.string ⟨#[]⟩))
        have hlt : w.heap.size < w1.heap.size := by have := hb.size; simp at this; omega
        have hb1 := (below_drewN ((Below.refl w.heap.size w).alloc (Nat.le_refl _) (.cells #[.string ⟨#[]⟩, .int .i64 0, .int .i64 0, .string ⟨#[]⟩] 39)) q).trans (hb.mono (by simp))
        obtain ⟨c0, c1, c2, c3, f0, f1, f2, f3⟩ := box_of hblk
        have bx := (box_of hblk).set (.string NM) (.int .i64 k) (.int .i64 n) (.string T)
        have bz := Nat.le_of_lt (cell_lt bx.c0)
        obtain ⟨r0, r1, r2, r3, _, _, _, _⟩ := bx.alloc (.cells #[.string NM, .int .i64 k, .int .i64 n, .string T] 39)
        have hb2 := (Box.belowSet hb1 (Nat.le_refl _) (.string NM) (.int .i64 k) (.int .i64 n) (.string T)).alloc bz (.cells #[.string NM, .int .i64 k, .int .i64 n, .string T] 39)
        clear hb hblk bx bz
        go_wp2_with fail
        exact bodyPost_ret (v := .tuple #[.agg #[.string NM, .int .i64 k, .int .i64 n, .string T], .int .i64 0]) (by simp [results, Tryz.f67, go_sem, r0, r1, r2, r3]) rfl ⟨ret_pe H1.out.symm H2.out.symm, hb2⟩
  · rw [h2] at CC
    have CC := Lib.hid CC
    obtain ⟨p1, p2⟩ := par_none (par_cut hc)
    have H1 := Lib.hid p1
    have H2 := Lib.hid p2
    clear h2 hc p1 p2
    go_enter Tryz.func67, Tryz.ntmps67
    go_wp2_with fail
    refine (CC.out _).mono ?_
    rintro e w' ⟨rfl, q, rfl⟩
    go_wp2_with fail
    exact bodyPost_ret (v := .tuple #[zV, .int .i64 21]) (by simp [results, Tryz.f67, go_sem, zV]) rfl ⟨ret_pe H1.out.symm H2.out.symm, Box.belowSet (below_drewN ((Below.refl _ _).alloc (Nat.le_refl _) _) _) (Nat.le_refl _) _ _ _ _⟩

/-- what Parse answers is a pair's value -/
theorem parV_form (s : ByteArray) : ∃ (a : ByteArray) (k n : Int) (b : ByteArray), parV s = .agg #[.string a, .int .i64 k, .int .i64 n, .string b] := by
  unfold parV
  cases parP s.data.toList with
  | some p => exact ⟨_, _, _, _, rfl⟩
  | none => exact ⟨_, _, _, _, rfl⟩
end Go.Proofs.YtdndngabddnpmaaGreatDoor.vl
