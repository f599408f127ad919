/-
  Parent and Under of package path.
-/
import Derived.Test.YtlfeaamfgfegdaaDoorPCn
namespace Go.Proofs.YtlfeaamfgfegdaaDoor.pt
open Go.RowKit Go.Shelf Go.Proofs.YtlfeaamfgfegdaaDoor.cm Go.Proofs.YtlfeaamfgfegdaaDoor.rg

def underS (a b : ByteArray) : Bool := underL a.data.toList b.data.toList
/-- what Parent answers -/
def ParR (s : ByteArray) (w : World) (e : Ending) (w' : World) : Prop :=
  e = .returned (.tuple #[.string (bs (parentL s.data.toList).1), .string (bs (parentL s.data.toList).2.1), .bool (parentL s.data.toList).2.2]) ∧ Below w.heap.size w w'

theorem bs_ext {s : ByteArray} {l : List UInt8} (h : s.data.toList = l) : s = bs l := by
  apply ByteArray.ext
  unfold bs
  rw [← h]
theorem last_at {s : ByteArray} {p n : List UInt8} (h : s.data.toList = p ++ 47 :: n) (hn : (47 : UInt8) ∉ n) : Lib.lastIndexByte s 47 = (p.length : Int) ∧ p.length < s.size := by
  have hsz : s.size = p.length + 1 + n.length := by rw [Lib.size_eq, h]; simp; omega
  have hget : ∀ j, j < s.size → s.data.toList[j]? = some (s.data[j]!) := fun j hj => by
    have : j < s.data.size := hj
    rw [getElem!_pos s.data j this]
    simp
  have h0 : s.data[p.length]! = 47 := by
    have e1 := hget p.length (by omega)
    rw [h] at e1
    simp at e1
    exact e1.symm
  refine ⟨?_, by omega⟩
  rcases Lib.lastIndexByte_spec s 47 with ⟨_, hno⟩ | ⟨i, hi, e, hc, hno⟩
  · exact (hno p.length (by omega) (by rw [h0]; rfl)).elim
  · rw [e]
    by_cases h1 : i = p.length
    · rw [h1]
    · exfalso
      by_cases h2 : i < p.length
      · exact hno p.length h2 (by omega) (by rw [h0]; rfl)
      · have e1 := hget i hi
        rw [h, List.getElem?_append_right (by omega), List.getElem?_cons, if_neg (by omega)] at e1
        have e2 : s.data[i]! = 47 := UInt8.toNat_inj.1 (by show _ = 47; omega)
        rw [e2] at e1
        exact hn (List.mem_of_getElem? e1)
theorem take_ext {s : ByteArray} {p r : List UInt8} (h : s.data.toList = p ++ r) : s.extract 0 p.length = bs p := by
  apply bs_ext
  have := Lib.extract_data s 0 p.length
  rw [this, h]; simp
theorem drop_ext {s : ByteArray} {p r : List UInt8} {c : UInt8} (h : s.data.toList = p ++ c :: r) : s.extract (p.length + 1) s.size = bs r := by
  apply bs_ext
  rw [Lib.extract_to_end, h]
  simp

set_option maxHeartbeats 4000000 in
set_option maxRecDepth 100000 in
theorem Parent_any (s : ByteArray) (w : World) (hs : s.size ≤ 100000) :
    Calls Tryd.prog 21 #[.string s] w (ParR s w) := by
  cases h1 : (s.toList == [47])
  · have CC := Clean_any s w hs
    cases h2 : cleanS s
    · rw [h2] at CC
      have CC := Lib.hid CC
      have FIN : Hid (∀ W, Below w.heap.size w W → ParR s w (.returned (.tuple #[.string ⟨#[]⟩, .string ⟨#[]⟩, .bool false])) W) := Lib.hid (fun W hb => by
        unfold ParR
        rw [parent_no h2]
        exact ⟨rfl, hb⟩)
      clear h2
      go_enter Tryd.func21, Tryd.ntmps21
      go_wp2_with fail
      refine CC.out.mono ?_
      rintro e w1 ⟨rfl, hb⟩
      go_wp2_with fail
      go_ret3
      exact FIN.out _ hb
    · have hne : s.data.toList ≠ [47] := by
        intro e
        have h1' := h1
        rw [eq_test, e] at h1'
        cases h1'
      obtain ⟨ys, n, hy, hn, he⟩ := clean_snoc h2 hne
      have hp := parent_join hy hn
      rw [← he] at hp
      have he' := he
      rw [join_snoc] at he'
      have hnn := (name_parts hn).2.2
      obtain ⟨hl, hlt⟩ := last_at he' hnn
      have CL := Tryd.strings_LastIndex_one s ⟨#[47]⟩ rfl (by omega)
      rw [show (((⟨#[47]⟩ : ByteArray)[0]'(by decide)).toNat : Int) = 47 from rfl, hl] at CL
      rw [h2] at CC
      have CC := Lib.hid CC
      have CL := Lib.hid CL
      by_cases hys : ys = []
      · subst hys
        have hx : s.extract 1 s.size = bs n := drop_ext (p := []) he'
        have FIN : Hid (∀ W, Below w.heap.size w W → ParR s w (.returned (.tuple #[.string ⟨#[47]⟩, .string (s.extract 1 s.size), .bool true])) W) := Lib.hid (fun W hb => by
          unfold ParR
          rw [hp, hx]
          exact ⟨rfl, hb⟩)
        have hs1 : (1 : Int) ≤ (s.size : Int) := by omega
        have CL := CL.out
        rw [show (((joinL []).length : Nat) : Int) = 0 from rfl] at CL
        have CL := Lib.hid CL
        clear h2 hne hp hx he he' hl hlt
        go_enter Tryd.func21, Tryd.ntmps21
        go_wp2_with fail
        refine CC.out.mono ?_
        rintro e w1 ⟨rfl, hb⟩
        go_wp2_with fail
        refine (CL.out _).mono ?_
        rintro e w2 ⟨rfl, rfl⟩
        go_wp2_with fail
        go_quiet (fail)
        go_wp2_with fail
        go_ret3
        exact FIN.out _ (hb.trans ⟨rfl, rfl, rfl, Nat.le_refl _, fun _ _ => rfl⟩)
      · have hx1 := take_ext he'
        have hx2 := drop_ext he'
        have hpos : 0 < (joinL ys).length := by
          cases ys with
          | nil => exact (hys rfl).elim
          | cons y ys => rw [join_cons]; simp
        have FIN : Hid (∀ W, Below w.heap.size w W → ParR s w (.returned (.tuple #[.string (s.extract 0 (joinL ys).length), .string (s.extract ((joinL ys).length + 1) s.size), .bool true])) W) := Lib.hid (fun W hb => by
          unfold ParR
          rw [hp, hx1, hx2, dir_join hys]
          exact ⟨rfl, hb⟩)
        clear h2 hne hp hx1 hx2 he he' hl
        generalize (joinL ys).length = k at *
        have hk0 : ((k : Int) == 0) = false := by simp; omega
        have hw1 : IntKind.i64.wrap ((k : Int) + 1) = ((k + 1 : Nat) : Int) := by rw [IntWalk.i64_in _ (by omega)]; omega
        have hk1 : (0 : Int) ≤ (k : Int) := by omega
        have hk2 : (k : Int) ≤ (s.size : Int) := by omega
        have hk3 : ((k + 1 : Nat) : Int) ≤ (s.size : Int) := by omega
        go_enter Tryd.func21, Tryd.ntmps21
        go_wp2_with fail
        refine CC.out.mono ?_
        rintro e w1 ⟨rfl, hb⟩
        go_wp2_with fail
        refine (CL.out _).mono ?_
        rintro e w2 ⟨rfl, rfl⟩
        go_wp2_with fail
        go_quiet (fail)
        go_wp2_with fail
        go_ret3
        exact FIN.out _ (hb.trans ⟨rfl, rfl, rfl, Nat.le_refl _, fun _ _ => rfl⟩)
  · have he := str_eq_true h1
    have FIN : Hid (∀ W, Below w.heap.size w W → ParR s w (.returned (.tuple #[.string ⟨#[]⟩, .string ⟨#[]⟩, .bool false])) W) := Lib.hid (fun W hb => by
      subst he
      exact ⟨rfl, hb⟩)
    clear he
    go_enter Tryd.func21, Tryd.ntmps21
    go_wp2_with fail
    go_ret3
    exact FIN.out _ (Below.refl _ _)

theorem beq_bs (l m : List UInt8) : ((bs l).toList == m) = (l == m) := by rw [eq_test, bs_data]
theorem under_pu {a b : ByteArray} (ha : cleanS a = true) (hb : cleanS b = true) : underS a b = puL a.data.toList b.data.toList := by
  unfold underS underL
  rw [show cleanL a.data.toList = true from ha, show cleanL b.data.toList = true from hb, pu_eq ha hb]; rfl
theorem empty_beq (l : List UInt8) : (l == []) = l.isEmpty := by cases l <;> rfl

set_option maxHeartbeats 4000000 in
set_option maxRecDepth 100000 in
theorem Under_any (a b : ByteArray) (w : World) (ha : a.size ≤ 100000) (hb : b.size ≤ 100000) :
    Calls Tryd.prog 14 #[.string a, .string b] w fun e w' => e = .returned (.bool (underS a b)) ∧ Below w.heap.size w w' := by
  have CA := Clean_any a w ha
  have CB := fun W => Clean_any b W hb
  cases h1 : cleanS a
  · have HB : Hid (underS a b = false) := Lib.hid (by unfold underS underL; rw [show cleanL a.data.toList = false from h1]; rfl)
    rw [h1] at CA
    have CA := Lib.hid CA
    clear h1 CB
    go_enter Tryd.func14, Tryd.ntmps14
    go_wp2_with fail
    refine CA.out.mono ?_
    rintro e w1 ⟨rfl, hb1⟩
    go_wp2_with fail
    go_ret
    exact ⟨ret_bool HB.out.symm, hb1⟩
  · rw [h1] at CA
    have CA := Lib.hid CA
    cases h2 : cleanS b
    · have HB : Hid (underS a b = false) := Lib.hid (by unfold underS underL; rw [show cleanL b.data.toList = false from h2]; simp)
      rw [h2] at CB
      have CB := Lib.hid CB
      clear h1 h2
      go_enter Tryd.func14, Tryd.ntmps14
      go_wp2_with fail
      refine CA.out.mono ?_
      rintro e w1 ⟨rfl, hb1⟩
      go_wp2_with fail
      refine (CB.out _).mono ?_
      rintro e w2 ⟨rfl, hb2⟩
      go_wp2_with fail
      go_ret
      exact ⟨ret_bool HB.out.symm, hb1.trans (hb2.mono hb1.size)⟩
    · rw [h2] at CB
      have CB := Lib.hid CB
      have HU := under_pu h1 h2
      unfold puL at HU
      rw [← eq_test, ← empty_beq, ← beq_bs (Lib.trimPrefix b.data.toList a.data.toList) []] at HU
      have CP := Tryd.strings_CutPrefix b a
      have CH := fun X W => Tryd.strings_HasPrefix X ⟨#[47]⟩ W
      rw [show (⟨(Lib.trimPrefix b.data.toList a.data.toList).toArray⟩ : ByteArray) = bs (Lib.trimPrefix b.data.toList a.data.toList) from rfl] at CP
      have CH := CH (bs (Lib.trimPrefix b.data.toList a.data.toList))
      rw [bs_data, show (⟨#[47]⟩ : ByteArray).data.toList = [47] from rfl] at CH
      generalize Lib.hasPrefix b.data.toList a.data.toList = f at *
      generalize Lib.hasPrefix (Lib.trimPrefix b.data.toList a.data.toList) [47] = g at *
      generalize bs (Lib.trimPrefix b.data.toList a.data.toList) = R at *
      have CP := Lib.hid CP
      have CH := Lib.hid CH
      clear h1 h2
      cases f
      · have HB : Hid (underS a b = false) := Lib.hid (by rw [HU]; rfl)
        clear HU
        go_enter Tryd.func14, Tryd.ntmps14
        go_wp2_with fail
        refine CA.out.mono ?_
        rintro e w1 ⟨rfl, hb1⟩
        go_wp2_with fail
        refine (CB.out _).mono ?_
        rintro e w2 ⟨rfl, hb2⟩
        go_wp2_with fail
        refine (CP.out _).mono ?_
        rintro e w3 ⟨rfl, rfl⟩
        go_wp2_with fail
        go_ret
        exact ⟨ret_bool HB.out.symm, hb1.trans (hb2.mono hb1.size)⟩
      · rw [Bool.true_and] at HU
        cases h3 : (a.toList == [47])
        · rw [h3, Bool.false_or] at HU
          cases h4 : (R.toList == [])
          · rw [h4, Bool.false_or] at HU
            have HB := Lib.hid HU
            clear HU
            go_enter Tryd.func14, Tryd.ntmps14
            go_wp2_with fail
            refine CA.out.mono ?_
            rintro e w1 ⟨rfl, hb1⟩
            go_wp2_with fail
            refine (CB.out _).mono ?_
            rintro e w2 ⟨rfl, hb2⟩
            go_wp2_with fail
            refine (CP.out _).mono ?_
            rintro e w3 ⟨rfl, rfl⟩
            go_wp2_with fail
            refine (CH.out _).mono ?_
            rintro e w4 ⟨rfl, rfl⟩
            go_wp2_with fail
            go_ret
            exact ⟨ret_bool HB.out.symm, hb1.trans (hb2.mono hb1.size)⟩
          · have HB : Hid (underS a b = true) := Lib.hid (by rw [HU, h4]; rfl)
            clear HU
            go_enter Tryd.func14, Tryd.ntmps14
            go_wp2_with fail
            refine CA.out.mono ?_
            rintro e w1 ⟨rfl, hb1⟩
            go_wp2_with fail
            refine (CB.out _).mono ?_
            rintro e w2 ⟨rfl, hb2⟩
            go_wp2_with fail
            refine (CP.out _).mono ?_
            rintro e w3 ⟨rfl, rfl⟩
            go_wp2_with fail
            go_ret
            exact ⟨ret_bool HB.out.symm, hb1.trans (hb2.mono hb1.size)⟩
        · have HB : Hid (underS a b = true) := Lib.hid (by rw [HU, h3]; rfl)
          clear HU
          go_enter Tryd.func14, Tryd.ntmps14
          go_wp2_with fail
          refine CA.out.mono ?_
          rintro e w1 ⟨rfl, hb1⟩
          go_wp2_with fail
          refine (CB.out _).mono ?_
          rintro e w2 ⟨rfl, hb2⟩
          go_wp2_with fail
          refine (CP.out _).mono ?_
          rintro e w3 ⟨rfl, rfl⟩
          go_wp2_with fail
          go_ret
          exact ⟨ret_bool HB.out.symm, hb1.trans (hb2.mono hb1.size)⟩
end Go.Proofs.YtlfeaamfgfegdaaDoor.pt
