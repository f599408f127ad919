/-
  The law PathBack: its walk.
-/
import Derived.Test.YtlfeaamfgfegdaaDoorPAg
import Derived.Test.YtlfeaamfgfegdaaDoorPJs
import Derived.Test.YtlfeaamfgfegdaaDoorSrcN
import Derived.Test.YtlfeaamfgfegdaaDoorRow
import Derived.Test.YtlfeaamfgfegdaaDoorRows
namespace Go.Proofs.YtlfeaamfgfegdaaDoor
open Go.RowKit Go.Proofs.YtlfeaamfgfegdaaDoor.cm Go.Proofs.YtlfeaamfgfegdaaDoor.pt Go.Proofs.YtlfeaamfgfegdaaDoor.sr

namespace pathBack
theorem lift {f : FuncId} {args : Array Value} {E : Ending} {w : World} (h : ∀ W, Calls Tryd.prog f args W fun e w' => e = E ∧ Below W.heap.size W w') : ∀ W, Below w.heap.size w W → Calls Tryd.prog f args W fun e w' => e = E ∧ Below w.heap.size w w' :=
  fun W hb => (h W).mono fun _ _ ⟨h1, h2⟩ => ⟨h1, hb.trans (h2.mono hb.size)⟩
/-- a clean path and its names -/
theorem parent_of {p : ByteArray} (h : cleanS p = true) : ∃ xs, xs.all nameL = true ∧ p = pt.bs (dirL xs) := by
  obtain ⟨xs, h1, h2⟩ := clean_names h
  exact ⟨xs, h1, bs_ext h2⟩
/-- a name handed out, with "..." in the place of "a/b" -/
def NnP (n : ByteArray) : Prop := n.size ≤ 13 ∧ (47 : UInt8) ∉ n.data.toList

/-- what Parent says of a directory's entry -/
theorem parent_join_any {xs : List (List UInt8)} {n : List UInt8} (h : xs.all nameL = true) (hn : (47 : UInt8) ∉ n) :
    parentL (joinL (xs ++ [n])) = if nameL n = true then (dirL xs, n, true) else ([], [], false) := by
  cases hnm : nameL n
  · rw [if_neg (by decide)]
    by_cases he : xs ≠ [] ∨ n ≠ []
    · exact parent_no (by rw [clean_snoc_iff h hn he]; exact hnm)
    · have h1 : xs = [] := Decidable.byContradiction fun h => he (.inl h)
      have h2 : n = [] := Decidable.byContradiction fun h => he (.inr h)
      subst h1; subst h2
      exact parent_root
  · rw [if_pos rfl]
    exact parent_join h hnm

/-- Parent at a clean path: either the root, or a directory and a name that joined are the path -/
theorem parent_clean {p : ByteArray} (h : cleanS p = true) : (p = ⟨#[47]⟩ ∧ parentL p.data.toList = ([], [], false)) ∨
    ((p.toList == [47]) = false ∧ ∃ d n, parentL p.data.toList = (d, n, true) ∧ joinB (pt.bs d) (pt.bs n) = p ∧ d.length ≤ p.size ∧ n.length ≤ p.size) := by
  by_cases hr : p.data.toList = [47]
  · left
    refine ⟨bs_ext hr, by rw [hr]; exact parent_root⟩
  · right
    obtain ⟨ys, n, h1, h2, h3⟩ := clean_snoc h hr
    refine ⟨by rw [eq_test]; exact beq_eq_false_iff_ne.2 hr, dirL ys, n, by rw [h3]; exact parent_join h1 h2, ?_, ?_, ?_⟩
    · rw [joinB_bs, pt.bs_data, joinP_dir h1]
      exact (bs_ext h3).symm
    · rw [Lib.size_eq, h3, join_snoc, List.length_append, List.length_cons]
      unfold dirL
      split
      · simp; omega
      · omega
    · rw [Lib.size_eq, h3, join_snoc, List.length_append, List.length_cons]
      omega
/-- Parent of what Join makes of a clean path and a name -/
theorem parent_made {p n : ByteArray} (h : cleanS p = true) (hn : (47 : UInt8) ∉ n.data.toList) : parentL (joinB p n).data.toList = if nameS n = true then (p.data.toList, n.data.toList, true) else ([], [], false) := by
  obtain ⟨xs, h1, rfl⟩ := parent_of h
  rw [joinB_bs, pt.bs_data, joinP_dir h1, parent_join_any h1 hn, pt.bs_data]; rfl

set_option maxRecDepth 100000 in
set_option maxHeartbeats 16000000 in
theorem walk (la : Option Addr) (llen lcap : Nat) (zs : List Int) (w : World) (hr : IsRow .i64 w la llen lcap zs) (_ : laidMetH Tryd.prog Rows.pathBackRow.laid w) (_ : w.ShapedOpen Tryd.prog) :
    Calls Tryd.prog 6 #[.slice la llen lcap] w fun e w' => e = .returned (.bool true) ∧ Below w.heap.size w w' := by
  have CW := Lib.hid (lift (w := w) (fun W => pt.awake_any W))
  have CNW := Lib.hid (new_any la llen lcap w)
  have HS := Lib.hid (src_new w la llen lcap (nums_of_row hr))
  clear hr
  go_enter Tryd.func6, Tryd.ntmps6
  go_wp2_with fail
  refine CNW.out.mono ?_
  rintro e w1 ⟨rfl, hw1⟩
  have hs1 := HS.out
  rw [← hw1] at hs1
  have hb1 : Below w.heap.size w w1 := by rw [hw1]; exact (Below.refl _ _).alloc (Nat.le_refl _) _
  clear hw1
  have CA := Lib.hid (clean_b w w1 w.heap.size la llen lcap 0 hs1 (by omega))
  clear hs1
  go_wp2_with fail
  refine CA.out.mono ?_
  rintro e w2 ⟨k2, hk2, p0, hp0, rfl, hs2, hbe2⟩
  have hb2 : Below w.heap.size w w2 := hb1.trans (hbe2.below (Nat.le_refl _) hb1.size)
  have CN := Lib.hid (name_b w w2 w.heap.size la llen lcap k2 hs2 (by omega))
  clear hs2 hbe2 hb1
  go_wp2_with fail
  refine CN.out.mono ?_
  rintro e w3 ⟨n0, hn0, rfl, hs3, hbe3⟩
  have hb3 : Below w.heap.size w w3 := hb2.trans (hbe3.below (Nat.le_refl _) hb2.size)
  have C6 := Lib.hid (n_b w w3 w.heap.size la llen lcap (k2 + 2) 6 hs3 (by omega) (by omega) (by omega))
  clear hs3 hbe3 hb2
  have hp0' : cleanS p0 = true ∧ p0.size ≤ 6 := by
    obtain ⟨xs, h1, h2, rfl, h4⟩ := hp0
    refine ⟨?_, h4⟩
    unfold cleanS
    rw [pt.bs_data]
    exact (clean_iff _).2 (.inr ⟨xs, h2, h1, rfl⟩)
  -- what is said of every path and name
  have PB : Hid (∀ p n : ByteArray, (cleanS p = true ∧ p.size ≤ 6) → NnP n →
      ∃ (d m : ByteArray) (ok : Bool) (d2 m2 : ByteArray) (is : Bool),
        (∀ W, Below w.heap.size w W → Calls Tryd.prog 21 #[.string p] W fun e w' => e = .returned (.tuple #[.string d, .string m, .bool ok]) ∧ Below w.heap.size w w') ∧
        (∀ W, Below w.heap.size w W → Calls Tryd.prog 12 #[.string d, .string m] W fun e w' => e = .returned (.string (joinB d m)) ∧ Below w.heap.size w w') ∧
        (∀ W, Below w.heap.size w W → Calls Tryd.prog 12 #[.string p, .string n] W fun e w' => e = .returned (.string (joinB p n)) ∧ Below w.heap.size w w') ∧
        (∀ W, Below w.heap.size w W → Calls Tryd.prog 21 #[.string (joinB p n)] W fun e w' => e = .returned (.tuple #[.string d2, .string m2, .bool is]) ∧ Below w.heap.size w w') ∧
        (∀ W, Below w.heap.size w W → Calls Tryd.prog 22 #[.string n] W fun e w' => e = .returned (.bool is) ∧ Below w.heap.size w w') ∧
        ((ok = false ∧ (p.toList == [47]) = true) ∨ (ok = true ∧ (p.toList == [47]) = false ∧ ((joinB d m).toList == p.toList) = true)) ∧
        (is = false ∨ (is = true ∧ (d2.toList == p.toList) = true ∧ (m2.toList == n.toList) = true))) := Lib.hid (fun p n ⟨hp, hps⟩ ⟨hns, hnn⟩ => by
    have hj := joinB_size p n
    have q1 := parent_made hp hnn
    have P1 := lift (w := w) (fun W => Parent_any p W (by omega))
    have P2 := lift (w := w) (fun W => Parent_any (joinB p n) W (by omega))
    have J2 : ∀ W, Below w.heap.size w W → Calls Tryd.prog 12 #[.string p, .string n] W fun e w' => e = .returned (.string (joinB p n)) ∧ Below w.heap.size w w' := fun W hb => (Join_any p n W (by omega) (by omega)).mono fun e w' ⟨h1, h2⟩ => ⟨h1, by rw [← h2]; exact hb⟩
    have N1 := lift (w := w) (fun W => Name_any n W)
    rw [q1] at P2
    have last : ∃ (d2 m2 : ByteArray), (∀ W, Below w.heap.size w W → Calls Tryd.prog 21 #[.string (joinB p n)] W fun e w' => e = .returned (.tuple #[.string d2, .string m2, .bool (nameS n)]) ∧ Below w.heap.size w w') ∧ (nameS n = false ∨ (nameS n = true ∧ (d2.toList == p.toList) = true ∧ (m2.toList == n.toList) = true)) := by
      cases hnm : nameS n
      · rw [hnm, if_neg (by decide)] at P2
        exact ⟨_, _, P2, .inl rfl⟩
      · rw [hnm, if_pos rfl] at P2
        exact ⟨_, _, P2, .inr ⟨rfl, by rw [str_beq, pt.bs_data]; simp, by rw [str_beq, pt.bs_data]; simp⟩⟩
    obtain ⟨d2, m2, L1, L2⟩ := last
    rcases parent_clean hp with ⟨h1, h2⟩ | ⟨h1, d, m, h2, h3, h4, h5⟩
    · rw [h2] at P1
      exact ⟨_, _, _, d2, m2, nameS n, P1, fun W hb => (Join_any _ _ W (by decide) (by decide)).mono fun e w' ⟨h1, h2⟩ => ⟨h1, by rw [← h2]; exact hb⟩, J2, L1, N1, .inl ⟨rfl, by rw [h1, eq_test]; rfl⟩, L2⟩
    · rw [h2] at P1
      exact ⟨_, _, _, d2, m2, nameS n, P1, fun W hb => (Join_any _ _ W (by rw [bs_len]; show d.length ≤ _; omega) (by rw [bs_len]; show m.length ≤ _; omega)).mono fun e w' ⟨h1, h2⟩ => ⟨h1, by rw [← h2]; exact hb⟩, J2, L1, N1, .inr ⟨rfl, h1, by rw [h3, str_beq]; simp⟩, L2⟩)
  have HN : Hid ((n0.toList == [97, 47, 98]) = true ∨ ((n0.toList == [97, 47, 98]) = false ∧ NnP n0)) := Lib.hid (by
    rcases hn0.2 with h | h
    · left; rw [h, eq_test]; rfl
    · cases hc : (n0.toList == [97, 47, 98])
      · exact .inr ⟨rfl, hn0.1, h⟩
      · exact .inl rfl)
  have HND : Hid (NnP ⟨#[46, 46, 46]⟩) := Lib.hid ⟨by decide, by decide⟩
  have HPR : Hid (cleanS ⟨#[47]⟩ = true ∧ (⟨#[47]⟩ : ByteArray).size ≤ 6) := Lib.hid ⟨by decide, by decide⟩
  have HP0 := Lib.hid hp0'
  clear hp0 hp0' hn0
  have fin : Hid (∀ (n : ByteArray), NnP n → True) := Lib.hid (fun _ _ => trivial)
  clear fin
  rcases HN.out with hc | ⟨hc, hn1⟩
  have HN1 := HND
  rotate_left
  have HN1 := Lib.hid hn1
  clear hn1
  all_goals
    go_wp2_with fail
    refine C6.out.mono ?_
    rintro e w4 ⟨x, hx, rfl, hs4, hbe4⟩
    have hb4 : Below w.heap.size w w4 := hb3.trans (hbe4.below (Nat.le_refl _) hb3.size)
    clear hs4 hbe4
    have hx2 : ((x : Int) == 0) = true ∨ ((x : Int) == 0) = false := by
      cases ((x : Int) == 0) <;> simp
    rcases hx2 with hx2 | hx2
    have PP := PB.out _ _ HPR.out HN1.out
    rotate_left
    have PP := PB.out _ _ HP0.out HN1.out
    all_goals
      obtain ⟨d, m, ok, d2, m2, is, P1, J1, J2, P2, N1, F1, F2⟩ := PP
      have P1 := Lib.hid P1
      have J1 := Lib.hid J1
      have J2 := Lib.hid J2
      have P2 := Lib.hid P2
      have N1 := Lib.hid N1
      clear PB HN HND HPR HP0 HN1 CN CA hb3
      generalize joinB d m = JJ at *
      rcases F1 with ⟨rfl, f1⟩ | ⟨rfl, f1, f2⟩
      all_goals
        rcases F2 with rfl | ⟨rfl, f3, f4⟩
        all_goals first
          | (exfalso; rw [eq_test] at f1; cases f1; done)
          | (try have f3' : (d2.toList == [47]) = true := by (have h := f3; rw [toL ⟨#[47]⟩] at h; exact h)
             try have f4' : (m2.toList == [46, 46, 46]) = true := by (have h := f4; rw [toL ⟨#[46, 46, 46]⟩] at h; exact h)
             go_wp2_with fail
             repeat
              ((first
                | (with_reducible refine (P1.out _ (by assumption)).mono ?_)
                | (with_reducible refine (P2.out _ (by assumption)).mono ?_)
                | (with_reducible refine (J1.out _ (by assumption)).mono ?_)
                | (with_reducible refine (J2.out _ (by assumption)).mono ?_)
                | (with_reducible refine (N1.out _ (by assumption)).mono ?_)
                | (with_reducible refine (CW.out _ (by assumption)).mono ?_))
               rintro e v4 ⟨rfl, g4⟩
               go_wp2_with fail)
             go_ret
             exact ⟨rfl, by assumption⟩)
end pathBack
end Go.Proofs.YtlfeaamfgfegdaaDoor
