/-
  What the pieces of an item say of its range, and what the reference's numbers make of a set.
-/
import Derived.Test.YtjckgehlojcinaaDoorRefCut
import Derived.Test.YtjckgehlojcinaaDoorParse
namespace Go.Proofs.YtjckgehlojcinaaDoor.mk
open Go.RowKit

theorem own_below {w w' : World} {B : Nat} {e : TypeId} {size : Nat} {v : Value} {n : Nat} {xs : List Value} (h : w.ownsRow B e size v n xs) (hb : Below w.heap.size w w') : w'.ownsRow B e size v n xs := by
  refine ⟨h.1, ?_⟩
  rcases h.2 with h0 | ⟨g, cap, cur, hv, hg, hc, rest⟩
  · exact .inl h0
  · exact .inr ⟨g, cap, cur, hv, hg, (hb.block g (Array.getElem?_eq_some_iff.1 hc).1).trans hc, rest⟩

/-- the strings of a slice of the call's own -/
theorem strs_at {w : World} {B : Nat} {v : Value} {xs : List ByteArray} (h : OwnStrs B w v xs) (hn : xs ≠ []) :
    ∃ g cap, v = .slice (some ⟨g, 0, none⟩) xs.length cap ∧ g < w.heap.size ∧ ∀ (j : Nat) x, xs[j]? = some x → w.cell? ⟨g, 0 + j, none⟩ = some (.string x) := by
  obtain ⟨g, cap, hv, hg, _, hc⟩ := row_cells h (by intro hc; exact hn (List.length_eq_zero_iff.1 hc))
  exact ⟨g, cap, hv, hg.2, fun j x hj => hc j _ (by rw [List.getElem?_map, hj]; rfl)⟩

theorem cutAt_count (c : UInt8) : ∀ l : List UInt8, (rg.cutAt c l).length ≤ l.length + 1
  | [] => by simp [rg.cutAt]
  | x :: r => by
    have ih := cutAt_count c r
    rw [rg.cutAt_cons]
    split
    · simp; omega
    · cases hq : rg.cutAt c r with
      | nil => simp [rg.push]
      | cons q qs => rw [hq] at ih; simp [rg.push] at ih ⊢; omega

theorem cutB_len (c : UInt8) (s : ByteArray) : (rg.cutB c s).length ≤ s.size + 1 := by
  unfold rg.cutB
  have := cutAt_count c s.data.toList
  rw [bytes_len] at this
  simpa using this

theorem cutB_ne (c : UInt8) (s : ByteArray) : rg.cutB c s ≠ [] := by
  unfold rg.cutB
  have := rg.cutAt_ne c s.data.toList
  simpa using this

/-- what the pieces of an item say of its range -/
theorem item_forms (x : ByteArray) : (rg.cutB 45 x = [x] ∧ rngO x = (numO x.data.toList).map (fun n => (n, n))) ∨
    (∃ p y, rg.cutB 45 x = [p, y] ∧ rngO x = match numO p.data.toList with
      | none => none
      | some n => match numO y.data.toList with
        | none => none
        | some m => if n ≤ m then some (n, m) else none) ∨
    (∃ p y z r, rg.cutB 45 x = p :: y :: z :: r ∧ rngO x = none) := by
  have hO : ∀ a z f, rngR x = (a, z, f) → rngO x = if f = true then some (a.toNat, z.toNat) else none := fun a z f h => by unfold rngO; rw [h]
  rcases rg.index_cases x 45 with hi | ⟨i, hi⟩
  · refine .inl ⟨rg.cutB_none 45 x hi, ?_⟩
    have hc := cut2_none hi
    cases hn : numO x.data.toList with
    | none => rw [hO 0 0 false (by unfold rngR; rw [hc, hn])]; rfl
    | some n => rw [hO n n true (by unfold rngR; rw [hc, hn]; rfl)]; simp
  · obtain ⟨hi1, hi2⟩ := rg.cutB_some 45 x i hi
    have hc := cut2_some hi
    rcases rg.index_cases (x.extract (i + 1) x.size) 45 with hj | ⟨j, hj⟩
    · refine .inr (.inl ⟨_, _, by rw [hi2, rg.cutB_none 45 _ hj], ?_⟩)
      cases hn : numO (x.extract 0 i).data.toList with
      | none => rw [hO 0 0 false (by unfold rngR; rw [hc, hn])]; rfl
      | some n =>
        cases hm : numO (x.extract (i + 1) x.size).data.toList with
        | none => rw [hO n 0 false (by unfold rngR; rw [hc]; dsimp only; rw [hn]; dsimp only; rw [hm]; rfl)]; rfl
        | some m =>
          rw [hO n m (decide (n ≤ m)) (by unfold rngR; rw [hc]; dsimp only; rw [hn]; dsimp only; rw [hm]; rfl)]
          simp
    · obtain ⟨hj1, hj2⟩ := rg.cutB_some 45 _ j hj
      obtain ⟨z, r, hzr⟩ : ∃ z r, rg.cutB 45 ((x.extract (i + 1) x.size).extract (j + 1) (x.extract (i + 1) x.size).size) = z :: r := by
        cases hq : rg.cutB 45 ((x.extract (i + 1) x.size).extract (j + 1) (x.extract (i + 1) x.size).size) with
        | nil => exact absurd hq (cutB_ne _ _)
        | cons z r => exact ⟨z, r, rfl⟩
      refine .inr (.inr ⟨x.extract 0 i, (x.extract (i + 1) x.size).extract 0 j, z, r, by rw [hi2, hj2, hzr], ?_⟩)
      have hno : numO (x.extract (i + 1) x.size).data.toList = none := by
        obtain ⟨g1, _⟩ := Lib.indexByte_some hj
        have hl := (List.getElem?_eq_some_iff.1 g1).1
        refine numO_no _ (all_false _ j hl ?_)
        have : (x.extract (i + 1) x.size).data.toList[j] = 45 := by
          have := List.getElem?_eq_getElem hl
          rw [this] at g1; exact Option.some.inj g1
        rw [this]; rfl
      cases hn : numO (x.extract 0 i).data.toList with
      | none => rw [hO 0 0 false (by unfold rngR; rw [hc, hn])]; rfl
      | some n => rw [hO n 0 false (by unfold rngR; rw [hc]; dsimp only; rw [hn]; dsimp only; rw [hno]; rfl)]; rfl

theorem ofL_app : ∀ (l r : List Int) (a M : Nat), ofL a l = (M, 0) → ofL a (l ++ r) = ofL M r
  | [], r, a, M, h => by simp [ofL] at h; subst h; rfl
  | y :: l, r, a, M, h => by
    simp only [List.cons_append, ofL] at h ⊢
    by_cases hy : 0 ≤ y ∧ y < 32
    · rw [if_pos hy] at h ⊢; exact ofL_app l r _ M h
    · rw [if_neg hy] at h; simp at h

/-- numbers from A on, c of them, as the walk has them -/
def upto (A c : Nat) : List Nat := List.range' A c

theorem ofL_upto (M A : Nat) : ∀ c, A + c ≤ 32 → ofL M (ints (upto A c)) = (M ||| (2 ^ (A + c) - 2 ^ A), 0)
  | 0, _ => by simp [upto, ints, ofL]
  | c + 1, h => by
    have ih := ofL_upto M A c (by omega)
    have e : upto A (c + 1) = upto A c ++ [A + c] := by unfold upto; rw [List.range'_concat]; simp
    have e2 : ints (upto A (c + 1)) = ints (upto A c) ++ [((A + c : Nat) : Int)] := by rw [e]; simp [ints]
    rw [e2, ofL_app _ _ _ _ ih]
    simp only [ofL]
    rw [if_pos (by omega), show (((A + c : Nat) : Int)).toNat = A + c by omega, Nat.or_assoc]
    have e3 : (2 ^ (A + c) - 2 ^ A) ||| 2 ^ (A + c) = 2 ^ (A + (c + 1)) - 2 ^ A := by
      apply Nat.eq_of_testBit_eq
      intro i
      have t2 := testBit_span A (A + c) i (by omega)
      rw [show A + c + 1 = A + (c + 1) by omega] at t2
      rw [Nat.testBit_or, Nat.testBit_two_pow, t2]
      by_cases hc : c = 0
      · subst hc
        rw [Nat.add_zero, Nat.sub_self, Nat.zero_testBit]
        by_cases h1 : A = i
        · subst h1; simp
        · rw [decide_eq_false h1]
          by_cases h2 : A ≤ i
          · rw [decide_eq_false (show ¬ i ≤ A by omega)]; simp
          · rw [decide_eq_false h2]; simp
      · have t1 := testBit_span A (A + c - 1) i (by omega)
        rw [show A + c - 1 + 1 = A + c by omega] at t1
        rw [t1]
        by_cases h1 : A ≤ i
        · rw [decide_eq_true h1]
          by_cases h2 : i ≤ A + c - 1
          · rw [decide_eq_true h2, decide_eq_true (show i ≤ A + c by omega)]; simp
          · by_cases h3 : A + c = i
            · rw [decide_eq_true h3, decide_eq_true (show i ≤ A + c by omega)]; simp
            · rw [decide_eq_false h3, decide_eq_false h2, decide_eq_false (show ¬ i ≤ A + c by omega)]; simp
        · rw [decide_eq_false h1, decide_eq_false (show ¬ A + c = i by omega)]; simp
    rw [e3]

end Go.Proofs.YtjckgehlojcinaaDoor.mk
