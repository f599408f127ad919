/-
  No text of a set is shorter than the one that is written: each number at the edge of a range weighs its digits and one more. No program but the definitions of what it answers.
-/
import Derived.Test.YtjckgehlojcinaaDoorText
namespace Go.Proofs.YtjckgehlojcinaaDoor.mk
open Go.RowKit Go.Proofs.YtjckgehlojcinaaDoor.rg

/-- a number of a set with a neighbour that is not in it, or 0 -/
def edge (m n : Nat) : Bool := m.testBit n && (decide (n = 0) || (!m.testBit (n - 1) || !m.testBit (n + 1)))
/-- the digits of a number below 32 and one more -/
def cost (n : Nat) : Nat := if n < 10 then 2 else 3
def wtAt (m n : Nat) : Nat := if edge m n then cost n else 0
def wt (m : Nat) : Nat := ((List.range 32).map (wtAt m)).sum

theorem sum_le (f g h : Nat → Nat) : ∀ l : List Nat, (∀ n ∈ l, f n ≤ g n + h n) → (l.map f).sum ≤ (l.map g).sum + (l.map h).sum
  | [], _ => by simp
  | x :: r, hh => by
    have ih := sum_le f g h r (fun n hn => hh n (List.mem_cons_of_mem _ hn))
    have hx := hh x (by simp)
    simp only [List.map_cons, List.sum_cons]
    omega

theorem sum_ge (f g h : Nat → Nat) : ∀ l : List Nat, (∀ n ∈ l, g n + h n ≤ f n) → (l.map g).sum + (l.map h).sum ≤ (l.map f).sum
  | [], _ => by simp
  | x :: r, hh => by
    have ih := sum_ge f g h r (fun n hn => hh n (List.mem_cons_of_mem _ hn))
    have hx := hh x (by simp)
    simp only [List.map_cons, List.sum_cons]
    omega

theorem wt_or (m s : Nat) : wt (m ||| s) ≤ wt m + wt s := by
  refine sum_le _ _ _ _ fun n _ => ?_
  unfold wtAt edge
  simp only [Nat.testBit_or]
  cases m.testBit n <;> cases s.testBit n <;> cases m.testBit (n - 1) <;> cases s.testBit (n - 1) <;> cases m.testBit (n + 1) <;> cases s.testBit (n + 1) <;> cases decide (n = 0) <;> simp

/-- what a range's text and a comma take -/
def spanCost (a b : Nat) : Nat := if a = b then cost a else cost a + cost b

set_option maxRecDepth 100000 in
theorem wt_span : ∀ a < 32, ∀ b < 32, a ≤ b → wt (2 ^ (b + 1) - 2 ^ a) = spanCost a b := by decide +kernel

set_option maxRecDepth 100000 in
theorem dR_len : ∀ a < 32, ∀ b < 32, (dR a b).length + 1 = spanCost a b := by decide +kernel

theorem wt_nxt (m : Nat) (h0 : m ≠ 0) (h : m < 4294967296) : wt (2 ^ (lo m + ln m - 1 + 1) - 2 ^ lo m) + wt (nxt m) ≤ wt m := by
  obtain ⟨l1, l2, l3⟩ := lo_bits m h0 h
  obtain ⟨a1, a2, a3, a4⟩ := ln_bits m h0 h
  refine sum_ge _ _ _ _ fun n _ => ?_
  unfold wtAt edge
  have ts := fun i => testBit_span (lo m) (lo m + ln m - 1) i (by omega)
  have tn := fun i => nxt_bits m i h0 h
  rw [ts n, ts (n - 1), ts (n + 1), tn n, tn (n - 1), tn (n + 1)]
  by_cases h1 : n < lo m
  · rw [l3 n h1, decide_eq_false (show ¬ lo m ≤ n by omega)]; simp
  · by_cases h2 : n < lo m + ln m
    · -- in the lowest range
      rw [a4 n (by omega) h2, decide_eq_true (show lo m ≤ n by omega), decide_eq_true (show n ≤ lo m + ln m - 1 by omega), decide_eq_true h2]
      by_cases hz : n = 0
      · subst hz; simp
      · rw [decide_eq_false hz]
        by_cases e1 : n = lo m
        · rw [l3 (n - 1) (by omega)]; simp; split <;> omega
        · by_cases e2 : n + 1 = lo m + ln m
          · rw [e2, a3]; simp; split <;> omega
          · rw [decide_eq_true (show lo m ≤ n - 1 by omega), decide_eq_true (show n - 1 ≤ lo m + ln m - 1 by omega), decide_eq_true (show lo m ≤ n + 1 by omega), decide_eq_true (show n + 1 ≤ lo m + ln m - 1 by omega)]
            simp
    · -- above it
      rw [decide_eq_false (show ¬ n ≤ lo m + ln m - 1 by omega), decide_eq_false h2, decide_eq_false (show ¬ n + 1 < lo m + ln m by omega)]
      by_cases e1 : n = lo m + ln m
      · rw [e1, a3]; simp
      · rw [decide_eq_false (show ¬ n - 1 < lo m + ln m by omega)]; simp

theorem wt_zero : wt 0 = 0 := by decide +kernel

/-- the text of ranges and a comma for each weigh at most what the set does -/
theorem rngs_wt : ∀ (f m : Nat), m < 4294967296 → (((rngs f m).map fmtR).map fun x => x.length + 1).sum ≤ wt m
  | 0, m, _ => by simp [rngs]
  | f + 1, m, hm => by
    unfold rngs
    by_cases h0 : m = 0
    · rw [if_pos h0]; simp
    · rw [if_neg h0]
      obtain ⟨l1, _, _⟩ := lo_bits m h0 hm
      obtain ⟨a1, a2, _, _⟩ := ln_bits m h0 hm
      have ih := rngs_wt f (nxt m) (nxt_lt m hm)
      have hw := wt_nxt m h0 hm
      rw [wt_span _ l1 _ (by omega) (by omega)] at hw
      have hl := dR_len (lo m) l1 (lo m + ln m - 1) (by omega)
      rw [List.map_cons, List.map_cons, List.sum_cons, fmtR_dR _ l1 (by show lo m + ln m - 1 < 32; omega)]
      show (dR (lo m) (lo m + ln m - 1)).length + 1 + _ ≤ _
      omega

theorem join_wt : ∀ xs : List (List UInt8), xs ≠ [] → (Lib.join xs [44]).length + 1 = (xs.map fun x => x.length + 1).sum
  | [], h => absurd rfl h
  | [x], _ => by rw [Lib.join_one]; simp
  | x :: y :: r, _ => by
    have ih := join_wt (y :: r) (by simp)
    have e : Lib.join (x :: y :: r) [44] = x ++ 44 :: Lib.join (y :: r) [44] := by simp [Lib.join, List.intercalate, List.intersperse]
    rw [e, List.map_cons, List.sum_cons, ← ih]
    simp; omega

/-- the pieces of a text weigh what it does -/
theorem cutAt_wt : ∀ l : List UInt8, ((cutAt 44 l).map fun x => x.length + 1).sum = l.length + 1
  | [] => by simp [cutAt]
  | x :: r => by
    have ih := cutAt_wt r
    rw [cutAt_cons]
    split
    · rw [List.map_cons, List.sum_cons, ih]; simp; omega
    · cases hq : cutAt 44 r with
      | nil => exact absurd hq (cutAt_ne 44 r)
      | cons p ps =>
        rw [hq] at ih
        simp only [push, List.map_cons, List.sum_cons, List.length_cons] at ih ⊢
        omega

theorem cutB_wt (s : ByteArray) : ((cutB 44 s).map fun x => x.size + 1).sum = s.size + 1 := by
  unfold cutB
  have := cutAt_wt s.data.toList
  rw [bytes_len] at this
  rw [List.map_map, ← this]
  congr 1

/-- a number is at least as long as its digits -/
theorem numO_cost (l : List UInt8) (v : Nat) (h : numO l = some v) : v < 32 → cost v ≤ l.length + 1 := by
  intro _
  unfold numO at h
  split at h
  · cases h
  · rename_i hb
    split at h
    · rename_i ha
      have h1 : ¬ l.length < 1 := by intro hc; exact hb (by unfold badForm; simp [hc])
      have hv := valD_take l ha l.length
      rw [List.take_length] at hv
      cases h
      unfold cost
      split
      · omega
      · have : l.length ≠ 1 := by intro hc; rw [hc] at hv; simp at hv; omega
        omega
    · cases h

/-- an item and its comma weigh at least what its range does -/
theorem rngO_cost (x : ByteArray) (A Z : Nat) (h : rngO x = some (A, Z)) (hA : A ≤ Z) (hZ : Z < 32) : spanCost A Z ≤ x.size + 1 := by
  unfold rngO rngR at h
  unfold spanCost
  rcases rg.index_cases x 45 with hi | ⟨i, hi⟩
  · rw [cut2_none hi] at h
    dsimp only at h
    cases hn : numO x.data.toList with
    | none => rw [hn] at h; simp at h
    | some n =>
      rw [hn] at h
      simp at h
      obtain ⟨rfl, rfl⟩ := h
      rw [if_pos rfl]
      have := numO_cost _ _ hn hZ
      rw [bytes_len] at this
      exact this
  · obtain ⟨hi1, _⟩ := rg.cutB_some 45 x i hi
    rw [cut2_some hi] at h
    dsimp only at h
    cases hn : numO (x.extract 0 i).data.toList with
    | none => rw [hn] at h; simp at h
    | some n =>
      rw [hn] at h
      dsimp only at h
      cases hm : numO (x.extract (i + 1) x.size).data.toList with
      | none => rw [hm] at h; simp at h
      | some m =>
        rw [hm] at h
        simp at h
        obtain ⟨_, rfl, rfl⟩ := h
        have c1 := numO_cost _ _ hn (by omega)
        have c2 := numO_cost _ _ hm hZ
        rw [bytes_len, ByteArray.size_extract] at c1 c2
        split
        · omega
        · omega

theorem rngO_le {x : ByteArray} {A Z : Nat} (ho : rngO x = some (A, Z)) : A ≤ Z := by
  have hf : (rngR x).2.2 = true := by
    unfold rngO at ho
    split at ho
    · assumption
    · cases ho
  obtain ⟨A', Z', e1, e2, e3, e4, e5⟩ := rngO_some (s := x) (a := (rngR x).1) (z := (rngR x).2.1) (by rw [← hf])
  rw [ho] at e5
  cases e5
  exact e3

theorem parL_mark (R : Nat) : ∀ (l : List ByteArray) (M : Nat), parL l M true ≠ (R, 0)
  | [], M => by simp [parL]
  | y :: t, M => by
    intro hc
    rw [parL] at hc
    cases hy : rngO y with
    | none => rw [hy] at hc; simp at hc
    | some q =>
      obtain ⟨a, z⟩ := q
      rw [hy] at hc
      change (if z < 32 then _ else _) = _ at hc
      split at hc
      · exact parL_mark R t _ hc
      · exact parL_mark R t _ hc

/-- what the items make weighs at most what they do -/
theorem parL_wt : ∀ (l : List ByteArray) (M R : Nat), parL l M false = (R, 0) → M < 4294967296 → R < 4294967296 ∧ wt R ≤ wt M + (l.map fun x => x.size + 1).sum
  | [], M, R, h, hM => by simp [parL] at h; subst h; exact ⟨hM, by simp⟩
  | x :: r, M, R, h, hM => by
    rw [parL] at h
    cases ho : rngO x with
    | none => rw [ho] at h; simp at h
    | some p =>
      obtain ⟨A, Z⟩ := p
      rw [ho] at h
      change (if Z < 32 then _ else _) = _ at h
      by_cases hZ : Z < 32
      · rw [if_pos hZ] at h
        have hAZ := rngO_le ho
        obtain ⟨i1, i2⟩ := parL_wt r _ R h (orsp_lt M A Z hM hZ)
        have h1 := wt_or M (2 ^ (Z + 1) - 2 ^ A)
        rw [wt_span A (by omega) Z hZ hAZ] at h1
        have h2 := rngO_cost x A Z ho hAZ hZ
        refine ⟨i1, ?_⟩
        rw [List.map_cons, List.sum_cons]
        omega
      · rw [if_neg hZ] at h
        exact absurd h (parL_mark _ _ _)

/-- nothing is taken out -/
theorem parL_keeps (i : Nat) : ∀ (l : List ByteArray) (M R : Nat), parL l M false = (R, 0) → M.testBit i = true → R.testBit i = true
  | [], M, R, h, hM => by simp [parL] at h; subst h; exact hM
  | x :: r, M, R, h, hM => by
    rw [parL] at h
    cases ho : rngO x with
    | none => rw [ho] at h; simp at h
    | some p =>
      obtain ⟨A, Z⟩ := p
      rw [ho] at h
      change (if Z < 32 then _ else _) = _ at h
      split at h
      · exact parL_keeps i r _ R h (by rw [Nat.testBit_or, hM]; rfl)
      · exact absurd h (parL_mark _ _ _)

/-- items make no empty set -/
theorem parL_ne (x : ByteArray) (r : List ByteArray) (M R : Nat) (h : parL (x :: r) M false = (R, 0)) : R ≠ 0 := by
  rw [parL] at h
  cases ho : rngO x with
  | none => rw [ho] at h; simp at h
  | some p =>
    obtain ⟨A, Z⟩ := p
    rw [ho] at h
    have hAZ := rngO_le ho
    change (if Z < 32 then _ else _) = _ at h
    split at h
    · have := parL_keeps A r _ R h (by rw [Nat.testBit_or, testBit_span A Z A hAZ]; simp; right; exact hAZ)
      intro hc
      rw [hc] at this
      simp at this
    · exact absurd h (parL_mark _ _ _)

theorem wt_full : wt 4294967295 = 5 := by decide +kernel

/-- no text of a set is shorter than the one that is written -/
theorem short (s : ByteArray) (m : Nat) (h : parS s = (m, 0)) : m < 4294967296 ∧ (⟨(fmtS m).toArray⟩ : ByteArray).size ≤ s.size := by
  have hsz : s.toList.length = s.size := toList_len s
  have hgo : (⟨(fmtS m).toArray⟩ : ByteArray).size = (fmtS m).length := by show (fmtS m).toArray.size = _; rw [List.size_toArray]
  rw [hgo]
  unfold parS at h
  by_cases h1 : s.toList = [97, 108, 108]
  · rw [if_pos h1] at h
    cases h
    rw [h1] at hsz
    refine ⟨by omega, ?_⟩
    rw [← hsz]; decide
  · rw [if_neg h1] at h
    by_cases h2 : s.toList = [110, 111, 110, 101]
    · rw [if_pos h2] at h
      cases h
      rw [h2] at hsz
      refine ⟨by omega, ?_⟩
      rw [← hsz]; decide
    · rw [if_neg h2] at h
      obtain ⟨w1, w2⟩ := parL_wt _ _ _ h (by omega)
      rw [wt_zero, cutB_wt] at w2
      refine ⟨w1, ?_⟩
      unfold fmtS
      rw [Nat.mod_eq_of_lt w1]
      by_cases e1 : m = 4294967295
      · rw [if_pos e1]
        rw [e1, wt_full] at w2
        simp; omega
      · rw [if_neg e1]
        by_cases e2 : m = 0
        · -- no items make the empty set
          exfalso
          cases hq : cutB 44 s with
          | nil => exact cutB_ne 44 s hq
          | cons x r => rw [hq] at h; exact parL_ne x r 0 m h e2
        · rw [if_neg e2]
          have := rngs_wt 33 m w1
          have hne : rngs 33 m ≠ [] := by unfold rngs; rw [if_neg e2]; simp
          rw [← join_wt _ (by simpa using hne)] at this
          omega
end Go.Proofs.YtjckgehlojcinaaDoor.mk
