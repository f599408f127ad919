/-
  The text of a set, read again, and the lengths of the texts of a set; no program but the definitions of what it answers.
-/
import Derived.Test.YtjckgehlojcinaaDoorMaskParses
namespace Go.Proofs.YtjckgehlojcinaaDoor.mk
open Go.RowKit Go.Proofs.YtjckgehlojcinaaDoor.rg

/-- the digits of a number below 100 -/
def dd (n : Nat) : List UInt8 := if n < 10 then [UInt8.ofNat (48 + n)] else [UInt8.ofNat (48 + n / 10), UInt8.ofNat (48 + n % 10)]

theorem dd_eq (n : Nat) (h : n < 100) : Lib.decDigits n = dd n := by
  unfold dd
  split
  · rename_i h1; exact Lib.decDigits_one h1
  · rename_i h1; exact Lib.decDigits_two h1 h

/-- the text of a range, by the digits -/
def dR (a b : Nat) : List UInt8 := if a = b then dd a else dd a ++ (45 :: dd b)

theorem fmtR_dR (r : Nat × Nat) (h1 : r.1 < 32) (h2 : r.2 < 32) : fmtR r = dR r.1 r.2 := by
  unfold fmtR dR
  rw [dd_eq _ (by omega), dd_eq _ (by omega)]

set_option maxRecDepth 100000 in
theorem dR_read : ∀ a < 32, ∀ b < 32, a ≤ b → rngO ⟨(dR a b).toArray⟩ = some (a, b) := by decide +kernel

set_option maxRecDepth 100000 in
theorem dR_bytes : ∀ a < 32, ∀ b < 32, dR a b ≠ [] ∧ ∀ x ∈ dR a b, x ≠ 44 ∧ x ≠ 97 ∧ x ≠ 110 := by decide +kernel

theorem cutAt_join : ∀ (xs : List (List UInt8)), xs ≠ [] → (∀ x ∈ xs, ∀ y ∈ x, y ≠ 44) → cutAt 44 (Lib.join xs [44]) = xs
  | [], h, _ => absurd rfl h
  | [x], _, h => by
    rw [Lib.join_one]
    refine cutAt_none 44 x fun k hk => ?_
    exact h x (by simp) 44 (List.mem_of_getElem? hk) rfl
  | x :: y :: r, _, h => by
    have ih := cutAt_join (y :: r) (by simp) (fun z hz => h z (List.mem_cons_of_mem _ hz))
    have e : Lib.join (x :: y :: r) [44] = x ++ 44 :: Lib.join (y :: r) [44] := by simp [Lib.join, List.intercalate, List.intersperse]
    rw [e, cutAt_some 44 _ x.length (by simp) (fun k hk hc => by
      rw [List.getElem?_append_left hk] at hc
      exact h x (by simp) 44 (List.mem_of_getElem? hc) rfl)]
    rw [List.take_left, show x.length + 1 = (x ++ [44]).length by simp, show x ++ 44 :: Lib.join (y :: r) [44] = (x ++ [44]) ++ Lib.join (y :: r) [44] by simp, List.drop_left, ih]

/-- the ranges of a set are ranges -/
theorem rngs_le : ∀ (f m : Nat), m < 4294967296 → ∀ r ∈ rngs f m, r.1 ≤ r.2
  | 0, _, _, r, h => by simp [rngs] at h
  | f + 1, m, hm, r, h => by
    unfold rngs at h
    by_cases h0 : m = 0
    · simp [h0] at h
    · rw [if_neg h0] at h
      rcases List.mem_cons.1 h with rfl | h
      · obtain ⟨a1, a2, _, _⟩ := ln_bits m h0 hm
        show lo m ≤ lo m + ln m - 1
        omega
      · exact rngs_le f (nxt m) (nxt_lt m hm) r h

/-- the lowest range and the rest make the set -/
theorem span_or_nxt (m : Nat) (h0 : m ≠ 0) (h : m < 4294967296) : (2 ^ (lo m + ln m - 1 + 1) - 2 ^ lo m) ||| nxt m = m := by
  obtain ⟨a1, a2, a3, a4⟩ := ln_bits m h0 h
  apply Nat.eq_of_testBit_eq
  intro i
  rw [Nat.testBit_or, nxt_bits m i h0 h, testBit_span _ _ i (by omega)]
  by_cases h1 : lo m ≤ i
  · by_cases h2 : i < lo m + ln m
    · rw [a4 i h1 h2, decide_eq_true h1, decide_eq_true h2, decide_eq_true (show i ≤ lo m + ln m - 1 by omega)]; rfl
    · rw [decide_eq_true h1, decide_eq_false h2, decide_eq_false (show ¬ i ≤ lo m + ln m - 1 by omega)]; simp
  · rw [decide_eq_false h1]; simp

theorem parL_rngs : ∀ (f m M : Nat), m < 4294967296 → (mem m).length < f → parL ((rngs f m).map strR) M false = (M ||| m, 0)
  | 0, _, _, _, h => by omega
  | f + 1, m, M, hm, h => by
    unfold rngs
    by_cases h0 : m = 0
    · rw [if_pos h0, h0]; simp [parL]
    · rw [if_neg h0]
      obtain ⟨l1, _, _⟩ := lo_bits m h0 hm
      obtain ⟨a1, a2, _, _⟩ := ln_bits m h0 hm
      have ih := parL_rngs f (nxt m) (M ||| (2 ^ (lo m + ln m - 1 + 1) - 2 ^ lo m)) (nxt_lt m hm) (by have := cnt_nxt m h0 hm; omega)
      have hr : rngO (strR (lo m, lo m + ln m - 1)) = some (lo m, lo m + ln m - 1) := by
        unfold strR
        rw [fmtR_dR _ l1 (by show lo m + ln m - 1 < 32; omega)]
        exact dR_read _ l1 _ (by omega) (by omega)
      rw [List.map_cons, parL, hr]
      show (if lo m + ln m - 1 < 32 then _ else _) = _
      rw [if_pos (by omega), ih, Nat.or_assoc, span_or_nxt m h0 hm]

theorem toList_mk (l : List UInt8) : (⟨l.toArray⟩ : ByteArray).toList = l := by rw [ByteArray.toList_eq]

/-- what is written is read as the set -/
theorem parS_fmtS (m : Nat) (hm : m < 4294967296) : parS ⟨(fmtS m).toArray⟩ = (m, 0) := by
  unfold parS fmtS
  rw [toList_mk, Nat.mod_eq_of_lt hm]
  by_cases h1 : m = 4294967295
  · rw [if_pos h1, if_pos rfl, h1]
  · rw [if_neg h1]
    by_cases h2 : m = 0
    · rw [if_pos h2, if_neg (by decide), if_pos rfl, h2]
    · rw [if_neg h2]
      have hne : rngs 33 m ≠ [] := by unfold rngs; rw [if_neg h2]; simp
      have hb : ∀ x ∈ (rngs 33 m).map fmtR, x ≠ [] ∧ ∀ y ∈ x, y ≠ 44 ∧ y ≠ 97 ∧ y ≠ 110 := by
        intro x hx
        obtain ⟨r, hr, rfl⟩ := List.mem_map.1 hx
        obtain ⟨r1, r2⟩ := rngs_lt _ _ hm r hr
        rw [fmtR_dR r r1 r2]
        exact dR_bytes _ r1 _ r2
      have hcut : cutB 44 ⟨(Lib.join ((rngs 33 m).map fmtR) [44]).toArray⟩ = (rngs 33 m).map strR := by
        unfold cutB
        show (cutAt 44 (Lib.join ((rngs 33 m).map fmtR) [44])).map _ = _
        rw [cutAt_join _ (by simpa using hne) (fun x hx y hy => ((hb x hx).2 y hy).1), List.map_map]
        rfl
      have hhead : ∃ d t, Lib.join ((rngs 33 m).map fmtR) [44] = d :: t ∧ d ≠ 97 ∧ d ≠ 110 := by
        cases hq : (rngs 33 m).map fmtR with
        | nil => exact absurd hq (by simpa using hne)
        | cons x r =>
          obtain ⟨b1, b2⟩ := hb x (by rw [hq]; simp)
          cases x with
          | nil => exact absurd rfl b1
          | cons d t => exact ⟨d, t ++ Lib.joinTail [44] r, by rw [Lib.join_cons]; rfl, (b2 d (by simp)).2.1, (b2 d (by simp)).2.2⟩
      obtain ⟨d, t, hd, n1, n2⟩ := hhead
      rw [if_neg (by rw [hd]; intro hc; exact n1 (List.cons.inj hc).1), if_neg (by rw [hd]; intro hc; exact n2 (List.cons.inj hc).1), hcut, parL_rngs 33 m 0 hm (by have := cnt_le m; omega), Nat.zero_or]

theorem fmtS_len (m : Nat) (hm : m < 4294967296) : (⟨(fmtS m).toArray⟩ : ByteArray).size ≤ 1000 := by
  show (fmtS m).toArray.size ≤ 1000
  rw [List.size_toArray]
  unfold fmtS
  rw [Nat.mod_eq_of_lt hm]
  split
  · simp
  · split
    · simp
    · have h1 := join_len [44] 5 ((rngs 33 m).map fmtR) (fun x hx => by
        obtain ⟨r, hr, rfl⟩ := List.mem_map.1 hx
        obtain ⟨r1, r2⟩ := rngs_lt _ _ hm r hr
        exact fmtR_le r r1 r2)
      have h2 : ∀ (f m : Nat), (rngs f m).length ≤ f := by
        intro f
        induction f with
        | zero => intro m; simp [rngs]
        | succ f ih => intro m; unfold rngs; split; · simp
                       · have := ih (nxt m); simp; omega
      have h3 := h2 33 m
      rw [List.length_map] at h1
      simp at h1
      omega
end Go.Proofs.YtjckgehlojcinaaDoor.mk
