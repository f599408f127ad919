/-
  The members of a set, its lowest range, and the ranges of its text; no program.
-/
import Derived.Test.YtjckgehlojcinaaDoorMath
namespace Go.Proofs.YtjckgehlojcinaaDoor.mk

def mem (m : Nat) : List Nat := (List.range 32).filter fun n => m.testBit n
def lo (m : Nat) : Nat := Lib.ctz 64 m
def ln (m : Nat) : Nat := Lib.ctz 64 (18446744073709551615 - m / 2 ^ lo m)
def nxt (m : Nat) : Nat := m &&& (18446744073709551615 - (2 ^ (lo m + ln m) - 2 ^ lo m))

theorem ctz_bits (x : Nat) (h0 : x ≠ 0) (h : x < 18446744073709551616) :
    Lib.ctz 64 x < 64 ∧ x.testBit (Lib.ctz 64 x) = true ∧ ∀ i, i < Lib.ctz 64 x → x.testBit i = false := by
  have hc : Lib.ctz 64 x = Lib.ctzFrom 64 x := by unfold Lib.ctz; rw [if_neg h0]
  rw [hc]
  obtain ⟨k, hk, hlt⟩ := Lib.ctzFrom_spec 64 x (by omega) (by simpa using h)
  generalize Lib.ctzFrom 64 x = c at *
  subst hk
  refine ⟨hlt, ?_, ?_⟩
  · rw [Nat.testBit_two_pow_mul]; simp
  · intro i hi
    rw [Nat.testBit_two_pow_mul]
    simp; omega

theorem bit_high (m i : Nat) (h : m < 4294967296) (hi : 32 ≤ i) : m.testBit i = false := by
  apply Nat.testBit_lt_two_pow
  have : (2 : Nat) ^ 32 ≤ 2 ^ i := Nat.pow_le_pow_right (by omega) hi
  simp at this
  omega

theorem lo_bits (m : Nat) (h0 : m ≠ 0) (h : m < 4294967296) : lo m < 32 ∧ m.testBit (lo m) = true ∧ ∀ i, i < lo m → m.testBit i = false := by
  obtain ⟨_, a, b⟩ := ctz_bits m h0 (by omega)
  refine ⟨?_, a, b⟩
  apply Nat.lt_of_not_le
  intro hc
  have := bit_high m (Lib.ctz 64 m) h hc
  rw [this] at a
  cases a

theorem ln_bits (m : Nat) (h0 : m ≠ 0) (h : m < 4294967296) :
    1 ≤ ln m ∧ lo m + ln m ≤ 32 ∧ m.testBit (lo m + ln m) = false ∧ ∀ i, lo m ≤ i → i < lo m + ln m → m.testBit i = true := by
  obtain ⟨l1, l2, l3⟩ := lo_bits m h0 h
  have hq : m / 2 ^ lo m < 4294967296 := Nat.lt_of_le_of_lt (Nat.div_le_self _ _) h
  have hy : 18446744073709551615 - m / 2 ^ lo m = 2 ^ 64 - (m / 2 ^ lo m + 1) := by omega
  have hb : ∀ i, i < 64 → (18446744073709551615 - m / 2 ^ lo m).testBit i = !m.testBit (lo m + i) := by
    intro i hi
    rw [hy, Nat.testBit_two_pow_sub_succ (by simp; omega), Nat.testBit_div_two_pow]
    simp [hi, Nat.add_comm]
  obtain ⟨c1, c2, c3⟩ := ctz_bits (18446744073709551615 - m / 2 ^ lo m) (by omega) (by generalize m / 2 ^ lo m = z at *; omega)
  have c2' : m.testBit (lo m + ln m) = false := by
    have := hb (ln m) c1
    rw [show (18446744073709551615 - m / 2 ^ lo m).testBit (ln m) = true from c2] at this
    cases hm : m.testBit (lo m + ln m)
    · rfl
    · rw [hm] at this; cases this
  have c3' : ∀ i, i < ln m → m.testBit (lo m + i) = true := by
    intro i hi
    have h64 : i < 64 := Nat.lt_trans hi c1
    have := hb i h64
    rw [c3 i hi] at this
    cases hm : m.testBit (lo m + i)
    · rw [hm] at this; cases this
    · rfl
  refine ⟨?_, ?_, c2', ?_⟩
  · apply Nat.lt_of_not_le
    intro hc
    have : ln m = 0 := by omega
    rw [this] at c2'
    simp at c2'
    rw [c2'] at l2
    cases l2
  · apply Nat.le_of_not_lt
    intro hc
    have := c3' (32 - lo m) (by omega)
    rw [bit_high m _ h (by omega)] at this
    cases this
  · intro i h1 h2
    have := c3' (i - lo m) (by omega)
    rwa [show lo m + (i - lo m) = i by omega] at this

theorem nxt_bits (m i : Nat) (h0 : m ≠ 0) (h : m < 4294967296) : (nxt m).testBit i = (m.testBit i && !(decide (lo m ≤ i) && decide (i < lo m + ln m))) := by
  obtain ⟨a1, a2, a3, a4⟩ := ln_bits m h0 h
  have hs := span_lt (lo m) (lo m + ln m - 1) (by omega)
  have hs' := testBit_span (lo m) (lo m + ln m - 1) i (by omega)
  rw [show lo m + ln m - 1 + 1 = lo m + ln m by omega] at hs hs'
  unfold nxt
  rw [Nat.testBit_and]
  by_cases hi : i < 64
  · have hy : 18446744073709551615 - (2 ^ (lo m + ln m) - 2 ^ lo m) = 2 ^ 64 - ((2 ^ (lo m + ln m) - 2 ^ lo m) + 1) := by
      generalize 2 ^ (lo m + ln m) - 2 ^ lo m = z at *
      omega
    rw [hy, Nat.testBit_two_pow_sub_succ (by simpa using hs), hs']
    have : (decide (lo m ≤ i) && decide (i ≤ lo m + ln m - 1)) = (decide (lo m ≤ i) && decide (i < lo m + ln m)) := by
      rw [Bool.eq_iff_iff]; simp; omega
    rw [this]
    simp [hi]
  · rw [bit_high m i h (by omega)]
    simp

theorem nxt_lt (m : Nat) (h : m < 4294967296) : nxt m < 4294967296 := Nat.lt_of_le_of_lt Nat.and_le_left h

theorem range_split (a b : Nat) (h : a + b ≤ 32) : List.range 32 = List.range' 0 a ++ (List.range' a b ++ List.range' (a + b) (32 - a - b)) := by
  rw [List.range_eq_range']
  have e1 := List.range'_append_1 (s := a) (m := b) (n := 32 - a - b)
  rw [e1]
  have e2 := List.range'_append_1 (s := 0) (m := a) (n := b + (32 - a - b))
  rw [Nat.zero_add] at e2
  rw [e2]
  congr 1
  omega

theorem mem_split (m : Nat) (h0 : m ≠ 0) (h : m < 4294967296) : mem m = List.range' (lo m) (ln m) ++ mem (nxt m) ∧ ∀ x ∈ mem (nxt m), lo m + ln m < x := by
  obtain ⟨a1, a2, a3, a4⟩ := ln_bits m h0 h
  obtain ⟨l1, l2, l3⟩ := lo_bits m h0 h
  have hr := range_split (lo m) (ln m) a2
  constructor
  · unfold mem
    rw [hr, List.filter_append, List.filter_append, List.filter_append, List.filter_append]
    have f1 : (List.range' 0 (lo m)).filter (fun n => m.testBit n) = [] := by
      rw [List.filter_eq_nil_iff]
      intro x hx
      have hx' := List.mem_range'_1.1 hx
      rw [l3 x (by omega)]; simp
    have f1' : (List.range' 0 (lo m)).filter (fun n => (nxt m).testBit n) = [] := by
      rw [List.filter_eq_nil_iff]
      intro x hx
      have hx' := List.mem_range'_1.1 hx
      rw [nxt_bits m x h0 h, l3 x (by omega)]; simp
    have f2 : (List.range' (lo m) (ln m)).filter (fun n => m.testBit n) = List.range' (lo m) (ln m) := by
      rw [List.filter_eq_self]
      intro x hx
      have hx' := List.mem_range'_1.1 hx
      exact a4 x hx'.1 hx'.2
    have f2' : (List.range' (lo m) (ln m)).filter (fun n => (nxt m).testBit n) = [] := by
      rw [List.filter_eq_nil_iff]
      intro x hx
      have hx' := List.mem_range'_1.1 hx
      rw [nxt_bits m x h0 h]
      simp; intro _; omega
    have f3 : (List.range' (lo m + ln m) (32 - lo m - ln m)).filter (fun n => (nxt m).testBit n) = (List.range' (lo m + ln m) (32 - lo m - ln m)).filter (fun n => m.testBit n) := by
      apply List.filter_congr
      intro x hx
      have hx' := List.mem_range'_1.1 hx
      rw [nxt_bits m x h0 h]
      have : (decide (lo m ≤ x) && decide (x < lo m + ln m)) = false := by simp; omega
      rw [this]; simp
    rw [f1, f1', f2, f2', f3]
    simp
  · intro x hx
    unfold mem at hx
    rw [List.mem_filter, nxt_bits m x h0 h] at hx
    obtain ⟨_, hx⟩ := hx
    simp at hx
    obtain ⟨x1, x2⟩ := hx
    have p1 : lo m ≤ x := by
      apply Nat.le_of_not_lt; intro hc; rw [l3 x hc] at x1; cases x1
    have p2 : lo m + ln m ≤ x := by omega
    have p3 : x ≠ lo m + ln m := by intro hc; rw [hc, a3] at x1; cases x1
    omega

theorem mem_nil (m : Nat) (h : m < 4294967296) (hn : mem m = []) : m = 0 := by
  apply Nat.eq_of_testBit_eq
  intro i
  rw [Nat.zero_testBit]
  by_cases hi : i < 32
  · unfold mem at hn
    rw [List.filter_eq_nil_iff] at hn
    have := hn i (List.mem_range.2 hi)
    simpa using this
  · exact bit_high m i h (by omega)

theorem mem_zero : mem 0 = [] := by decide

theorem cnt_nxt (m : Nat) (h0 : m ≠ 0) (h : m < 4294967296) : (mem (nxt m)).length < (mem m).length := by
  rw [(mem_split m h0 h).1]
  have := (ln_bits m h0 h).1
  simp; omega

theorem cnt_le (m : Nat) : (mem m).length ≤ 32 := by
  unfold mem
  have := List.length_filter_le (fun n => m.testBit n) (List.range 32)
  simpa using this

/-- the ranges of a set, from the lowest on -/
def rngs : Nat → Nat → List (Nat × Nat)
  | 0, _ => []
  | f + 1, m => if m = 0 then [] else (lo m, lo m + ln m - 1) :: rngs f (nxt m)

def runLen : List Nat → Nat
  | [] => 0
  | [_] => 1
  | a :: b :: r => if b = a + 1 then runLen (b :: r) + 1 else 1

/-- the ranges of a list of ascending numbers -/
def grp : Nat → List Nat → List (Nat × Nat)
  | 0, _ => []
  | _ + 1, [] => []
  | f + 1, a :: r => (a, a + runLen (a :: r) - 1) :: grp f ((a :: r).drop (runLen (a :: r)))

theorem runLen_range (b : Nat) : ∀ (a : Nat) (r : List Nat), (∀ x ∈ r, a + b + 1 < x) → runLen (List.range' a (b + 1) ++ r) = b + 1 := by
  induction b with
  | zero =>
    intro a r hr
    match r, hr with
    | [], _ => rfl
    | x :: t, hr =>
      have := hr x (by simp)
      show runLen (a :: x :: t) = 1
      unfold runLen
      rw [if_neg (by omega)]
  | succ b ih =>
    intro a r hr
    show runLen (a :: (a + 1) :: (List.range' (a + 1 + 1) b ++ r)) = b + 1 + 1
    unfold runLen
    rw [if_pos rfl]
    have := ih (a + 1) r (fun x hx => by have := hr x hx; omega)
    have e : List.range' (a + 1) (b + 1) ++ r = (a + 1) :: (List.range' (a + 1 + 1) b ++ r) := rfl
    rw [e] at this
    rw [this]

theorem rngs_grp : ∀ (f m : Nat), m < 4294967296 → rngs f m = grp f (mem m)
  | 0, _, _ => rfl
  | f + 1, m, h => by
    unfold rngs
    by_cases h0 : m = 0
    · subst h0; rw [if_pos rfl, mem_zero]; rfl
    · rw [if_neg h0]
      obtain ⟨hs, hgt⟩ := mem_split m h0 h
      have h1 := (ln_bits m h0 h).1
      obtain ⟨b, hb⟩ : ∃ b, ln m = b + 1 := ⟨ln m - 1, by omega⟩
      have hl : runLen (mem m) = ln m := by
        rw [hs, hb]
        exact runLen_range b _ _ (fun x hx => by have := hgt x hx; omega)
      have hd : (mem m).drop (runLen (mem m)) = mem (nxt m) := by
        rw [hl, hs, List.drop_left' (by simp)]
      have hm : mem m = lo m :: (mem m).tail := by rw [hs, hb]; rfl
      have hg : grp (f + 1) (mem m) = (lo m, lo m + runLen (mem m) - 1) :: grp f ((mem m).drop (runLen (mem m))) := by
        generalize mem m = l at *
        generalize l.tail = t at *
        subst hm
        rfl
      rw [hg, hd, hl, rngs_grp f (nxt m) (nxt_lt m h)]
end Go.Proofs.YtjckgehlojcinaaDoor.mk
namespace Go.Proofs.YtjckgehlojcinaaDoor.mk
/-- the set without its lowest number -/
def clr (x : Nat) : Nat := x &&& (x - 1)

theorem clr_bits (x i : Nat) (h0 : x ≠ 0) (h : x < 4294967296) : (clr x).testBit i = (x.testBit i && decide (i ≠ lo x)) := by
  have hc : Lib.ctz 64 x = Lib.ctzFrom 64 x := by unfold Lib.ctz; rw [if_neg h0]
  obtain ⟨k, hk, hlt⟩ := Lib.ctzFrom_spec 64 x (by omega) (by simp; omega)
  unfold clr lo
  rw [hc]
  generalize Lib.ctzFrom 64 x = c at *
  have hp := Nat.two_pow_pos c
  have e1 : x = 2 ^ c * (2 * k + 1) + 0 := hk
  have e2 : x - 1 = 2 ^ c * (2 * k) + (2 ^ c - 1) := by rw [hk, Nat.mul_add, Nat.mul_one]; omega
  have b1 : ∀ j, x.testBit j = if j < c then false else (2 * k + 1).testBit (j - c) := by
    intro j
    rw [e1, Nat.testBit_two_pow_mul_add _ hp]
    simp
  have b2 : ∀ j, (x - 1).testBit j = if j < c then true else (2 * k).testBit (j - c) := by
    intro j
    rw [e2, Nat.testBit_two_pow_mul_add _ (by omega), Nat.testBit_two_pow_sub_one]
    by_cases hj : j < c
    · simp [hj]
    · simp [hj]
  rw [Nat.testBit_and, b1, b2]
  by_cases hi : i < c
  · simp [hi]
  · rw [if_neg hi, if_neg hi]
    by_cases hic : i = c
    · subst hic; simp
    · obtain ⟨j, hj⟩ : ∃ j, i - c = j + 1 := ⟨i - c - 1, by omega⟩
      rw [hj, Nat.testBit_succ, Nat.testBit_succ, show (2 * k + 1) / 2 = k by omega, show 2 * k / 2 = k by omega]
      simp [hic]

theorem clr_lt (x : Nat) (h : x < 4294967296) : clr x < 4294967296 := Nat.lt_of_le_of_lt Nat.and_le_left h

theorem mem_clr (x : Nat) (h0 : x ≠ 0) (h : x < 4294967296) : mem x = lo x :: mem (clr x) := by
  obtain ⟨l1, l2, l3⟩ := lo_bits x h0 h
  have hr := range_split (lo x) 1 (by omega)
  unfold mem
  rw [hr, List.filter_append, List.filter_append, List.filter_append, List.filter_append]
  have f1 : (List.range' 0 (lo x)).filter (fun n => x.testBit n) = [] := by
    rw [List.filter_eq_nil_iff]
    intro y hy
    have hy' := List.mem_range'_1.1 hy
    rw [l3 y (by omega)]; simp
  have f1' : (List.range' 0 (lo x)).filter (fun n => (clr x).testBit n) = [] := by
    rw [List.filter_eq_nil_iff]
    intro y hy
    have hy' := List.mem_range'_1.1 hy
    rw [clr_bits x y h0 h, l3 y (by omega)]; simp
  have f2 : (List.range' (lo x) 1).filter (fun n => x.testBit n) = [lo x] := by simp [List.range', l2]
  have f2' : (List.range' (lo x) 1).filter (fun n => (clr x).testBit n) = [] := by
    simp [List.range', clr_bits x _ h0 h]
  have f3 : (List.range' (lo x + 1) (32 - lo x - 1)).filter (fun n => (clr x).testBit n) = (List.range' (lo x + 1) (32 - lo x - 1)).filter (fun n => x.testBit n) := by
    apply List.filter_congr
    intro y hy
    have hy' := List.mem_range'_1.1 hy
    rw [clr_bits x y h0 h]
    have : decide (y ≠ lo x) = true := by simp; omega
    rw [this]; simp
  rw [f1, f1', f2, f2', f3]
  simp

theorem clr_num (x : Nat) (h0 : x ≠ 0) (h : x < 4294967296) : bits .and .u64 (x : Int) ((x : Int) - 1) = ((clr x : Nat) : Int) := by
  have e : (x : Int) - 1 = ((x - 1 : Nat) : Int) := by omega
  rw [e, u64_and_nat x _ (by omega) (by omega)]
  rfl
end Go.Proofs.YtjckgehlojcinaaDoor.mk
