/-
  Plain facts on numbers and their bits for layer 1; no program.
-/
import Derived.Lib.TrailingZeros
import Derived.Lib.ItoaNum
import Derived.Lib.Join
import Derived.Laws.BitsAllLaws
namespace Go.Proofs.YtjckgehlojcinaaDoor.mk

theorem pow_lt (b : Nat) (hb : b < 32) : 2 ^ b ≤ 2147483648 := by
  have : (2 : Nat) ^ b ≤ 2 ^ 31 := Nat.pow_le_pow_right (by omega) (by omega)
  simpa using this

/-- what span computes -/
theorem span_num (a b : Nat) (ha : a ≤ b) (hb : b < 32) : IntKind.u64.wrap (IntKind.u64.wrap (2 * 2 ^ b) - IntKind.u64.wrap (2 ^ a)) = ((2 ^ (b + 1) - 2 ^ a : Nat) : Int) := by
  have h1 := pow_lt b hb
  have h2 : (2 : Nat) ^ a ≤ 2 ^ b := Nat.pow_le_pow_right (by omega) ha
  have e1 : (2 : Int) ^ b = ((2 ^ b : Nat) : Int) := by simp
  have e2 : (2 : Int) ^ a = ((2 ^ a : Nat) : Int) := by simp
  rw [e1, e2, Nat.pow_succ]
  simp only [IntKind.wrap, IntKind.bits, IntKind.signed]
  generalize (2 : Nat) ^ b = x at *
  generalize (2 : Nat) ^ a = y at *
  simp
  omega

theorem valid_num (m : Nat) (hm : m < 18446744073709551616) : (bits .andNot .u64 (m : Int) 4294967295 == 0) = decide (m < 4294967296) := by
  have e : bits .andNot .u64 (m : Int) ((4294967295 : Nat) : Int) = ((m &&& (18446744073709551615 - 4294967295) : Nat) : Int) := u64_andNot_nat m 4294967295 hm (by omega)
  have e' : bits .andNot .u64 (m : Int) 4294967295 = ((m &&& 18446744069414584320 : Nat) : Int) := e
  rw [e']
  have k : m &&& 18446744069414584320 = m - m % 4294967296 := by
    apply Nat.eq_of_testBit_eq
    intro i
    have e1 : m - m % 4294967296 = 4294967296 * (m / 4294967296) := by omega
    have e2 : 18446744069414584320 = 2 ^ 32 * (2 ^ 32 - 1) := by decide
    have e3 : 4294967296 * (m / 4294967296) = 2 ^ 32 * (m / 2 ^ 32) := by simp
    rw [e1, e2, e3, Nat.testBit_and, Nat.testBit_two_pow_mul, Nat.testBit_two_pow_mul, Nat.testBit_two_pow_sub_one, Nat.testBit_div_two_pow]
    by_cases h : 32 ≤ i
    · simp only [h, decide_true, Bool.true_and]
      have : i - 32 + 32 = i := by omega
      rw [this]
      by_cases h2 : i - 32 < 32
      · simp [h2]
      · have : m.testBit i = false := Nat.testBit_lt_two_pow (Nat.lt_of_lt_of_le hm (by have : (2:Nat)^64 ≤ 2^i := Nat.pow_le_pow_right (by omega) (by omega); simpa using this))
        simp [this]
    · simp [h]
  rw [k]
  by_cases h : m < 4294967296
  · have : m - m % 4294967296 = 0 := by omega
    simp [this, h]
  · have : m - m % 4294967296 ≠ 0 := by omega
    simp [h]; omega

theorem rvalid_num (m : Nat) : (((m : Int) / 4294967296) == 0) = decide (m < 4294967296) := by
  by_cases h : m < 4294967296
  · have : (m : Int) / 4294967296 = 0 := by omega
    simp [this, h]
  · have : ¬ (m : Int) / 4294967296 = 0 := by omega
    simp [this, h]

/-- the bit of a call -/
theorem testBit_num (m : Nat) (n : Nat) (hm : m < 18446744073709551616) : (bits .and .u64 ((m : Int) / 2 ^ n) 1 == 1) = m.testBit n := by
  have e0 : (m : Int) / 2 ^ n = ((m / 2 ^ n : Nat) : Int) := by simp
  have hlt : m / 2 ^ n < 18446744073709551616 := Nat.lt_of_le_of_lt (Nat.div_le_self _ _) hm
  have e : bits .and .u64 ((m / 2 ^ n : Nat) : Int) ((1 : Nat) : Int) = ((m / 2 ^ n &&& 1 : Nat) : Int) := u64_and_nat _ 1 hlt (by omega)
  have e' : bits .and .u64 ((m : Int) / 2 ^ n) 1 = ((m / 2 ^ n &&& 1 : Nat) : Int) := by rw [e0]; exact e
  rw [e', Nat.and_one_is_mod, Nat.testBit_eq_decide_div_mod_eq]
  rw [Bool.eq_iff_iff]
  simp
  omega

/-- bits of a span -/
theorem testBit_span (a b i : Nat) (ha : a ≤ b) : (2 ^ (b + 1) - 2 ^ a).testBit i = (decide (a ≤ i) && decide (i ≤ b)) := by
  have e : 2 ^ (b + 1) - 2 ^ a = 2 ^ a * (2 ^ (b + 1 - a) - 1) := by
    have : (2 : Nat) ^ (b + 1) = 2 ^ a * 2 ^ (b + 1 - a) := by rw [← Nat.pow_add]; congr 1; omega
    rw [this, Nat.mul_sub, Nat.mul_one]
  rw [e, Nat.testBit_two_pow_mul, Nat.testBit_two_pow_sub_one]
  by_cases h : a ≤ i
  · simp [h]; omega
  · simp [h]

theorem span_lt (a b : Nat) (hb : b < 32) : 2 ^ (b + 1) - 2 ^ a < 18446744073709551616 := by
  have h : (2 : Nat) ^ (b + 1) ≤ 2 ^ 32 := Nat.pow_le_pow_right (by omega) (by omega)
  generalize (2 : Nat) ^ (b + 1) = x at *
  generalize (2 : Nat) ^ a = y at *
  omega

/-- m & span(n, n) != 0 is the bit -/
theorem has_num (m n : Nat) (hm : m < 18446744073709551616) (hn : n < 32) : (bits .and .u64 (m : Int) ((2 ^ (n + 1) - 2 ^ n : Nat) : Int) != 0) = m.testBit n := by
  rw [u64_and_nat m _ hm (span_lt n n hn)]
  have k : m &&& (2 ^ (n + 1) - 2 ^ n) = if m.testBit n then 2 ^ n else 0 := by
    apply Nat.eq_of_testBit_eq
    intro i
    rw [Nat.testBit_and, testBit_span n n i (Nat.le_refl _)]
    by_cases h : n = i
    · subst h
      cases hb : m.testBit n <;> simp
    · have : (decide (n ≤ i) && decide (i ≤ n)) = false := by simp; omega
      rw [this]
      cases hb : m.testBit n <;> simp [h]
  rw [k]
  have hp : 0 < 2 ^ n := Nat.two_pow_pos n
  cases hb : m.testBit n
  · simp
  · rw [if_pos rfl]
    clear k
    generalize (2 : Nat) ^ n = y at *
    rw [bne_iff_ne]; omega

/-- the set of the numbers of a list, or the error (10) -/
def ofL : Nat → List Int → Nat × Int
  | m, [] => (m, 0)
  | m, x :: r => if 0 ≤ x ∧ x < 32 then ofL (m ||| 2 ^ x.toNat) r else (0, 10)

theorem or_lt (m n : Nat) (hm : m < 4294967296) (hn : n < 32) : m ||| 2 ^ n < 4294967296 := by
  have : m ||| 2 ^ n < 2 ^ 32 := Nat.or_lt_two_pow (by simpa using hm) (Nat.pow_lt_pow_right (by omega) (by omega))
  simpa using this

theorem or_num (m n : Nat) (hm : m < 4294967296) (hn : n < 32) : bits .or .u64 (m : Int) ((2 ^ (n + 1) - 2 ^ n : Nat) : Int) = ((m ||| 2 ^ n : Nat) : Int) := by
  rw [u64_or_nat m _ (by omega) (span_lt n n hn)]
  have : 2 ^ (n + 1) - 2 ^ n = 2 ^ n := by rw [Nat.pow_succ]; omega
  rw [this]

theorem one_shl (n : Nat) (hn : n < 32) : IntKind.u64.wrap (2 ^ n) = ((2 ^ n : Nat) : Int) := by
  have h := pow_lt n hn
  have e2 : (2 : Int) ^ n = ((2 ^ n : Nat) : Int) := by simp
  rw [e2]
  simp only [IntKind.wrap, IntKind.bits, IntKind.signed]
  generalize (2 : Nat) ^ n = y at *
  simp
  omega

theorem or_num' (m n : Nat) (hm : m < 4294967296) (hn : n < 32) : bits .or .u64 (m : Int) (IntKind.u64.wrap (2 ^ n)) = ((m ||| 2 ^ n : Nat) : Int) := by
  rw [one_shl n hn, u64_or_nat m _ (by omega) (by have := pow_lt n hn; omega)]
end Go.Proofs.YtjckgehlojcinaaDoor.mk
namespace Go.Proofs.YtjckgehlojcinaaDoor.mk
/-- the complement of a 64-bit number -/
theorem compl_num (x : Nat) (hx : x < 18446744073709551616) : bits .xor .u64 IntKind.u64.max (x : Int) = ((18446744073709551615 - x : Nat) : Int) := by
  have e : IntKind.u64.max = ((18446744073709551615 : Nat) : Int) := by decide
  rw [e, u64_xor_nat _ x (by omega) hx]
  have k : 18446744073709551615 ^^^ x = 18446744073709551615 - x := by
    apply Nat.eq_of_testBit_eq
    intro i
    have e1 : 18446744073709551615 - x = 2 ^ 64 - (x + 1) := by omega
    have e2 : 18446744073709551615 = 2 ^ 64 - 1 := by decide
    rw [e1, Nat.testBit_two_pow_sub_succ (by simpa using hx), Nat.testBit_xor, e2, Nat.testBit_two_pow_sub_one]
    by_cases h : i < 64
    · simp [h]
    · have : x.testBit i = false := Nat.testBit_lt_two_pow (Nat.lt_of_lt_of_le hx (by have : (2:Nat)^64 ≤ 2^i := Nat.pow_le_pow_right (by omega) (by omega); simpa using this))
      simp [h, this]
  rw [k]
end Go.Proofs.YtjckgehlojcinaaDoor.mk
