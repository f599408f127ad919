/-
  The leaves of layer 1: isCall, span, Valid and Has answer as their texts say, in every world.
-/
import Derived.Test.YtjckgehlojcinaaDoorChecked
import Derived.Test.YtjckgehlojcinaaDoorMath
import Derived.WalkKit
import Derived.BigQuiet
import Derived.Deep.QuietTactic
import Derived.Lib.Hide
import Derived.WalkLawsBesides
import Derived.Outline
namespace Go.Proofs.YtjckgehlojcinaaDoor.mk
open Go.RowKit

theorem ret_bool {a b : Bool} (h : a = b) : Ending.returned (.bool a) = .returned (.bool b) := by rw [h]
theorem ret_int {k : IntKind} {a b : Int} (h : a = b) : Ending.returned (.int k a) = .returned (.int k b) := by rw [h]

theorem isCall_any (n : Int) (w : World) :
    Calls Tryd.prog 27 #[.int .i64 n] w fun e w' => e = .returned (.bool (decide (0 ≤ n ∧ n < 32))) ∧ w = w' := by
  go_enter Tryd.func27, Tryd.ntmps27
  go_wp2
  all_goals (go_ret; exact ⟨ret_bool (by simp; omega), rfl⟩)

theorem span_any (a b : Nat) (w : World) (ha : a ≤ b) (hb : b < 32) :
    Calls Tryd.prog 28 #[.int .i64 a, .int .i64 b] w fun e w' => e = .returned (.int .u64 ((2 ^ (b + 1) - 2 ^ a : Nat) : Int)) ∧ ∃ k, w' = w.drewN k := by
  have hn := span_num a b ha hb
  have HN := Lib.hid hn
  clear hn
  go_enter Tryd.func28, Tryd.ntmps28
  go_wp2
  go_quiet (fail)
  go_wp2
  go_ret
  exact ⟨ret_int HN.out, _, rfl⟩

theorem valid_any (m : Nat) (w : World) (hm : m < 18446744073709551616) :
    Calls Tryd.prog 13 #[.int .u64 m] w fun e w' => e = .returned (.bool (decide (m < 4294967296))) ∧ w = w' := by
  have HN := Lib.hid (valid_num m hm)
  go_enter Tryd.func13, Tryd.ntmps13
  go_wp2
  go_ret
  exact ⟨ret_bool HN.out, rfl⟩
theorem rvalid_any (m : Nat) (w : World) :
    Calls Tryd.prog 14 #[.int .u64 m] w fun e w' => e = .returned (.bool (decide (m < 4294967296))) ∧ w = w' := by
  have HN := Lib.hid (rvalid_num m)
  go_enter Tryd.func14, Tryd.ntmps14
  go_wp2
  go_ret
  exact ⟨ret_bool HN.out, rfl⟩

/-- whether a call is in a set -/
def hasB (m : Nat) (n : Int) : Bool := decide (0 ≤ n) && (decide (n < 32) && m.testBit n.toNat)

theorem rhas_any (m : Nat) (n : Int) (w : World) (hm : m < 18446744073709551616) :
    Calls Tryd.prog 16 #[.int .u64 m, .int .i64 n] w fun e w' => e = .returned (.bool (hasB m n)) ∧ w = w' := by
  by_cases h0 : 0 ≤ n
  · by_cases h1 : n < 32
    · obtain ⟨k, rfl⟩ := Int.eq_ofNat_of_zero_le h0
      have HN := Lib.hid (testBit_num m k hm)
      have HB : Hid (hasB m k = m.testBit k) := Lib.hid (by simp [hasB]; omega)
      go_enter Tryd.func16, Tryd.ntmps16
      go_wp2
      go_ret
      exact ⟨ret_bool (by rw [HB.out]; exact HN.out), rfl⟩
    · have HB : Hid (hasB m n = false) := Lib.hid (by simp [hasB]; omega)
      go_enter Tryd.func16, Tryd.ntmps16
      go_wp2
      go_ret
      exact ⟨ret_bool (by rw [HB.out]), rfl⟩
  · have HB : Hid (hasB m n = false) := Lib.hid (by simp [hasB]; omega)
    go_enter Tryd.func16, Tryd.ntmps16
    go_wp2
    go_ret
    exact ⟨ret_bool (by rw [HB.out]), rfl⟩

theorem has_any (m : Nat) (n : Int) (w : World) (hm : m < 18446744073709551616) :
    Calls Tryd.prog 15 #[.int .u64 m, .int .i64 n] w fun e w' => e = .returned (.bool (hasB m n)) ∧ ∃ k, w' = w.drewN k := by
  by_cases h0 : 0 ≤ n ∧ n < 32
  · obtain ⟨h0, h1⟩ := h0
    obtain ⟨k, rfl⟩ := Int.eq_ofNat_of_zero_le h0
    have HN := Lib.hid (has_num m k hm (by omega))
    have HB : Hid (hasB m k = m.testBit k) := Lib.hid (by simp [hasB]; omega)
    have c1 := fun w => isCall_any (k : Int) w
    have hd : decide (0 ≤ (k : Int) ∧ (k : Int) < 32) = true := by simp; omega
    simp only [hd] at c1
    have C1 := Lib.hid c1
    clear c1 hd
    go_enter Tryd.func15, Tryd.ntmps15
    go_wp2_with fail
    refine (C1.out _).mono ?_
    rintro e w' ⟨rfl, rfl⟩
    go_wp2_with fail
    refine (span_any k k _ (by omega) (by omega)).mono ?_
    rintro e w' ⟨rfl, nq, rfl⟩
    go_wp2_with fail
    go_ret
    exact ⟨ret_bool (by rw [HB.out]; exact HN.out), _, rfl⟩
  · have HB : Hid (hasB m n = false) := Lib.hid (by simp [hasB]; omega)
    have c1 := fun w => isCall_any n w
    have hd : decide (0 ≤ n ∧ n < 32) = false := by simp; omega
    simp only [hd] at c1
    have C1 := Lib.hid c1
    clear c1 hd
    go_enter Tryd.func15, Tryd.ntmps15
    go_wp2_with fail
    refine (C1.out _).mono ?_
    rintro e w' ⟨rfl, rfl⟩
    go_wp2_with fail
    go_ret
    exact ⟨ret_bool (by rw [HB.out]), 0, rfl⟩
end Go.Proofs.YtjckgehlojcinaaDoor.mk
