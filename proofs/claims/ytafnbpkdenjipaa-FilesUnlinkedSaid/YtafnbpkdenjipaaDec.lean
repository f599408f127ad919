/-
  What every layer needs of the reference of layer 1: Decimal writes the digits of any number that is not negative.
-/
import Derived.Test.YtafnbpkdenjipaaChecked
import Derived.Lib.ItoaNum
import Derived.Lib.Strings
import Derived.WalkKit
import Derived.BigQuiet
import Derived.Deep.QuietTactic
import Derived.Lib.Hide
import Derived.WalkLawsBesides
import Derived.Outline
import Derived.IntWalk
namespace Go.Proofs.Ytafnbpkdenjipaa.cm
open Go.RowKit

theorem ret_bool {a b : Bool} (h : a = b) : Ending.returned (.bool a) = .returned (.bool b) := by rw [h]
theorem ret_int {k : IntKind} {a b : Int} (h : a = b) : Ending.returned (.int k a) = .returned (.int k b) := by rw [h]
theorem ret_str {a b : ByteArray} (h : a = b) : Ending.returned (.string a) = .returned (.string b) := by rw [h]
theorem val_eq {a b : Int} (h : a = b) : Value.int .i64 a = Value.int .i64 b := by rw [h]
theorem ret_nb {a a' : Int} {b b' : Bool} (h : a = a') (h' : b = b') : Ending.returned (.tuple #[.int .i64 a, .bool b]) = .returned (.tuple #[.int .i64 a', .bool b']) := by rw [h, h']
theorem bytes_len (s : ByteArray) : s.data.toList.length = s.size := (Lib.size_eq s).symm

theorem enc_digit (d : Nat) (h : d < 10) : Utf8.encode (48 + (d : Int)) = ⟨#[UInt8.ofNat (48 + d)]⟩ := by
  unfold Utf8.encode
  have hv : Utf8.valid (48 + (d : Int)) = true := by
    unfold Utf8.valid
    simp; omega
  have hn : (48 + (d : Int)).toNat = 48 + d := by omega
  simp only [hv, hn, if_true]
  rw [if_pos (by omega)]

theorem digits_pow : ∀ (k n : Nat), 0 < k → n < 10 ^ k → (Lib.decDigits n).length ≤ k
  | 0, _, h0, _ => by omega
  | k + 1, n, _, h => by
    unfold Lib.decDigits
    split
    · simp
    · rename_i hn
      have hk : 0 < k := by
        apply Nat.pos_of_ne_zero; intro hc; subst hc; simp at h; omega
      have := digits_pow k (n / 10) hk (by rw [Nat.pow_succ] at h; omega)
      simp; omega

theorem ret_strl {a b : List UInt8} (h : a = b) : Ending.returned (.string ⟨a.toArray⟩) = .returned (.string ⟨b.toArray⟩) := by rw [h]

theorem str_eq {a b : ByteArray} (h : a = b) : Value.string a = Value.string b := by rw [h]

theorem cat_digit (d : Nat) (h : d < 10) (t : ByteArray) : Utf8.encode (48 + (d : Int)) ++ t = ⟨(UInt8.ofNat (48 + d) :: t.data.toList).toArray⟩ := by
  rw [enc_digit d h]
  apply ByteArray.ext
  simp

end Go.Proofs.Ytafnbpkdenjipaa.cm
