/-
  What every layer needs of the reference of layer 1: Decimal writes the digits of any number that is not negative.
-/
import Derived.Test.YtdndngabddnpmaaGreatDoorChecked
import Derived.Lib.ItoaNum
import Derived.Lib.Strings
import Derived.WalkKit
import Derived.BigQuiet
import Derived.Deep.QuietTactic
import Derived.Lib.Hide
import Derived.WalkLawsBesides
import Derived.Outline
import Derived.IntWalk
namespace Go.Proofs.YtdndngabddnpmaaGreatDoor.cm
open Go.RowKit

theorem ret_bool {a b : Bool} (h : a = b) : Ending.returned (.bool a) = .returned (.bool b) := by rw [h]
theorem ret_int {k : IntKind} {a b : Int} (h : a = b) : Ending.returned (.int k a) = .returned (.int k b) := by rw [h]
theorem ret_str {a b : ByteArray} (h : a = b) : Ending.returned (.string a) = .returned (.string b) := by rw [h]
theorem val_eq {a b : Int} (h : a = b) : Value.int .i64 a = Value.int .i64 b := by rw [h]
theorem ret_nb {a a' : Int} {b b' : Bool} (h : a = a') (h' : b = b') : Ending.returned (.tuple #[.int .i64 a, .bool b]) = .returned (.tuple #[.int .i64 a', .bool b']) := by rw [h, h']
theorem bytes_len (s : ByteArray) : s.data.toList.length = s.size := (Lib.size_eq s).symm

theorem enc_digit (d : Nat) (h : d < 10) : Utf8.encode (48 + (d : Int)) = ⟨#[UInt8.ofNat (48 + d)]⟩ := by
  unfold Utf8.encode
  have hv : Utf8.valid (48 + (d : Int)) = true := by
    unfold Utf8.valid
    simp; omega
  have hn : (48 + (d : Int)).toNat = 48 + d := by omega
  simp only [hv, hn, if_true]
  rw [if_pos (by omega)]

theorem digits_pow : ∀ (k n : Nat), 0 < k → n < 10 ^ k → (Lib.decDigits n).length ≤ k
  | 0, _, h0, _ => by omega
  | k + 1, n, _, h => by
    unfold Lib.decDigits
    split
    · simp
    · rename_i hn
      have hk : 0 < k := by
        apply Nat.pos_of_ne_zero; intro hc; subst hc; simp at h; omega
      have := digits_pow k (n / 10) hk (by rw [Nat.pow_succ] at h; omega)
      simp; omega

theorem ret_strl {a b : List UInt8} (h : a = b) : Ending.returned (.string ⟨a.toArray⟩) = .returned (.string ⟨b.toArray⟩) := by rw [h]

theorem str_eq {a b : ByteArray} (h : a = b) : Value.string a = Value.string b := by rw [h]

theorem cat_digit (d : Nat) (h : d < 10) (t : ByteArray) : Utf8.encode (48 + (d : Int)) ++ t = ⟨(UInt8.ofNat (48 + d) :: t.data.toList).toArray⟩ := by
  rw [enc_digit d h]
  apply ByteArray.ext
  simp

set_option maxHeartbeats 1000000 in
theorem dec_any (n : Nat) (w : World) (hn : n ≤ 9223372036854775807) :
    Calls Tryz.prog 22 #[.int .i64 n] w fun e w' => e = .returned (.string ⟨(Lib.decDigits n).toArray⟩) ∧ w = w' := by
  have HD := Lib.hid (digits_pow 19 n (by omega) (by simp; omega))
  go_enter Tryz.func22, Tryz.ntmps22
  go_wp2
  go_loop [0, 3] (fun i s => ∃ (k : Nat) (t : ByteArray), k ≤ n ∧ i = .int .i64 k ∧ s = .string t ∧ t.size ≤ 19 ∧ Hid (Lib.decDigits n = Lib.decDigits k ++ t.data.toList)) (fun i _ => (intOf i).toNat)
  case atStart => exact ⟨n, ⟨#[]⟩, Nat.le_refl _, rfl, rfl, by decide, Lib.hid (by simp)⟩
  case round =>
    obtain ⟨k, t, hk, rfl, rfl, ht, HT⟩ := hrel
    by_cases hge : 10 ≤ k
    · have HC := Lib.hid (cat_digit (k % 10) (by omega) t)
      have HU : Hid (Lib.decDigits k = Lib.decDigits (k / 10) ++ [UInt8.ofNat (48 + k % 10)]) := Lib.hid (by rw [Lib.decDigits, dif_neg (by omega)])
      have HI : Hid ((48 : Int) + (k : Int) % 10 = 48 + ((k % 10 : Nat) : Int)) := Lib.hid (by omega)
      go_wp2_with fail
      · exfalso
        have h1 : 9223372036854775807 < (Utf8.encode (48 + (k : Int) % 10)).size + t.size := by assumption
        have := encode_size_le (48 + (k : Int) % 10)
        omega
      · refine ⟨⟨k / 10, ⟨(UInt8.ofNat (48 + k % 10) :: t.data.toList).toArray⟩, by omega, by go_num, ?_, ?_, Lib.hid ?_⟩, ?_⟩
        · exact str_eq (by rw [HI.out, HC.out])
        · have := HD.out
          rw [HT.out, HU.out, List.length_append, List.length_append] at this
          show (UInt8.ofNat (48 + k % 10) :: t.data.toList).toArray.size ≤ 19
          rw [List.size_toArray, List.length_cons]
          have h1 : [UInt8.ofNat (48 + k % 10)].length = 1 := rfl
          omega
        · rw [HT.out, HU.out]; simp
        · simp [intOf]; omega
    · have HC := Lib.hid (cat_digit k (by omega) t)
      have HU : Hid (Lib.decDigits k = [UInt8.ofNat (48 + k)]) := Lib.hid (Lib.decDigits_one (by omega))
      go_wp2_with fail
      · exfalso
        have h1 : 9223372036854775807 < (Utf8.encode (48 + (k : Int))).size + t.size := by assumption
        have := encode_size_le (48 + (k : Int))
        omega
      · go_ret
        exact ⟨ret_str (by rw [HC.out, HT.out, HU.out]; rfl), rfl⟩
end Go.Proofs.YtdndngabddnpmaaGreatDoor.cm
