/-
  Numbers of one to four digits as both sides read them.
-/
import Derived.Test.YtjckgehlojcinaaDoorRef
import Derived.Lib.Strings
namespace Go.Proofs.YtjckgehlojcinaaDoor.mk
open Go.RowKit

def isDig (b : UInt8) : Bool := decide (48 ≤ b.toNat) && decide (b.toNat ≤ 57)
/-- the value of digits -/
def valD (l : List UInt8) : Nat := l.foldl (fun n b => 10 * n + (b.toNat - 48)) 0
/-- no text of a number: none, too long, or with a leading zero -/
def badForm (l : List UInt8) : Bool := decide (l.length < 1) || (decide (4 < l.length) || (decide (l.getD 0 0 = 48) && decide (1 < l.length)))
/-- a number of one to four digits, without leading zeros -/
def numO (l : List UInt8) : Option Nat := if badForm l then none else if l.all isDig then some (valD l) else none

theorem valD_snoc (l : List UInt8) (b : UInt8) : valD (l ++ [b]) = 10 * valD l + (b.toNat - 48) := by simp [valD]

theorem valD_take (l : List UInt8) (h : l.all isDig = true) : ∀ k, valD (l.take k) < 10 ^ k
  | 0 => by simp [valD]
  | k + 1 => by
    have ih := valD_take l h k
    by_cases hk : k < l.length
    · rw [List.take_succ_eq_append_getElem hk, valD_snoc, Nat.pow_succ]
      have hb : isDig l[k] = true := List.all_eq_true.1 h _ (List.getElem_mem hk)
      simp [isDig] at hb
      omega
    · rw [List.take_of_length_le (by omega)]
      rw [List.take_of_length_le (by omega)] at ih
      rw [Nat.pow_succ]; omega

theorem take_snoc (s : ByteArray) (k : Nat) (h : k < s.size) : s.data.toList.take (k + 1) = s.data.toList.take k ++ [s[k]] := by
  rw [List.take_succ_eq_append_getElem (by simpa using h)]; rfl

theorem all_snoc (l : List UInt8) (k : Nat) (h : k < l.length) : (l.take (k + 1)).all isDig = ((l.take k).all isDig && isDig l[k]) := by
  rw [List.take_succ_eq_append_getElem h, List.all_append]; simp

theorem all_false (l : List UInt8) (k : Nat) (h : k < l.length) (hb : isDig l[k] = false) : l.all isDig = false := by
  cases ha : l.all isDig
  · rfl
  · have := List.all_eq_true.1 ha _ (List.getElem_mem h)
    rw [hb] at this; cases this

theorem ret_nb {a a' : Int} {b b' : Bool} (h : a = a') (h' : b = b') : Ending.returned (.tuple #[.int .i64 a, .bool b]) = .returned (.tuple #[.int .i64 a', .bool b']) := by rw [h, h']

/-- the value and whether it is one, as mask has them -/
def numR (l : List UInt8) : Int × Bool := match numO l with
  | some v => (v, true)
  | none => (0, false)
/-- the value, or -1, as the reference has them -/
def numS (l : List UInt8) : Int := match numO l with
  | some v => v
  | none => -1

theorem numO_bad (l : List UInt8) (h : badForm l = true) : numO l = none := by unfold numO; rw [if_pos h]
theorem numO_no (l : List UInt8) (h : l.all isDig = false) : numO l = none := by
  unfold numO
  split
  · rfl
  · rw [h]; rfl
theorem numO_yes (l : List UInt8) (h : badForm l = false) (h' : l.all isDig = true) : numO l = some (valD l) := by
  unfold numO; rw [if_neg (by rw [h]; simp), if_pos h']

theorem numR_none {l : List UInt8} (h : numO l = none) : numR l = (0, false) := by unfold numR; rw [h]
theorem numR_some {l : List UInt8} {v : Nat} (h : numO l = some v) : numR l = ((v : Int), true) := by unfold numR; rw [h]
theorem numS_none {l : List UInt8} (h : numO l = none) : numS l = -1 := by unfold numS; rw [h]
theorem numS_some {l : List UInt8} {v : Nat} (h : numO l = some v) : numS l = (v : Int) := by unfold numS; rw [h]

theorem bytes_len (s : ByteArray) : s.data.toList.length = s.size := (Lib.size_eq s).symm
theorem bytes_at (s : ByteArray) (k : Nat) (_ : k < s.size) (_ : k < s.data.toList.length) : s.data.toList[k] = s[k] := rfl

/-- the five forms of a text, by what both sides ask of it -/
theorem forms (s : ByteArray) : (s.size = 0 ∧ badForm s.data.toList = true) ∨ (4 < s.size ∧ badForm s.data.toList = true) ∨
    ((1 ≤ s.size ∧ s.size ≤ 4) ∧ (∃ h : 0 < s.size, s[0].toNat = 48) ∧ 1 < s.size ∧ badForm s.data.toList = true) ∨
    (s.size = 1 ∧ (∃ h : 0 < s.size, s[0].toNat = 48) ∧ badForm s.data.toList = false) ∨
    ((1 ≤ s.size ∧ s.size ≤ 4) ∧ (∃ h : 0 < s.size, s[0].toNat ≠ 48) ∧ badForm s.data.toList = false) := by
  have hl := bytes_len s
  have hb : badForm s.data.toList = (decide (s.size < 1) || (decide (4 < s.size) || (decide (s.data.toList.getD 0 0 = 48) && decide (1 < s.size)))) := by unfold badForm; rw [hl]
  by_cases h0 : s.size = 0
  · exact .inl ⟨h0, by rw [hb]; simp [h0]⟩
  · by_cases h4 : 4 < s.size
    · exact .inr (.inl ⟨h4, by rw [hb]; simp [h4]⟩)
    · have hp : 0 < s.size := by omega
      have hg : s.data.toList.getD 0 0 = s[0] := by
        have := bytes_at s 0 hp (by omega)
        rw [← this]; simp [List.getD, hp]
      by_cases h48 : s[0].toNat = 48
      · have he : s[0] = 48 := by apply UInt8.toNat_inj.1; simpa using h48
        by_cases h1 : 1 < s.size
        · exact .inr (.inr (.inl ⟨⟨by omega, by omega⟩, ⟨hp, h48⟩, h1, by rw [hb, hg, he]; simp [h1]⟩))
        · exact .inr (.inr (.inr (.inl ⟨by omega, ⟨hp, h48⟩, by rw [hb, decide_eq_false (show ¬ s.size < 1 by omega), decide_eq_false (show ¬ 4 < s.size by omega), decide_eq_false (show ¬ 1 < s.size by omega)]; simp⟩)))
      · have he : s[0] ≠ 48 := by intro hc; rw [hc] at h48; exact h48 rfl
        exact .inr (.inr (.inr (.inr ⟨⟨by omega, by omega⟩, ⟨hp, h48⟩, by rw [hb, hg, decide_eq_false (show ¬ s.size < 1 by omega), decide_eq_false (show ¬ 4 < s.size by omega)]; simp [he]⟩)))

theorem toList_one (s : ByteArray) (h1 : s.size = 1) (h : 0 < s.size) (h48 : s[0].toNat = 48) : s.toList = [48] := by
  rw [ByteArray.toList_eq]
  apply List.ext_getElem
  · rw [bytes_len, h1]; rfl
  · intro i hi1 hi2
    rw [bytes_len, h1] at hi1
    obtain rfl : i = 0 := by omega
    rw [bytes_at s 0 h]
    have : s[0] = 48 := by apply UInt8.toNat_inj.1; simpa using h48
    rw [this]; rfl

theorem toList_len (s : ByteArray) : s.toList.length = s.size := by rw [ByteArray.toList_eq, bytes_len]

theorem toList_ne (s : ByteArray) (h : 0 < s.size) : ¬ s.toList = [] ∧ s.toList.isEmpty = false := by
  have := toList_len s
  have hne : ¬ s.toList = [] := by intro hc; rw [hc] at this; simp at this; omega
  exact ⟨hne, by cases hs : s.toList with | nil => exact absurd hs hne | cons a b => rfl⟩

theorem numR_no' {l : List UInt8} (h : l.all isDig = false) : numR l = (0, false) := numR_none (numO_no _ h)
theorem numR_yes' {l : List UInt8} (h : badForm l = false) (h' : l.all isDig = true) : numR l = (((valD l : Nat) : Int), true) := numR_some (numO_yes _ h h')
theorem numS_no' {l : List UInt8} (h : l.all isDig = false) : numS l = -1 := numS_none (numO_no _ h)
theorem numS_yes' {l : List UInt8} (h : badForm l = false) (h' : l.all isDig = true) : numS l = ((valD l : Nat) : Int) := numS_some (numO_yes _ h h')
theorem val_eq {a b : Int} (h : a = b) : Value.int .i64 a = Value.int .i64 b := by rw [h]

set_option maxHeartbeats 4000000 in
set_option maxRecDepth 100000 in
theorem number_any (s : ByteArray) (w : World) :
    Calls Tryd.prog 47 #[.string s] w fun e w' => e = .returned (.tuple #[.int .i64 (numR s.data.toList).1, .bool (numR s.data.toList).2]) ∧ w = w' := by
  rcases forms s with ⟨h0, hb⟩ | ⟨h4, hb⟩ | ⟨⟨h1, h4⟩, ⟨hp, h48⟩, hgt, hb⟩ | ⟨h1, ⟨hp, h48⟩, hb⟩ | ⟨⟨h1, h4⟩, ⟨hp, h48⟩, hb⟩
  · have HR := Lib.hid (numR_none (numO_bad _ hb))
    have he : s.toList = [] := List.length_eq_zero_iff.1 (by rw [toList_len]; exact h0)
    go_enter Tryd.func47, Tryd.ntmps47
    go_wp2_with fail
    go_ret2
    exact ⟨ret_nb (by rw [HR.out]) (by rw [HR.out]), rfl⟩
  · have HR := Lib.hid (numR_none (numO_bad _ hb))
    obtain ⟨e1, e2⟩ := toList_ne s (by omega)
    clear hb
    go_enter Tryd.func47, Tryd.ntmps47
    go_wp2_with fail
    go_ret2
    exact ⟨ret_nb (by rw [HR.out]) (by rw [HR.out]), rfl⟩
  · have HR := Lib.hid (numR_none (numO_bad _ hb))
    obtain ⟨e1, e2⟩ := toList_ne s (by omega)
    have e3 : (s.toList == [48]) = false := by
      apply beq_eq_false_iff_ne.2
      intro hc
      have := toList_len s
      rw [hc] at this
      simp at this; omega
    have e4 : (s[0].toNat : Int) = 48 := by omega
    clear hb h48
    go_enter Tryd.func47, Tryd.ntmps47
    go_wp2_with fail
    go_ret2
    exact ⟨ret_nb (by rw [HR.out]) (by rw [HR.out]), rfl⟩
  all_goals
    have HB := Lib.hid hb
    obtain ⟨e1, e2⟩ := toList_ne s hp
    have h4' : s.size ≤ 4 := by omega
    have hd4 : decide (4 < (s.size : Int)) = false := by simp; omega
    clear hb
  · have e3 : (s.toList == [48]) = true := by rw [toList_one s h1 hp h48]; rfl
    have e4 : (s[0].toNat : Int) = 48 := by omega
    clear h48 h1
    go_enter Tryd.func47, Tryd.ntmps47
    go_wp2_with fail
    go_loop [2, 23] (fun v i => ∃ k : Nat, k ≤ s.size ∧ i = .int .i64 (k : Int) ∧ v = .int .i64 (valD (s.data.toList.take k) : Nat) ∧ Hid ((s.data.toList.take k).all isDig = true)) (fun _ i => s.size - (intOf i).toNat)
    case atStart => exact ⟨0, Nat.zero_le _, rfl, rfl, Lib.hid rfl⟩
    case round =>
      obtain ⟨k, hk, rfl, rfl, HA⟩ := hrel
      by_cases hlt : k < s.size
      · have hl : k < s.data.toList.length := by rw [bytes_len]; exact hlt
        have HSN := Lib.hid (all_snoc _ k hl)
        have HVS : Hid (valD (s.data.toList.take (k + 1)) = 10 * valD (s.data.toList.take k) + (s[k].toNat - 48)) := Lib.hid (by rw [take_snoc s k hlt, valD_snoc])
        have HAF := Lib.hid (all_false _ k hl)
        have hv : valD (s.data.toList.take k) < 10000 := by
          have h1 := valD_take _ HA.out k
          rw [List.take_take, Nat.min_self] at h1
          have h2 : 10 ^ k ≤ 10 ^ 4 := Nat.pow_le_pow_right (by omega) (by omega)
          simp at h2; omega
        have hdig : isDig (s.data.toList[k]) = (decide (48 ≤ s[k].toNat) && decide (s[k].toNat ≤ 57)) := rfl
        have hb256 : (s[k].toNat : Int) < 256 := by have := s[k].toNat_lt; omega
        generalize valD (s.data.toList.take k) = V at *
        by_cases hd : 48 ≤ s[k].toNat ∧ s[k].toNat ≤ 57
        · have HD : Hid (isDig s.data.toList[k] = true) := Lib.hid (by rw [hdig]; simp; exact hd)
          obtain ⟨d1, d2⟩ := hd
          have d1' : (48 : Int) ≤ (s[k].toNat : Int) := by omega
          have d2' : (s[k].toNat : Int) ≤ 57 := by omega
          clear hdig d1 d2
          go_wp2_with fail
          refine ⟨⟨k + 1, by omega, by go_num, ?_, Lib.hid ?_⟩, ?_⟩
          · rw [HVS.out]; exact val_eq (by omega)
          · rw [HSN.out, HA.out, HD.out]; rfl
          · simp [intOf]; omega
        · have HD : Hid (isDig s.data.toList[k] = false) := Lib.hid (by rw [hdig]; simp; omega)
          have HR := Lib.hid (numR_no' (HAF.out HD.out))
          clear hdig
          by_cases d1 : s[k].toNat < 48
          · have d1' : (s[k].toNat : Int) < 48 := by omega
            clear d1 hd
            go_wp2_with fail
            go_ret2
            exact ⟨ret_nb (by rw [HR.out]) (by rw [HR.out]), rfl⟩
          · have d1' : (48 : Int) ≤ (s[k].toNat : Int) := by omega
            have d2' : (57 : Int) < (s[k].toNat : Int) := by omega
            clear d1 hd
            go_wp2_with fail
            go_ret2
            exact ⟨ret_nb (by rw [HR.out]) (by rw [HR.out]), rfl⟩
      · have hkn : (s.data.toList.take k) = s.data.toList := List.take_of_length_le (by rw [bytes_len]; omega)
        have HR := Lib.hid (numR_yes' HB.out (by have := HA.out; rwa [hkn] at this))
        rw [hkn]
        clear hkn
        go_wp2_with fail
        go_ret2
        exact ⟨ret_nb (by rw [HR.out]) (by rw [HR.out]), rfl⟩
  · have e4 : ((s[0].toNat : Int) == 48) = false := by apply beq_eq_false_iff_ne.2; omega
    clear h48
    go_enter Tryd.func47, Tryd.ntmps47
    go_wp2_with fail
    go_loop [2, 23] (fun v i => ∃ k : Nat, k ≤ s.size ∧ i = .int .i64 (k : Int) ∧ v = .int .i64 (valD (s.data.toList.take k) : Nat) ∧ Hid ((s.data.toList.take k).all isDig = true)) (fun _ i => s.size - (intOf i).toNat)
    case atStart => exact ⟨0, Nat.zero_le _, rfl, rfl, Lib.hid rfl⟩
    case round =>
      obtain ⟨k, hk, rfl, rfl, HA⟩ := hrel
      by_cases hlt : k < s.size
      · have hl : k < s.data.toList.length := by rw [bytes_len]; exact hlt
        have HSN := Lib.hid (all_snoc _ k hl)
        have HVS : Hid (valD (s.data.toList.take (k + 1)) = 10 * valD (s.data.toList.take k) + (s[k].toNat - 48)) := Lib.hid (by rw [take_snoc s k hlt, valD_snoc])
        have HAF := Lib.hid (all_false _ k hl)
        have hv : valD (s.data.toList.take k) < 10000 := by
          have h1 := valD_take _ HA.out k
          rw [List.take_take, Nat.min_self] at h1
          have h2 : 10 ^ k ≤ 10 ^ 4 := Nat.pow_le_pow_right (by omega) (by omega)
          simp at h2; omega
        have hdig : isDig (s.data.toList[k]) = (decide (48 ≤ s[k].toNat) && decide (s[k].toNat ≤ 57)) := rfl
        have hb256 : (s[k].toNat : Int) < 256 := by have := s[k].toNat_lt; omega
        generalize valD (s.data.toList.take k) = V at *
        by_cases hd : 48 ≤ s[k].toNat ∧ s[k].toNat ≤ 57
        · have HD : Hid (isDig s.data.toList[k] = true) := Lib.hid (by rw [hdig]; simp; exact hd)
          obtain ⟨d1, d2⟩ := hd
          have d1' : (48 : Int) ≤ (s[k].toNat : Int) := by omega
          have d2' : (s[k].toNat : Int) ≤ 57 := by omega
          clear hdig d1 d2
          go_wp2_with fail
          refine ⟨⟨k + 1, by omega, by go_num, ?_, Lib.hid ?_⟩, ?_⟩
          · rw [HVS.out]; exact val_eq (by omega)
          · rw [HSN.out, HA.out, HD.out]; rfl
          · simp [intOf]; omega
        · have HD : Hid (isDig s.data.toList[k] = false) := Lib.hid (by rw [hdig]; simp; omega)
          have HR := Lib.hid (numR_no' (HAF.out HD.out))
          clear hdig
          by_cases d1 : s[k].toNat < 48
          · have d1' : (s[k].toNat : Int) < 48 := by omega
            clear d1 hd
            go_wp2_with fail
            go_ret2
            exact ⟨ret_nb (by rw [HR.out]) (by rw [HR.out]), rfl⟩
          · have d1' : (48 : Int) ≤ (s[k].toNat : Int) := by omega
            have d2' : (57 : Int) < (s[k].toNat : Int) := by omega
            clear d1 hd
            go_wp2_with fail
            go_ret2
            exact ⟨ret_nb (by rw [HR.out]) (by rw [HR.out]), rfl⟩
      · have hkn : (s.data.toList.take k) = s.data.toList := List.take_of_length_le (by rw [bytes_len]; omega)
        have HR := Lib.hid (numR_yes' HB.out (by have := HA.out; rwa [hkn] at this))
        rw [hkn]
        clear hkn
        go_wp2_with fail
        go_ret2
        exact ⟨ret_nb (by rw [HR.out]) (by rw [HR.out]), rfl⟩

set_option maxHeartbeats 4000000 in
set_option maxRecDepth 100000 in
theorem small_any (s : ByteArray) (w : World) :
    Calls Tryd.prog 38 #[.string s] w fun e w' => e = .returned (.int .i64 (numS s.data.toList)) ∧ w = w' := by
  rcases forms s with ⟨h0, hb⟩ | ⟨h4, hb⟩ | ⟨⟨h1, h4⟩, ⟨hp, h48⟩, hgt, hb⟩ | ⟨h1, ⟨hp, h48⟩, hb⟩ | ⟨⟨h1, h4⟩, ⟨hp, h48⟩, hb⟩
  · have HR := Lib.hid (numS_none (numO_bad _ hb))
    have h0' : (s.size : Int) < 1 := by omega
    clear hb h0
    go_enter Tryd.func38, Tryd.ntmps38
    go_wp2_with fail
    go_ret
    exact ⟨ret_int (by rw [HR.out]), rfl⟩
  · have HR := Lib.hid (numS_none (numO_bad _ hb))
    clear hb
    go_enter Tryd.func38, Tryd.ntmps38
    go_wp2_with fail
    go_ret
    exact ⟨ret_int (by rw [HR.out]), rfl⟩
  · have HR := Lib.hid (numS_none (numO_bad _ hb))
    have e4 : (s[0].toNat : Int) = 48 := by omega
    clear hb h48
    go_enter Tryd.func38, Tryd.ntmps38
    go_wp2_with fail
    go_ret
    exact ⟨ret_int (by rw [HR.out]), rfl⟩
  all_goals
    have HB := Lib.hid hb
    have h1' : decide ((s.size : Int) < 1) = false := by simp; omega
    have h4' : s.size ≤ 4 := by omega
    have hd4 : decide (4 < (s.size : Int)) = false := by simp; omega
    clear hb
  · have e4 : (s[0].toNat : Int) = 48 := by omega
    have e5 : s.size ≤ 1 := by omega
    have hd5 : decide (1 < (s.size : Int)) = false := by simp; omega
    clear h48 h1
    go_enter Tryd.func38, Tryd.ntmps38
    go_wp2_with fail
    go_loop [3, 4] (fun v i => ∃ k : Nat, k ≤ s.size ∧ i = .int .i64 (k : Int) ∧ v = .int .i64 (valD (s.data.toList.take k) : Nat) ∧ Hid ((s.data.toList.take k).all isDig = true)) (fun _ i => s.size - (intOf i).toNat)
    case atStart => exact ⟨0, Nat.zero_le _, rfl, rfl, Lib.hid rfl⟩
    case round =>
      obtain ⟨k, hk, rfl, rfl, HA⟩ := hrel
      by_cases hlt : k < s.size
      · have hl : k < s.data.toList.length := by rw [bytes_len]; exact hlt
        have HSN := Lib.hid (all_snoc _ k hl)
        have HVS : Hid (valD (s.data.toList.take (k + 1)) = 10 * valD (s.data.toList.take k) + (s[k].toNat - 48)) := Lib.hid (by rw [take_snoc s k hlt, valD_snoc])
        have HAF := Lib.hid (all_false _ k hl)
        have hv : valD (s.data.toList.take k) < 10000 := by
          have h1 := valD_take _ HA.out k
          rw [List.take_take, Nat.min_self] at h1
          have h2 : 10 ^ k ≤ 10 ^ 4 := Nat.pow_le_pow_right (by omega) (by omega)
          simp at h2; omega
        have hdig : isDig (s.data.toList[k]) = (decide (48 ≤ s[k].toNat) && decide (s[k].toNat ≤ 57)) := rfl
        have hb256 : (s[k].toNat : Int) < 256 := by have := s[k].toNat_lt; omega
        generalize valD (s.data.toList.take k) = V at *
        by_cases hd : 48 ≤ s[k].toNat ∧ s[k].toNat ≤ 57
        · have HD : Hid (isDig s.data.toList[k] = true) := Lib.hid (by rw [hdig]; simp; exact hd)
          obtain ⟨d1, d2⟩ := hd
          have d1' : (48 : Int) ≤ (s[k].toNat : Int) := by omega
          have d2' : (s[k].toNat : Int) ≤ 57 := by omega
          clear hdig d1 d2
          go_wp2_with fail
          refine ⟨⟨k + 1, by omega, by go_num, ?_, Lib.hid ?_⟩, ?_⟩
          · rw [HVS.out]; exact val_eq (by omega)
          · rw [HSN.out, HA.out, HD.out]; rfl
          · simp [intOf]; omega
        · have HD : Hid (isDig s.data.toList[k] = false) := Lib.hid (by rw [hdig]; simp; omega)
          have HR := Lib.hid (numS_no' (HAF.out HD.out))
          clear hdig
          by_cases d1 : s[k].toNat < 48
          · have d1' : (s[k].toNat : Int) < 48 := by omega
            clear d1 hd
            go_wp2_with fail
            go_ret
            exact ⟨ret_int (by rw [HR.out]), rfl⟩
          · have d1' : (48 : Int) ≤ (s[k].toNat : Int) := by omega
            have d2' : (57 : Int) < (s[k].toNat : Int) := by omega
            clear d1 hd
            go_wp2_with fail
            go_ret
            exact ⟨ret_int (by rw [HR.out]), rfl⟩
      · have hkn : (s.data.toList.take k) = s.data.toList := List.take_of_length_le (by rw [bytes_len]; omega)
        have HR := Lib.hid (numS_yes' HB.out (by have := HA.out; rwa [hkn] at this))
        rw [hkn]
        clear hkn
        go_wp2_with fail
        go_ret
        exact ⟨ret_int (by rw [HR.out]), rfl⟩
  · have e4 : ((s[0].toNat : Int) == 48) = false := by apply beq_eq_false_iff_ne.2; omega
    clear h48
    go_enter Tryd.func38, Tryd.ntmps38
    go_wp2_with fail
    go_loop [3, 4] (fun v i => ∃ k : Nat, k ≤ s.size ∧ i = .int .i64 (k : Int) ∧ v = .int .i64 (valD (s.data.toList.take k) : Nat) ∧ Hid ((s.data.toList.take k).all isDig = true)) (fun _ i => s.size - (intOf i).toNat)
    case atStart => exact ⟨0, Nat.zero_le _, rfl, rfl, Lib.hid rfl⟩
    case round =>
      obtain ⟨k, hk, rfl, rfl, HA⟩ := hrel
      by_cases hlt : k < s.size
      · have hl : k < s.data.toList.length := by rw [bytes_len]; exact hlt
        have HSN := Lib.hid (all_snoc _ k hl)
        have HVS : Hid (valD (s.data.toList.take (k + 1)) = 10 * valD (s.data.toList.take k) + (s[k].toNat - 48)) := Lib.hid (by rw [take_snoc s k hlt, valD_snoc])
        have HAF := Lib.hid (all_false _ k hl)
        have hv : valD (s.data.toList.take k) < 10000 := by
          have h1 := valD_take _ HA.out k
          rw [List.take_take, Nat.min_self] at h1
          have h2 : 10 ^ k ≤ 10 ^ 4 := Nat.pow_le_pow_right (by omega) (by omega)
          simp at h2; omega
        have hdig : isDig (s.data.toList[k]) = (decide (48 ≤ s[k].toNat) && decide (s[k].toNat ≤ 57)) := rfl
        have hb256 : (s[k].toNat : Int) < 256 := by have := s[k].toNat_lt; omega
        generalize valD (s.data.toList.take k) = V at *
        by_cases hd : 48 ≤ s[k].toNat ∧ s[k].toNat ≤ 57
        · have HD : Hid (isDig s.data.toList[k] = true) := Lib.hid (by rw [hdig]; simp; exact hd)
          obtain ⟨d1, d2⟩ := hd
          have d1' : (48 : Int) ≤ (s[k].toNat : Int) := by omega
          have d2' : (s[k].toNat : Int) ≤ 57 := by omega
          clear hdig d1 d2
          go_wp2_with fail
          refine ⟨⟨k + 1, by omega, by go_num, ?_, Lib.hid ?_⟩, ?_⟩
          · rw [HVS.out]; exact val_eq (by omega)
          · rw [HSN.out, HA.out, HD.out]; rfl
          · simp [intOf]; omega
        · have HD : Hid (isDig s.data.toList[k] = false) := Lib.hid (by rw [hdig]; simp; omega)
          have HR := Lib.hid (numS_no' (HAF.out HD.out))
          clear hdig
          by_cases d1 : s[k].toNat < 48
          · have d1' : (s[k].toNat : Int) < 48 := by omega
            clear d1 hd
            go_wp2_with fail
            go_ret
            exact ⟨ret_int (by rw [HR.out]), rfl⟩
          · have d1' : (48 : Int) ≤ (s[k].toNat : Int) := by omega
            have d2' : (57 : Int) < (s[k].toNat : Int) := by omega
            clear d1 hd
            go_wp2_with fail
            go_ret
            exact ⟨ret_int (by rw [HR.out]), rfl⟩
      · have hkn : (s.data.toList.take k) = s.data.toList := List.take_of_length_le (by rw [bytes_len]; omega)
        have HR := Lib.hid (numS_yes' HB.out (by have := HA.out; rwa [hkn] at this))
        rw [hkn]
        clear hkn
        go_wp2_with fail
        go_ret
        exact ⟨ret_int (by rw [HR.out]), rfl⟩
end Go.Proofs.YtjckgehlojcinaaDoor.mk
