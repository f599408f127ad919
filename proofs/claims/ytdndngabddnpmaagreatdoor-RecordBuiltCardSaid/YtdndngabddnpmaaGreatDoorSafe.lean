/-
  Bytes and names: what the small functions of package value and of its reference answer.
-/
import Derived.Test.YtdndngabddnpmaaGreatDoorDec
import Derived.Test.YtdndngabddnpmaaGreatDoorVal
namespace Go.Proofs.YtdndngabddnpmaaGreatDoor.vl
open Go.RowKit Go.Proofs.YtdndngabddnpmaaGreatDoor.cm

theorem safe_yes {b : UInt8} (h : isSafe b = true) : (32 : Int) < (b.toNat : Int) ∧ (33 : Int) ≤ (b.toNat : Int) ∧ (b.toNat : Int) ≤ 126 ∧ ((b.toNat : Int) == 34) = false := by
  simp [isSafe] at h
  refine ⟨by omega, by omega, by omega, beq_eq_false_iff_ne.2 (by omega)⟩
theorem safe_no {b : UInt8} (h : isSafe b = false) : ((b.toNat : Int) ≤ 32 ∧ (b.toNat : Int) < 33) ∨ ((32 : Int) < (b.toNat : Int) ∧ (33 : Int) ≤ (b.toNat : Int) ∧ (126 : Int) < (b.toNat : Int)) ∨ ((32 : Int) < (b.toNat : Int) ∧ (33 : Int) ≤ (b.toNat : Int) ∧ (b.toNat : Int) ≤ 126 ∧ ((b.toNat : Int) == 34) = true) := by
  by_cases h1 : b.toNat ≤ 32
  · exact .inl ⟨by omega, by omega⟩
  · by_cases h2 : 126 < b.toNat
    · exact .inr (.inl ⟨by omega, by omega, by omega⟩)
    · refine .inr (.inr ⟨by omega, by omega, by omega, beq_iff_eq.2 ?_⟩)
      have : ¬ (b.toNat ≠ 34) := fun hc => by
        rw [isSafe, decide_eq_true (by omega), decide_eq_true (by omega), decide_eq_true hc] at h; cases h
      omega

theorem all_bad (p : UInt8 → Bool) (s : ByteArray) (k : Nat) (h : k < s.size) (hb : p s[k] = false) : s.data.toList.all p = false := by
  rw [← Bool.not_eq_true, List.all_eq_true]
  intro hc
  have hm : s[k] ∈ s.data.toList := by
    have : s.data.toList[k]'(by rw [bytes_len]; exact h) = s[k] := rfl
    rw [← this]; exact List.getElem_mem _
  rw [hc _ hm] at hb; cases hb

theorem all_good (p : UInt8 → Bool) (s : ByteArray) (h : ∀ (j : Nat) (hj : j < s.size), p s[j] = true) : s.data.toList.all p = true := by
  rw [List.all_eq_true]
  intro x hx
  obtain ⟨j, hj, rfl⟩ := List.getElem_of_mem hx
  rw [bytes_len] at hj
  exact h j hj

/-- is a string safe -/
def safeB (s : ByteArray) : Bool := s.data.toList.all isSafe

/-- the bytes before k are safe -/
def SafeTo (p : UInt8 → Bool) (s : ByteArray) (k : Nat) : Prop := ∀ (j : Nat) (hj : j < s.size), j < k → p s[j] = true
theorem SafeTo.zero (p : UInt8 → Bool) (s : ByteArray) : SafeTo p s 0 := fun _ _ h => by omega
theorem SafeTo.succ {p : UInt8 → Bool} {s : ByteArray} {k : Nat} (h : SafeTo p s k) (hk : k < s.size) (hp : p s[k] = true) : SafeTo p s (k + 1) := fun j hj hjk => by
  by_cases he : j = k
  · subst he; exact hp
  · exact h j hj (by omega)
theorem SafeTo.all {p : UInt8 → Bool} {s : ByteArray} {k : Nat} (h : SafeTo p s k) (hk : s.size ≤ k) : s.data.toList.all p = true := all_good p s fun j hj => h j hj (by omega)

set_option maxHeartbeats 1000000 in
theorem isSafe_any (s : ByteArray) (w : World) (hs : s.size ≤ maxLen) :
    Calls Tryz.prog 72 #[.string s] w fun e w' => e = .returned (.bool (safeB s)) ∧ w = w' := by
  unfold maxLen at hs
  go_enter Tryz.func72, Tryz.ntmps72
  go_wp2
  go_loop [6] (fun i => ∃ k : Nat, k ≤ s.size ∧ i = .int .i64 k ∧ Hid (SafeTo isSafe s k)) (fun i => s.size - (intOf i).toNat)
  case atStart => exact ⟨0, Nat.zero_le _, rfl, Lib.hid (SafeTo.zero _ _)⟩
  case round =>
    obtain ⟨k, hk, rfl, HS⟩ := hrel
    by_cases hlt : k < s.size
    · cases hb : isSafe s[k]
      · have HB : Hid (safeB s = false) := Lib.hid (all_bad isSafe s k hlt hb)
        rcases safe_no hb with ⟨h1, h2⟩ | ⟨h1, h2, h3⟩ | ⟨h1, h2, h3, h4⟩
        all_goals
          clear hb
          go_wp2
          go_ret
          exact ⟨ret_bool HB.out.symm, rfl⟩
      · have HN := Lib.hid (HS.out.succ hlt hb)
        obtain ⟨h1, h2, h3, h4⟩ := safe_yes hb
        clear hb
        go_wp2
        exact ⟨⟨k + 1, by omega, by go_num, HN⟩, by simp [intOf]; omega⟩
    · have HA : Hid (safeB s = true) := Lib.hid (HS.out.all (by omega))
      go_wp2
      go_ret
      exact ⟨ret_bool HA.out.symm, rfl⟩

set_option maxHeartbeats 1000000 in
theorem rsafe_any (s : ByteArray) (w : World) (hs : s.size ≤ maxLen) :
    Calls Tryz.prog 59 #[.string s] w fun e w' => e = .returned (.bool (safeB s)) ∧ w = w' := by
  unfold maxLen at hs
  go_enter Tryz.func59, Tryz.ntmps59
  go_wp2
  go_loop [3] (fun i => ∃ k : Nat, k ≤ s.size ∧ i = .int .i64 k ∧ Hid (SafeTo isSafe s k)) (fun i => s.size - (intOf i).toNat)
  case atStart => exact ⟨0, Nat.zero_le _, rfl, Lib.hid (SafeTo.zero _ _)⟩
  case round =>
    obtain ⟨k, hk, rfl, HS⟩ := hrel
    by_cases hlt : k < s.size
    · cases hb : isSafe s[k]
      · have HB : Hid (safeB s = false) := Lib.hid (all_bad isSafe s k hlt hb)
        rcases safe_no hb with ⟨h1, h2⟩ | ⟨h1, h2, h3⟩ | ⟨h1, h2, h3, h4⟩
        all_goals
          clear hb
          go_wp2
          go_ret
          exact ⟨ret_bool HB.out.symm, rfl⟩
      · have HN := Lib.hid (HS.out.succ hlt hb)
        obtain ⟨h1, h2, h3, h4⟩ := safe_yes hb
        clear hb
        go_wp2
        exact ⟨⟨k + 1, by omega, by go_num, HN⟩, by simp [intOf]; omega⟩
    · have HA : Hid (safeB s = true) := Lib.hid (HS.out.all (by omega))
      go_wp2
      go_ret
      exact ⟨ret_bool HA.out.symm, rfl⟩

end Go.Proofs.YtdndngabddnpmaaGreatDoor.vl
