/-
  Names of pairs: isName of package value and name of its reference answer alike.
-/
import Derived.Test.YtdndngabddnpmaaGreatDoorSafe
namespace Go.Proofs.YtdndngabddnpmaaGreatDoor.vl
open Go.RowKit Go.Proofs.YtdndngabddnpmaaGreatDoor.cm

theorem low_yes {b : UInt8} (h : lowB b = true) : (97 : Int) ≤ (b.toNat : Int) ∧ (b.toNat : Int) ≤ 122 := by
  simp [lowB] at h; omega
theorem low_no {b : UInt8} (h : lowB b = false) : (b.toNat : Int) < 97 ∨ ((97 : Int) ≤ (b.toNat : Int) ∧ (122 : Int) < (b.toNat : Int)) := by
  by_cases h1 : 97 ≤ b.toNat
  · refine .inr ⟨by omega, ?_⟩
    have : ¬ b.toNat ≤ 122 := fun hc => by rw [lowB, decide_eq_true h1, decide_eq_true hc] at h; cases h
    omega
  · exact .inl (by omega)
theorem dig_yes {b : UInt8} (h : digB b = true) : (48 : Int) ≤ (b.toNat : Int) ∧ (b.toNat : Int) ≤ 57 := by
  simp [digB] at h; omega
theorem dig_no {b : UInt8} (h : digB b = false) : (b.toNat : Int) < 48 ∨ ((48 : Int) ≤ (b.toNat : Int) ∧ (57 : Int) < (b.toNat : Int)) := by
  by_cases h1 : 48 ≤ b.toNat
  · refine .inr ⟨by omega, ?_⟩
    have : ¬ b.toNat ≤ 57 := fun hc => by rw [digB, decide_eq_true h1, decide_eq_true hc] at h; cases h
    omega
  · exact .inl (by omega)

theorem isLetter_any (b : UInt8) (w : World) :
    Calls Tryz.prog 69 #[.int .u8 (b.toNat : Int)] w fun e w' => e = .returned (.bool (lowB b)) ∧ w = w' := by
  cases hb : lowB b
  · rcases low_no hb with h1 | ⟨h1, h2⟩
    all_goals
      clear hb
      go_enter Tryz.func69, Tryz.ntmps69
      go_wp2
      go_ret
      exact ⟨ret_bool (by simp; try omega), rfl⟩
  · obtain ⟨h1, h2⟩ := low_yes hb
    clear hb
    go_enter Tryz.func69, Tryz.ntmps69
    go_wp2
    go_ret
    exact ⟨ret_bool (by simp; try omega), rfl⟩

theorem isDigit_any (b : UInt8) (w : World) :
    Calls Tryz.prog 70 #[.int .u8 (b.toNat : Int)] w fun e w' => e = .returned (.bool (digB b)) ∧ w = w' := by
  cases hb : digB b
  · rcases dig_no hb with h1 | ⟨h1, h2⟩
    all_goals
      clear hb
      go_enter Tryz.func70, Tryz.ntmps70
      go_wp2
      go_ret
      exact ⟨ret_bool (by simp; try omega), rfl⟩
  · obtain ⟨h1, h2⟩ := dig_yes hb
    clear hb
    go_enter Tryz.func70, Tryz.ntmps70
    go_wp2
    go_ret
    exact ⟨ret_bool (by simp; try omega), rfl⟩

/-- is a string the name of a pair -/
def nameS (s : ByteArray) : Bool := nameL s.data.toList

theorem nameS_nil : nameS ⟨#[]⟩ = false := rfl
theorem nameS_long {s : ByteArray} (h : 16 < s.size) : nameS s = false := by
  have hl : 16 < s.data.toList.length := by rw [bytes_len]; exact h
  unfold nameS
  cases hs : s.data.toList with
  | nil => rfl
  | cons c r =>
    rw [hs] at hl
    have : ¬ r.length < 16 := by simp at hl; omega
    simp [nameL, this]
theorem head_eq {s : ByteArray} {c : UInt8} {r : List UInt8} (hs : s.data.toList = c :: r) (h : 0 < s.size) : s[0] = c := by
  have : s.data.toList[0]'(by rw [bytes_len]; exact h) = s[0] := rfl
  rw [← this]; simp [hs]
theorem nameS_first {s : ByteArray} (h : 0 < s.size) (hb : lowB s[0] = false) : nameS s = false := by
  unfold nameS
  cases hs : s.data.toList with
  | nil => rfl
  | cons c r => rw [head_eq hs h] at hb; simp [nameL, hb]
theorem low_name {b : UInt8} (h : lowB b = true) : nameB b = true := by unfold nameB; rw [h]; rfl
theorem nameS_bad {s : ByteArray} (k : Nat) (h : k < s.size) (hb : nameB s[k] = false) : nameS s = false := by
  have ha := all_bad nameB s k h hb
  unfold nameS
  cases hs : s.data.toList with
  | nil => rfl
  | cons c r =>
    rw [hs, List.all_cons] at ha
    cases hc : lowB c
    · simp [nameL, hc]
    · rw [low_name hc, Bool.true_and] at ha
      simp only [nameL, ha, Bool.and_false]
theorem nameS_good {s : ByteArray} (h : 0 < s.size) (h2 : s.size ≤ 16) (hl : lowB s[0] = true) (ha : s.data.toList.all nameB = true) : nameS s = true := by
  have hlen : s.data.toList.length ≤ 16 := by rw [bytes_len]; exact h2
  unfold nameS
  cases hs : s.data.toList with
  | nil => have := bytes_len s; rw [hs] at this; simp at this; omega
  | cons c r =>
    rw [head_eq hs h] at hl
    rw [hs, List.all_cons, Bool.and_eq_true] at ha
    rw [hs, List.length_cons] at hlen
    have : r.length < 16 := by omega
    simp [nameL, hl, this]
    simpa using ha.2

theorem name_no {b : UInt8} (h : nameB b = false) : lowB b = false ∧ digB b = false ∧ ((b.toNat : Int) == 95) = false := by
  unfold nameB at h
  cases h1 : lowB b <;> cases h2 : digB b <;> rw [h1, h2] at h <;> simp at h ⊢
  omega
theorem name_yes {b : UInt8} (h : nameB b = true) : lowB b = true ∨ (lowB b = false ∧ digB b = true) ∨ (lowB b = false ∧ digB b = false ∧ ((b.toNat : Int) == 95) = true) := by
  unfold nameB at h
  cases h1 : lowB b <;> cases h2 : digB b <;> rw [h1, h2] at h <;> simp at h ⊢
  omega

theorem size_nil {s : ByteArray} (h : s.size = 0) : s = ⟨#[]⟩ := by
  apply ByteArray.ext; exact Array.eq_empty_of_size_eq_zero h

theorem ne_str {s : ByteArray} (h : 0 < s.size) : s.toList ≠ [] := by
  intro hc
  have : s.toList = s.data.toList := ByteArray.toList_eq s
  rw [this] at hc
  have := bytes_len s
  rw [hc] at this; simp at this; omega

set_option maxHeartbeats 2000000 in
theorem isName_any (s : ByteArray) (w : World) (hs : s.size ≤ maxLen) :
    Calls Tryz.prog 56 #[.string s] w fun e w' => e = .returned (.bool (nameS s)) ∧ w = w' := by
  unfold maxLen at hs
  by_cases h0 : s.size = 0
  · obtain rfl := size_nil h0
    clear h0 hs
    have HR := Lib.hid nameS_nil
    go_enter Tryz.func56, Tryz.ntmps56
    go_wp2
    go_ret
    exact ⟨ret_bool HR.out.symm, rfl⟩
  · have hpos : 0 < s.size := by omega
    have hne := ne_str hpos
    have e1 : (s.toList == []) = false := beq_eq_false_iff_ne.2 hne
    by_cases h16 : 16 < s.size
    · have HR := Lib.hid (nameS_long h16)
      clear hne
      go_enter Tryz.func56, Tryz.ntmps56
      go_wp2
      go_ret
      exact ⟨ret_bool HR.out.symm, rfl⟩
    · have h16' : s.size ≤ 16 := by omega
      have CL := fun (b : UInt8) (W : World) => isLetter_any b W
      have CL := Lib.hid CL
      have CD := Lib.hid (fun (b : UInt8) (W : World) => isDigit_any b W)
      clear hne
      cases hl : lowB s[0]
      · have HR := Lib.hid (nameS_first hpos hl)
        have C0 := CL.out s[0]
        rw [hl] at C0
        have C0 := Lib.hid C0
        clear hl
        go_enter Tryz.func56, Tryz.ntmps56
        go_wp2_with fail
        refine (C0.out _).mono ?_
        rintro e w' ⟨rfl, rfl⟩
        go_wp2_with fail
        go_ret
        exact ⟨ret_bool HR.out.symm, rfl⟩
      · have HG := Lib.hid (nameS_good hpos h16' hl)
        have C0 := CL.out s[0]
        rw [hl] at C0
        have C0 := Lib.hid C0
        clear hl
        go_enter Tryz.func56, Tryz.ntmps56
        go_wp2_with fail
        refine (C0.out _).mono ?_
        rintro e w' ⟨rfl, rfl⟩
        go_wp2_with fail
        go_loop [19] (fun i => ∃ k : Nat, k ≤ s.size ∧ i = .int .i64 k ∧ Hid (SafeTo nameB s k)) (fun i => s.size - (intOf i).toNat)
        case atStart => exact ⟨0, Nat.zero_le _, rfl, Lib.hid (SafeTo.zero _ _)⟩
        case round =>
          obtain ⟨k, hk, rfl, HS⟩ := hrel
          by_cases hlt : k < s.size
          · have C1 := CL.out s[k]
            have C2 := CD.out s[k]
            cases hb : nameB s[k]
            · have HB := Lib.hid (nameS_bad k hlt hb)
              obtain ⟨h1, h2, h3⟩ := name_no hb
              rw [h1] at C1
              rw [h2] at C2
              have C1 := Lib.hid C1
              have C2 := Lib.hid C2
              clear hb h1 h2
              go_wp2_with fail
              refine (C1.out _).mono ?_
              rintro e w' ⟨rfl, rfl⟩
              go_wp2_with fail
              refine (C2.out _).mono ?_
              rintro e w' ⟨rfl, rfl⟩
              go_wp2_with fail
              go_ret
              exact ⟨ret_bool HB.out.symm, rfl⟩
            · have HN := Lib.hid (HS.out.succ hlt hb)
              rcases name_yes hb with h1 | ⟨h1, h2⟩ | ⟨h1, h2, h3⟩
              · rw [h1] at C1
                have C1 := Lib.hid C1
                clear hb h1 C2
                go_wp2_with fail
                refine (C1.out _).mono ?_
                rintro e w' ⟨rfl, rfl⟩
                go_wp2_with fail
                exact ⟨⟨k + 1, by omega, by go_num, HN⟩, by simp [intOf]; omega⟩
              · rw [h1] at C1
                rw [h2] at C2
                have C1 := Lib.hid C1
                have C2 := Lib.hid C2
                clear hb h1 h2
                go_wp2_with fail
                refine (C1.out _).mono ?_
                rintro e w' ⟨rfl, rfl⟩
                go_wp2_with fail
                refine (C2.out _).mono ?_
                rintro e w' ⟨rfl, rfl⟩
                go_wp2_with fail
                exact ⟨⟨k + 1, by omega, by go_num, HN⟩, by simp [intOf]; omega⟩
              · rw [h1] at C1
                rw [h2] at C2
                have C1 := Lib.hid C1
                have C2 := Lib.hid C2
                clear hb h1 h2
                go_wp2_with fail
                refine (C1.out _).mono ?_
                rintro e w' ⟨rfl, rfl⟩
                go_wp2_with fail
                refine (C2.out _).mono ?_
                rintro e w' ⟨rfl, rfl⟩
                go_wp2_with fail
                exact ⟨⟨k + 1, by omega, by go_num, HN⟩, by simp [intOf]; omega⟩
          · have HA := Lib.hid (HG.out (HS.out.all (by omega)))
            go_wp2_with fail
            go_ret
            exact ⟨ret_bool HA.out.symm, rfl⟩

/-- what the reference asks of the byte at i -/
theorem rname_no {b : UInt8} {k : Nat} (h : (if k = 0 then lowB b else nameB b) = false) :
    (lowB b = false) ∧ (k = 0 ∨ (0 < k ∧ digB b = false ∧ ((b.toNat : Int) == 95) = false)) := by
  by_cases hk : k = 0
  · rw [if_pos hk] at h; exact ⟨h, .inl hk⟩
  · rw [if_neg hk] at h
    obtain ⟨a, b, c⟩ := name_no h
    exact ⟨a, .inr ⟨by omega, b, c⟩⟩

/-- behind the first byte: it was a letter -/
def FirstLow (s : ByteArray) (k : Nat) : Prop := ∀ h : 0 < s.size, 0 < k → lowB s[0] = true

set_option maxHeartbeats 4000000 in
theorem rname_any (s : ByteArray) (w : World) (hs : s.size ≤ maxLen) :
    Calls Tryz.prog 58 #[.string s] w fun e w' => e = .returned (.bool (nameS s)) ∧ w = w' := by
  unfold maxLen at hs
  by_cases h0 : s.size = 0
  · obtain rfl := size_nil h0
    clear h0 hs
    have HR := Lib.hid nameS_nil
    go_enter Tryz.func58, Tryz.ntmps58
    go_wp2
    go_ret
    exact ⟨ret_bool HR.out.symm, rfl⟩
  · have hpos : 0 < s.size := by omega
    by_cases h16 : 16 < s.size
    · have HR := Lib.hid (nameS_long h16)
      go_enter Tryz.func58, Tryz.ntmps58
      go_wp2
      go_ret
      exact ⟨ret_bool HR.out.symm, rfl⟩
    · have h16' : s.size ≤ 16 := by omega
      have HG := Lib.hid (nameS_good hpos h16')
      go_enter Tryz.func58, Tryz.ntmps58
      go_wp2
      go_loop [3] (fun i => ∃ k : Nat, k ≤ s.size ∧ i = .int .i64 k ∧ Hid (SafeTo nameB s k) ∧ Hid (FirstLow s k)) (fun i => s.size - (intOf i).toNat)
      case atStart => exact ⟨0, Nat.zero_le _, rfl, Lib.hid (SafeTo.zero _ _), Lib.hid (fun _ h => by omega)⟩
      case round =>
        obtain ⟨k, hk, rfl, HS, HL⟩ := hrel
        by_cases hlt : k < s.size
        · by_cases hk0 : k = 0
          · subst hk0
            cases hb : lowB s[0]
            · have HB := Lib.hid (nameS_first hpos hb)
              have hd : ((s[0].toNat : Int) < 97 ∧ True) ∨ ((97 : Int) ≤ (s[0].toNat : Int) ∧ decide ((s[0].toNat : Int) ≤ 122) = false) := by
                rcases low_no hb with h1 | ⟨h1, h2⟩
                · exact .inl ⟨h1, trivial⟩
                · exact .inr ⟨h1, by simp; omega⟩
              rcases hd with ⟨h1, h2⟩ | ⟨h1, h2⟩
              all_goals
                clear hb
                go_wp2
                go_ret
                exact ⟨ret_bool HB.out.symm, rfl⟩
            · have HN := Lib.hid (HS.out.succ hlt (low_name hb))
              have HL2 : Hid (FirstLow s (0 + 1)) := Lib.hid (fun _ _ => hb)
              obtain ⟨h1, h2⟩ := low_yes hb
              clear hb
              go_wp2
              exact ⟨⟨0 + 1, by omega, by go_num, HN, HL2⟩, by simp [intOf]; omega⟩
          · have hkp : 0 < k := by omega
            have hkp' : (0 : Int) < (k : Int) := by omega
            have HL2 : Hid (FirstLow s (k + 1)) := Lib.hid (fun h _ => HL.out h hkp)
            cases hb : nameB s[k]
            · have HB := Lib.hid (nameS_bad k hlt hb)
              obtain ⟨h1, h2, h3⟩ := name_no hb
              have hd : ((s[k].toNat : Int) < 97 ∧ (s[k].toNat : Int) < 48) ∨ ((s[k].toNat : Int) < 97 ∧ (48 : Int) ≤ (s[k].toNat : Int) ∧ decide ((s[k].toNat : Int) ≤ 57) = false) ∨ ((97 : Int) ≤ (s[k].toNat : Int) ∧ decide ((s[k].toNat : Int) ≤ 122) = false ∧ (48 : Int) ≤ (s[k].toNat : Int) ∧ decide ((s[k].toNat : Int) ≤ 57) = false) := by
                rcases low_no h1 with a1 | ⟨a1, a2⟩
                · rcases dig_no h2 with b1 | ⟨b1, b2⟩
                  · exact .inl ⟨a1, b1⟩
                  · exact .inr (.inl ⟨a1, b1, by simp; omega⟩)
                · exact .inr (.inr ⟨a1, by simp; omega, by omega, by simp; omega⟩)
              clear hb h1 h2
              rcases hd with ⟨a1, a2⟩ | ⟨a1, a2, a3⟩ | ⟨a1, a2, a3, a4⟩
              · go_wp2
                go_ret
                exact ⟨ret_bool HB.out.symm, rfl⟩
              · go_wp2
                go_ret
                exact ⟨ret_bool HB.out.symm, rfl⟩
              · go_wp2
                go_ret
                exact ⟨ret_bool HB.out.symm, rfl⟩
            · have HN := Lib.hid (HS.out.succ hlt hb)
              rcases name_yes hb with h1 | ⟨h1, h2⟩ | ⟨h1, h2, h3⟩
              · obtain ⟨a1, a2⟩ := low_yes h1
                clear hb h1
                go_wp2
                exact ⟨⟨k + 1, by omega, by go_num, HN, HL2⟩, by simp [intOf]; omega⟩
              · obtain ⟨b1, b2⟩ := dig_yes h2
                have a1 : (s[k].toNat : Int) < 97 := by omega
                clear hb h1 h2
                go_wp2
                exact ⟨⟨k + 1, by omega, by go_num, HN, HL2⟩, by simp [intOf]; omega⟩
              · have c1 : (s[k].toNat : Int) = 95 := by simpa using h3
                have a1 : (s[k].toNat : Int) < 97 := by omega
                have b1 : (48 : Int) ≤ (s[k].toNat : Int) := by omega
                have b2 : (57 : Int) < (s[k].toNat : Int) := by omega
                clear hb h1 h2 c1
                go_wp2
                exact ⟨⟨k + 1, by omega, by go_num, HN, HL2⟩, by simp [intOf]; omega⟩
        · have HA := Lib.hid (HG.out (HL.out hpos (by omega)) (HS.out.all (by omega)))
          go_wp2
          go_ret
          exact ⟨ret_bool HA.out.symm, rfl⟩
end Go.Proofs.YtdndngabddnpmaaGreatDoor.vl
