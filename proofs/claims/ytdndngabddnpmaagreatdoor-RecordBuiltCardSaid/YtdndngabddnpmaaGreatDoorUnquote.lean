/-
  Unquote of package value reads a text, or returns the error.
-/
import Derived.Test.YtdndngabddnpmaaGreatDoorUnq
import Derived.Test.YtdndngabddnpmaaGreatDoorShelf
namespace Go.Proofs.YtdndngabddnpmaaGreatDoor.vl
open Go.RowKit Go.Proofs.YtdndngabddnpmaaGreatDoor.cm

set_option maxHeartbeats 1000000 in
theorem without_any (s : ByteArray) (w : World) (hs : s.size ≤ 100000) :
    Calls Tryz.prog 111 #[.string s] w fun e w' => e = .returned (.tuple #[.string ⟨(wqT s.data.toList).toArray⟩, .bool (wqB s.data.toList)]) ∧ w = w' := by
  have C1 := Tryz.strings_CutPrefix s ⟨#[34]⟩ w
  have e2 : (⟨#[34]⟩ : ByteArray).data.toList = [34] := rfl
  rw [e2] at C1
  have hl : (Lib.trimPrefix s.data.toList [34]).length ≤ 100000 := by
    unfold Lib.trimPrefix
    have := bytes_len s
    split
    · rw [List.length_drop]; omega
    · omega
  have C2 := Tryz.strings_CutSuffix ⟨(Lib.trimPrefix s.data.toList [34]).toArray⟩ ⟨#[34]⟩ w (by show (Lib.trimPrefix s.data.toList [34]).toArray.size ≤ _; rw [List.size_toArray]; omega)
  rw [e2] at C2
  have e3 : (⟨(Lib.trimPrefix s.data.toList [34]).toArray⟩ : ByteArray).data.toList = Lib.trimPrefix s.data.toList [34] := rfl
  rw [e3] at C2
  have H1 : Hid (wqT s.data.toList = Lib.trimSuffix (Lib.trimPrefix s.data.toList [34]) [34]) := Lib.hid rfl
  have H2 : Hid (wqB s.data.toList = (Lib.hasPrefix s.data.toList [34] && Lib.hasSuffix (Lib.trimPrefix s.data.toList [34]) [34])) := Lib.hid rfl
  clear e2 e3 hl
  generalize Lib.trimPrefix s.data.toList [34] = r at *
  generalize Lib.trimSuffix r [34] = t at *
  generalize Lib.hasPrefix s.data.toList [34] = p at *
  generalize Lib.hasSuffix r [34] = q at *
  have C1 := Lib.hid C1
  have C2 := Lib.hid C2
  cases p <;> cases q
  all_goals
    go_enter Tryz.func111, Tryz.ntmps111
    go_wp2_with fail
    refine C1.out.mono ?_
    rintro e w' ⟨rfl, rfl⟩
    go_wp2_with fail
    refine C2.out.mono ?_
    rintro e w' ⟨rfl, rfl⟩
    go_wp2_with fail
    go_ret2
    exact ⟨ret_sb (by rw [H1.out]) (by rw [H2.out]; rfl), rfl⟩

/-- a text that is no text of a string -/
def NoText (w : World) (e : Ending) (w' : World) : Prop := ∃ t : ByteArray, e = .returned (.tuple #[.string t, .bool false]) ∧ Below w.heap.size w w'

theorem pre_yes (l : List UInt8) : Lib.hasPrefix (120 :: l) [120] = true ∧ Lib.trimPrefix (120 :: l) [120] = l := by
  have h1 : Lib.hasPrefix (120 :: l) [120] = true := by simp [Lib.hasPrefix]
  exact ⟨h1, by unfold Lib.trimPrefix; rw [h1]; simp⟩
theorem pre_no {l : List UInt8} (h : l.head? ≠ some 120) : Lib.hasPrefix l [120] = false := by
  cases l with
  | nil => rfl
  | cons a r =>
    have : a ≠ 120 := by simpa using h
    have hb : ((120 : UInt8) == a) = false := beq_eq_false_iff_ne.2 (Ne.symm this)
    unfold Lib.hasPrefix
    rw [List.isPrefixOf, hb]
    rfl

set_option maxHeartbeats 2000000 in
theorem unquote_some (s : ByteArray) (w : World) (u : List UInt8) (hT : HexT w) (h0 : 1 < w.heap.size) (hu : unqO s.data.toList = some u) :
    Calls Tryz.prog 95 #[.string s] w fun e w' => e = .returned (.tuple #[.string ⟨u.toArray⟩, .bool true]) ∧ Below w.heap.size w w' := by
  have hq := (unqO_iff _ _).1 hu
  have hlen := (quoteO_bytes hq).2.2.1
  rw [bytes_len] at hlen
  have C1 := Tryz.strings_CutPrefix s ⟨#[120]⟩ w
  have e2 : (⟨#[120]⟩ : ByteArray).data.toList = [120] := rfl
  rw [e2] at C1
  obtain ⟨hl, ⟨hs, hf⟩ | ⟨hs, hf⟩⟩ := quoteO_cases hq
  · have hp : Lib.hasPrefix s.data.toList [120] = false := pre_no (by rw [hf]; simp)
    have C2 := without_any s w (by omega)
    rw [hf, (wq_yes u).1, (wq_yes u).2] at C2
    rw [hp] at C1
    generalize Lib.trimPrefix s.data.toList [120] = r at C1
    have C3 := isSafe_any ⟨u.toArray⟩ w (by show u.toArray.size ≤ maxLen; rw [List.size_toArray]; unfold maxLen; omega)
    rw [safeB_list, hs] at C3
    have hus : (⟨u.toArray⟩ : ByteArray).size ≤ 640 := by show u.toArray.size ≤ 640; rw [List.size_toArray]; exact hl
    generalize (⟨u.toArray⟩ : ByteArray) = U at *
    have hd : decide ((U.size : Int) ≤ 640) = true := by simp; omega
    have C1 := Lib.hid C1
    have C2 := Lib.hid C2
    have C3 := Lib.hid C3
    clear hq hu hf hs hp e2 hT
    go_enter Tryz.func95, Tryz.ntmps95
    go_wp2_with fail
    refine C1.out.mono ?_
    rintro e w' ⟨rfl, rfl⟩
    go_wp2_with fail
    refine C2.out.mono ?_
    rintro e w' ⟨rfl, rfl⟩
    go_wp2_with fail
    refine C3.out.mono ?_
    rintro e w' ⟨rfl, rfl⟩
    go_wp2_with fail
    go_ret2
    exact ⟨rfl, Below.refl _ _⟩
  · rw [hf, (pre_yes _).1, (pre_yes _).2] at C1
    have hL := hexL_len u
    have hxs : (⟨(hexL u).toArray⟩ : ByteArray).size ≤ 100000 := by show (hexL u).toArray.size ≤ _; rw [List.size_toArray]; omega
    have C2 := fromHex_any ⟨(hexL u).toArray⟩ w hxs hT h0
    obtain ⟨u1, u2⟩ := uh_some (s := ⟨(hexL u).toArray⟩) (unhex_hexL u)
    rw [u1, u2] at C2
    have C3 : ∀ W, _ := fun W => isSafe_any ⟨u.toArray⟩ W (by show u.toArray.size ≤ maxLen; rw [List.size_toArray]; unfold maxLen; omega)
    rw [safeB_list, hs] at C3
    generalize (⟨u.toArray⟩ : ByteArray) = U at *
    generalize (⟨(hexL u).toArray⟩ : ByteArray) = X at *
    have C1 := Lib.hid C1
    have C2 := Lib.hid C2
    have C3 := Lib.hid C3
    clear hq hu hf hs e2 hT u1 u2 hL
    go_enter Tryz.func95, Tryz.ntmps95
    go_wp2_with fail
    refine C1.out.mono ?_
    rintro e w' ⟨rfl, rfl⟩
    go_wp2_with fail
    refine C2.out.mono ?_
    rintro e w' ⟨rfl, hb⟩
    go_wp2_with fail
    refine (C3.out _).mono ?_
    rintro e w'' ⟨rfl, rfl⟩
    go_wp2_with fail
    go_ret2
    exact ⟨rfl, hb⟩

theorem unq_none_x {r : List UInt8} (h : unqO (120 :: r) = none) (hl : r.length ≤ 1280) : unhex r = none ∨ ∃ t, unhex r = some t ∧ t.all isSafe = true := by
  cases hr : unhex r with
  | none => exact .inl rfl
  | some t =>
    refine .inr ⟨t, rfl, ?_⟩
    cases hs : t.all isSafe
    · rw [unq_x hr hs hl] at h; cases h
    · rfl

set_option maxHeartbeats 2000000 in
theorem unquote_none (s : ByteArray) (w : World) (hs : s.size ≤ maxLen) (hT : HexT w) (h0 : 1 < w.heap.size) (hu : unqO s.data.toList = none) :
    Calls Tryz.prog 95 #[.string s] w (NoText w) := by
  unfold maxLen at hs
  have FIN : Hid (∀ (t : ByteArray) (w' : World), Below w.heap.size w w' → NoText w (.returned (.tuple #[.string t, .bool false])) w') := Lib.hid (fun t w' h => ⟨t, rfl, h⟩)
  by_cases hlong : 1281 < s.size
  · clear hu hT
    go_enter Tryz.func95, Tryz.ntmps95
    go_wp2_with fail
    go_ret2
    exact FIN.out _ _ (Below.refl _ _)
  · have C1 := Tryz.strings_CutPrefix s ⟨#[120]⟩ w
    have e2 : (⟨#[120]⟩ : ByteArray).data.toList = [120] := rfl
    rw [e2] at C1
    by_cases hx : s.data.toList.head? = some 120
    · obtain ⟨r, hf⟩ : ∃ r, s.data.toList = 120 :: r := by
        cases hl : s.data.toList with
        | nil => rw [hl] at hx; cases hx
        | cons a r => rw [hl] at hx; simp at hx; exact ⟨r, by rw [hx]⟩
      have hr : r.length ≤ 1280 := by have := bytes_len s; rw [hf, List.length_cons] at this; omega
      rw [hf, (pre_yes _).1, (pre_yes _).2] at C1
      rw [hf] at hu
      have C2 := fromHex_any ⟨r.toArray⟩ w (by show r.toArray.size ≤ _; rw [List.size_toArray]; omega) hT h0
      rcases unq_none_x hu hr with hn | ⟨t, hn, hsf⟩
      · obtain ⟨u1, u2⟩ := uh_none (s := ⟨r.toArray⟩) hn
        rw [u1, u2] at C2
        have C1 := Lib.hid C1
        have C2 := Lib.hid C2
        clear hu hf hx e2 hT u1 u2 hn
        go_enter Tryz.func95, Tryz.ntmps95
        go_wp2_with fail
        refine C1.out.mono ?_
        rintro e w' ⟨rfl, rfl⟩
        go_wp2_with fail
        refine C2.out.mono ?_
        rintro e w' ⟨rfl, hb⟩
        go_wp2_with fail
        go_ret2
        exact FIN.out _ _ hb
      · obtain ⟨u1, u2⟩ := uh_some (s := ⟨r.toArray⟩) hn
        rw [u1, u2] at C2
        have hL := hexL_len t
        rw [hexL_unhex _ r t (Nat.le_refl _) hn] at hL
        have C3 : ∀ W, _ := fun W => isSafe_any ⟨t.toArray⟩ W (by show t.toArray.size ≤ maxLen; rw [List.size_toArray]; unfold maxLen; omega)
        rw [safeB_list, hsf] at C3
        generalize (⟨t.toArray⟩ : ByteArray) = U at *
        have C1 := Lib.hid C1
        have C2 := Lib.hid C2
        have C3 := Lib.hid C3
        clear hu hf hx e2 hT u1 u2 hn hL hsf
        go_enter Tryz.func95, Tryz.ntmps95
        go_wp2_with fail
        refine C1.out.mono ?_
        rintro e w' ⟨rfl, rfl⟩
        go_wp2_with fail
        refine C2.out.mono ?_
        rintro e w' ⟨rfl, hb⟩
        go_wp2_with fail
        refine (C3.out _).mono ?_
        rintro e w'' ⟨rfl, rfl⟩
        go_wp2_with fail
        go_ret2
        exact FIN.out _ _ hb
    · rw [pre_no hx] at C1
      rw [unq_q hx] at hu
      have C2 := without_any s w (by omega)
      have hw : (wqT s.data.toList).length ≤ s.size ∨ wqB s.data.toList = false := by
        cases hb : wqB s.data.toList
        · exact .inr rfl
        · left
          have := congrArg List.length (wq_form hb)
          rw [bytes_len] at this
          simp at this
          omega
      generalize Lib.trimPrefix s.data.toList [120] = r at C1
      generalize wqT s.data.toList = t at *
      generalize wqB s.data.toList = b at *
      have C1 := Lib.hid C1
      have C2 := Lib.hid C2
      clear hx e2 hT
      cases b
      · clear hu hw
        go_enter Tryz.func95, Tryz.ntmps95
        go_wp2_with fail
        refine C1.out.mono ?_
        rintro e w' ⟨rfl, rfl⟩
        go_wp2_with fail
        refine C2.out.mono ?_
        rintro e w' ⟨rfl, rfl⟩
        go_wp2_with fail
        go_ret2
        exact FIN.out _ _ (Below.refl _ _)
      · have hw : t.length ≤ s.size := by rcases hw with h | h; exact h; cases h
        have C3 := isSafe_any ⟨t.toArray⟩ w (by show t.toArray.size ≤ maxLen; rw [List.size_toArray]; unfold maxLen; omega)
        rw [safeB_list] at C3
        have hts : (⟨t.toArray⟩ : ByteArray).size = t.length := by show t.toArray.size = _; rw [List.size_toArray]
        cases hsf : t.all isSafe
        · rw [hsf] at C3
          generalize (⟨t.toArray⟩ : ByteArray) = U at *
          have C3 := Lib.hid C3
          clear hu hsf hts
          go_enter Tryz.func95, Tryz.ntmps95
          go_wp2_with fail
          refine C1.out.mono ?_
          rintro e w' ⟨rfl, rfl⟩
          go_wp2_with fail
          refine C2.out.mono ?_
          rintro e w' ⟨rfl, rfl⟩
          go_wp2_with fail
          refine C3.out.mono ?_
          rintro e w' ⟨rfl, rfl⟩
          go_wp2_with fail
          go_ret2
          exact FIN.out _ _ (Below.refl _ _)
        · rw [hsf] at C3 hu
          have hbig : 640 < (⟨t.toArray⟩ : ByteArray).size := by
            rw [hts]
            apply Nat.lt_of_not_le
            intro hc
            rw [if_pos ⟨rfl, rfl, hc⟩] at hu
            cases hu
          have hsz : (⟨t.toArray⟩ : ByteArray).size ≤ 1281 := by omega
          generalize (⟨t.toArray⟩ : ByteArray) = U at *
          have hd : decide ((U.size : Int) ≤ 640) = false := by simp; omega
          have C3 := Lib.hid C3
          clear hu hsf hts
          go_enter Tryz.func95, Tryz.ntmps95
          go_wp2_with fail
          refine C1.out.mono ?_
          rintro e w' ⟨rfl, rfl⟩
          go_wp2_with fail
          refine C2.out.mono ?_
          rintro e w' ⟨rfl, rfl⟩
          go_wp2_with fail
          refine C3.out.mono ?_
          rintro e w' ⟨rfl, rfl⟩
          go_wp2_with fail
          go_ret2
          exact FIN.out _ _ (Below.refl _ _)

end Go.Proofs.YtdndngabddnpmaaGreatDoor.vl
