/-
  The reference's Unquote at texts of digits.
-/
import Derived.Test.YtdndngabddnpmaaGreatDoorRUnquote
namespace Go.Proofs.YtdndngabddnpmaaGreatDoor.vl
open Go.RowKit Go.Proofs.YtdndngabddnpmaaGreatDoor.cm

set_option maxRecDepth 100000 in
set_option maxHeartbeats 8000000 in
theorem rUnquote_hex (s : ByteArray) (w : World) (h0 : 0 < s.size) (e1 : (((s[0]'h0).toNat : Int) == 120) = true) (h3 : 3 ≤ s.size) (h4 : s.size ≤ 1281) (h5 : s.size % 2 = 1) :
    Calls Tryz.prog 54 #[.string s] w fun e w' => e = .returned (.tuple #[.string (uqS s), .int .i64 (uqE s)]) ∧ Below w.heap.size w w' := by
  have hx : s[0]'h0 = 120 := UInt8.toNat_inj.1 (by have : (120 : UInt8).toNat = 120 := rfl; have := beq_iff_eq.1 e1; omega)
  have hgd : s.data.toList.getD 0 0 = 120 := by rw [getD_head (by omega), hx]
  have HG := Lib.hid (guess_hex hgd ⟨h3, h5, h4⟩)
  have HU := Lib.hid (unq_bad (s := s) (by omega) hx)
  have e0 : (((s[0]'h0).toNat : Int) == 34) = false := by rw [hx]; decide
  have e2 : ((s.size : Int) % 2 == 1) = true := beq_iff_eq.2 (by omega)
  have hd : decide ((s.size : Int) ≤ 1281) = true := by simp; omega
  have H5 := Lib.hid h5
  have CV := fun c W => rvalue_any c W
  have HCV := Lib.hid CV
  clear CV hgd hx h5
  go_enter Tryz.func54, Tryz.ntmps54
  go_wp2_with fail
  clear e0 e2
  go_loopw [4, 5] (fun v i wr => ∃ (k n : Nat) (t : ByteArray), Hid (n = 2 * k + 1) ∧ n ≤ s.size ∧ i = .int .i64 (n : Int) ∧ v = .string t ∧ t.size ≤ k ∧ 2 * k ≤ s.size ∧ Hid (Read (rest s) k t.data.toList) ∧ Below w.heap.size w wr) (fun _ i _ => s.size - (intOf i).toNat)
  case atStart => exact ⟨0, 1, _, Lib.hid rfl, by omega, rfl, rfl, Nat.le_refl _, Nat.zero_le _, Lib.hid (Read.zero _), Below.refl _ _⟩
  case round =>
    obtain ⟨k, n, t, HN, hn, rfl, rfl, ht, hk2, HR, hbel⟩ := hrel
    have hbs := hbel.size
    by_cases hlt : n < s.size
    · have hn2 : n + 1 < s.size := by have := HN.out; have := H5.out; omega
      have hrs : 2 * k + 1 < (rest s).size := by rw [rest_size]; have := HN.out; omega
      have r1 : (rest s)[2 * k] = s[n] := by rw [rest_at]; simp only [← HN.out]
      have r2 : (rest s)[2 * k + 1] = s[n + 1] := by rw [rest_at]; simp only [← HN.out]
      have hi0 : (0 : Int) ≤ (n : Int) := by omega
      have hi1 : (n : Int) < (s.size : Int) := by omega
      have hi2 : (0 : Int) ≤ (n : Int) + 1 := by omega
      have hi3 : (n : Int) + 1 < (s.size : Int) := by omega
      have hi4 : IntKind.i64.wrap ((n : Int) + 1) = (n : Int) + 1 := IntWalk.i64_in _ (by omega)
      have hi5 : ((n : Int) + 1).toNat = n + 1 := by omega
      cases hp : hv s[n] with
      | none =>
        have HB := HU.out (uhS_none (s := rest s) (HR.out.bad hrs (.inl (by rw [r1]; exact hp))).2)
        have H1 := Lib.hid HB.1
        have H2 := Lib.hid HB.2
        clear HB
        have v1 := hvI_none hp
        clear hp r1 r2
        go_wp2_with fail
        go_quiet ((go_at_call 68; exact Calls.quiet_of_same (HCV.out _ _)))
        go_wp2_with fail
        all_goals
          go_ret2
          exact ⟨ret_se H1.out.symm H2.out.symm, below_drewN hbel _⟩
      | some p =>
        cases hq : hv s[n + 1] with
        | none =>
          have HB := HU.out (uhS_none (s := rest s) (HR.out.bad hrs (.inr (by rw [r2]; exact hq))).2)
          have H1 := Lib.hid HB.1
          have H2 := Lib.hid HB.2
          clear HB
          have v1 := hvI_some hp
          have v2 := hvI_none hq
          clear hp hq r1 r2
          go_wp2_with fail
          go_quiet ((go_at_call 68; exact Calls.quiet_of_same (HCV.out _ _)))
          go_wp2_with fail
          all_goals
            go_ret2
            exact ⟨ret_se H1.out.symm H2.out.symm, below_drewN hbel _⟩
        | some q =>
          have HN2 := Lib.hid (HR.out.succ hrs (by rw [r1]; exact hp) (by rw [r2]; exact hq))
          have v1 := hvI_some hp
          have v2 := hvI_some hq
          have hrb := ref_byte p q (hv_some hp).1 (hv_some hq).1
          have HY := Lib.hid (show (UInt8.ofNat (16 * p + q)) = (UInt8.ofNat (16 * p + q)) from rfl)
          generalize UInt8.ofNat (16 * p + q) = y at *
          have p1 := (hv_some hp).1
          have q1 := (hv_some hq).1
          have y1 : (y.toNat : Int) < 256 := by have := y.toNat_lt; omega
          have y2 : IntKind.u8.wrap (y.toNat : Int) = (y.toNat : Int) := by rw [show IntKind.u8.wrap (y.toNat : Int) = (y.toNat : Int) % 256 from rfl]; omega
          clear hp hq r1 r2 HY
          have hbt := fun W => byte_text W y
          have HBT := Lib.hid hbt
          clear hbt
          go_wp2_with fail
          go_quiet ((go_at_call 68; exact Calls.quiet_of_same (HCV.out _ _)))
          have hbt : (convert 36 9 (.slice (some ⟨wr.heap.size, 0, none⟩) 1 1)).run Tryz.prog ((wr.drewN nq).alloc (.cells #[.int .u8 (y.toNat : Int)] 5)) = .ok (.string ⟨#[y]⟩) ((wr.drewN nq).alloc (.cells #[.int .u8 (y.toNat : Int)] 5)) := HBT.out (wr.drewN nq)
          go_wp2_with fail
          refine ⟨⟨k + 1, n + 2, _, Lib.hid (by have := HN.out; omega), by omega, by go_num, rfl, ?_, by have := HN.out; omega, Lib.hid ?_, ?_⟩, by simp [intOf]; omega⟩
          · rw [ByteArray.size_append]
            show t.size + 1 ≤ k + 1
            omega
          · have := HN2.out
            rw [ByteArray.data_append, Array.toList_append]
            exact this
          · exact (below_drewN hbel _).alloc hbs _
    · have hk : s.size = n := by omega
      have hd := HR.out.done (by rw [rest_size, hk]; have := HN.out; omega)
      have HTC := tail_cases s t (by
        rw [HG.out]
        exact HR.out.2 ▸ (by
          rw [List.take_of_length_le (by rw [show (rest s).data.toList = s.data.toList.drop 1 from rfl, List.length_drop, bytes_len]; have := HN.out; omega)]
          rfl))
      clear hd hk
      rcases HTC with ⟨q1, q2, q3, q4⟩ | ⟨q1, q2, q3⟩
      · have CQ := fun W => rQuote_any t W (by unfold maxLen; omega)
        rw [q1, q2] at CQ
        have CQ := Lib.hid CQ
        have H1 := Lib.hid q3
        have H2 := Lib.hid q4
        clear q1 q2 q3 q4
        go_wp2_with fail
        refine (CQ.out _).mono ?_
        rintro e w2 ⟨rfl, b2⟩
        go_wp2_with fail
        go_ret2
        exact ⟨ret_se H1.out.symm H2.out.symm, hbel.trans (b2.mono hbel.size)⟩
      · have CQ := fun W => rQuote_any t W (by unfold maxLen; omega)
        have H1 := Lib.hid q1
        have H2 := Lib.hid q2
        clear q1 q2
        rcases q3 with q3 | ⟨q3, q4⟩
        · rw [q3] at CQ
          have CQ := Lib.hid CQ
          clear q3
          go_wp2_with fail
          refine (CQ.out _).mono ?_
          rintro e w2 ⟨rfl, b2⟩
          go_wp2_with fail
          go_ret2
          exact ⟨ret_se H1.out.symm H2.out.symm, hbel.trans (b2.mono hbel.size)⟩
        · rw [q3] at CQ
          generalize qS t = Q at *
          have CQ := Lib.hid CQ
          clear q3
          go_wp2_with fail
          refine (CQ.out _).mono ?_
          rintro e w2 ⟨rfl, b2⟩
          go_wp2_with fail
          go_ret2
          exact ⟨ret_se H1.out.symm H2.out.symm, hbel.trans (b2.mono hbel.size)⟩

theorem rUnquote_any (s : ByteArray) (w : World) (hs : s.size ≤ 100000) :
    Calls Tryz.prog 54 #[.string s] w fun e w' => e = .returned (.tuple #[.string (uqS s), .int .i64 (uqE s)]) ∧ Below w.heap.size w w' := by
  have hm : s.size ≤ maxLen := by unfold maxLen; omega
  by_cases h2 : 2 ≤ s.size
  · have h0 : 0 < s.size := by omega
    cases e34 : ((s[0].toNat : Int) == 34)
    · have g34 : ¬ (2 ≤ s.size ∧ s.data.toList.getD 0 0 = 34) := fun hc => by
        have := head_is h0 34
        rw [show (((34 : UInt8).toNat : Nat) : Int) = 34 from rfl, e34, decide_eq_true hc.2] at this
        cases this
      by_cases h3 : 3 ≤ s.size
      · cases e120 : ((s[0].toNat : Int) == 120)
        · have g120 : ¬ (s.data.toList.getD 0 0 = 120) := fun hc => by
            have := head_is h0 120
            rw [show (((120 : UInt8).toNat : Nat) : Int) = 120 from rfl, e120, decide_eq_true hc] at this
            cases this
          exact rUnquote_plain s w hm (.inr (.inr (.inl ⟨h3, h0, e34, e120⟩))) (guess_none g34 (fun hc => g120 hc.2.1))
        · by_cases hodd : s.size % 2 = 1
          · by_cases hl : s.size ≤ 1281
            · exact rUnquote_hex s w h0 e120 h3 hl hodd
            · exact rUnquote_plain s w hm (.inr (.inr (.inr (.inr ⟨h3, h0, e34, e120, beq_iff_eq.2 (by omega), by omega⟩)))) (guess_none g34 (fun hc => hl hc.2.2.2))
          · exact rUnquote_plain s w hm (.inr (.inr (.inr (.inl ⟨h3, h0, e34, e120, beq_eq_false_iff_ne.2 (by omega)⟩)))) (guess_none g34 (fun hc => hodd hc.2.2.1))
      · exact rUnquote_plain s w hm (.inr (.inl ⟨h2, by omega, h0, e34⟩)) (guess_none g34 (fun hc => h3 hc.1))
    · exact rUnquote_marks s w hs h2 e34
  · exact rUnquote_plain s w hm (.inl (by omega)) (guess_short (by omega))
end Go.Proofs.YtdndngabddnpmaaGreatDoor.vl
