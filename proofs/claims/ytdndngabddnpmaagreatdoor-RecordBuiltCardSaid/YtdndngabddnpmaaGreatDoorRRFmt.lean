/-
  Format of the reference writes the same line.
-/
import Derived.Test.YtdndngabddnpmaaGreatDoorRFmt
import Derived.Deep.DeepCutAuto
namespace Go.Proofs.YtdndngabddnpmaaGreatDoor.rd
open Go.RowKit Go.Proofs.YtdndngabddnpmaaGreatDoor.cm Go.Proofs.YtdndngabddnpmaaGreatDoor.vl

theorem decN_any (n : Nat) (w : World) (hn : n ≤ 9223372036854775807) :
    Calls Tryz.prog 22 #[.int .i64 (n : Int)] w fun e w' => e = .returned (.string (digB n)) ∧ w = w' := dec_any n w hn

set_option maxRecDepth 100000 in
set_option maxHeartbeats 8000000 in
theorem rFormat_any (t tm sr : Int) (a : Option Addr) (cap : Nat) (ps : List PairP) (w : World) (hP : PairsAt w a ps) (hl : ps.length ≤ 9223372036854775807) :
    Calls Tryz.prog 10 #[.agg #[.int .i64 t, .int .i64 tm, .int .i64 sr, .slice a ps.length cap]] w fun e w' => e = .returned (.tuple #[.string (fR t tm sr ps), .int .i64 (ckR t tm sr ps)]) ∧ Below w.heap.size w w' := by
  have h0 := HW.new w 29 t tm sr (.slice a ps.length cap)
  have CC := rCheck_any t tm sr a cap ps _ (hP.below h0.bel) hl
  by_cases hz : ckR t tm sr ps = 0
  · have hF : fR t tm sr ps = bs (lineL ⟨t, tm, sr, ps⟩) := by unfold fR; rw [if_pos hz]
    obtain ⟨⟨g1, g2⟩, ⟨g3, g4⟩, hfew, hck⟩ := sound_of hz
    obtain ⟨m, rfl⟩ := Int.eq_ofNat_of_zero_le g1
    obtain ⟨r, rfl⟩ := Int.eq_ofNat_of_zero_le g3
    rw [line_eq] at hF
    rw [hF]
    rw [hz] at CC ⊢
    have hhl := head_size t m r (by omega) (by omega)
    have HT := Lib.hid (fun k => tail_size hck (fun p hp => (hP.ok p hp).num) k)
    have HCK := Lib.hid hck
    have HP := Lib.hid (fun W (h : Below w.heap.size w W) => hP.below h)
    have CN := Lib.hid (fun W (h : HW w t m r (.slice a ps.length cap) W) => (rName_any t W).mono (R' := fun e W' => e = .returned (.string (nameB t)) ∧ HW w t m r (.slice a ps.length cap) W') fun e W' hh => ⟨hh.1, h.step hh.2⟩)
    have C1 := fun W (h : HW w t m r (.slice a ps.length cap) W) => (decN_any (m / 1000) W (by omega)).mono (R' := fun e W' => e = .returned (.string (digB (m / 1000))) ∧ HW w t m r (.slice a ps.length cap) W') fun e W' hh => ⟨hh.1, by rw [← hh.2]; exact h⟩
    have C2 := fun W (h : HW w t m r (.slice a ps.length cap) W) => (three_any (m % 1000) W (by omega)).mono (R' := fun e W' => e = .returned (.string (threeB (m % 1000))) ∧ HW w t m r (.slice a ps.length cap) W') fun e W' hh => ⟨hh.1, by rw [← hh.2]; exact h⟩
    have C3 := fun W (h : HW w t m r (.slice a ps.length cap) W) => (decN_any r W (by omega)).mono (R' := fun e W' => e = .returned (.string (digB r)) ∧ HW w t m r (.slice a ps.length cap) W') fun e W' hh => ⟨hh.1, by rw [← hh.2]; exact h⟩
    have s0 := nameB_size t
    have s1 := digB_size (m / 1000) (by omega)
    have s2 := threeB_size (m % 1000) (by omega)
    have s2 : (threeB (m % 1000)).size ≤ 3 := by omega
    have s3 := digB_size r (by omega)
    have H := head_cat t m r
    have d1 : (m : Int).tdiv 1000 = ((m / 1000 : Nat) : Int) := by rw [Int.tdiv_eq_ediv_of_nonneg (by omega)]; omega
    have d2 : (m : Int).tmod 1000 = ((m % 1000 : Nat) : Int) := by rw [Int.tmod_eq_emod_of_nonneg (by omega)]; omega
    have d3 : IntKind.i64.wrap ((m / 1000 : Nat) : Int) = ((m / 1000 : Nat) : Int) := IntWalk.i64_in _ (by omega)
    have d4 : IntKind.i64.wrap ((m % 1000 : Nat) : Int) = ((m % 1000 : Nat) : Int) := IntWalk.i64_in _ (by omega)
    generalize digB (m / 1000) = D1 at *
    generalize threeB (m % 1000) = D2 at *
    generalize m / 1000 = q1 at *
    generalize m % 1000 = q2 at *
    generalize digB r = D3 at *
    generalize nameB t = N at *
    obtain ⟨R, hR⟩ : ∃ R, R = bs (headL t m r) := ⟨_, rfl⟩
    rw [← hR] at H
    have HR := Lib.hid hR
    obtain ⟨X1, hx1⟩ : ∃ X, X = (⟨#[116, 121, 112, 101, 61]⟩ : ByteArray) ++ N := ⟨_, rfl⟩
    obtain ⟨X2, hx2⟩ : ∃ X, X = X1 ++ (⟨#[32, 109, 115, 103, 61, 97, 117, 100, 105, 116, 40]⟩ : ByteArray) := ⟨_, rfl⟩
    obtain ⟨X3, hx3⟩ : ∃ X, X = X2 ++ D1 := ⟨_, rfl⟩
    obtain ⟨X4, hx4⟩ : ∃ X, X = X3 ++ (⟨#[46]⟩ : ByteArray) := ⟨_, rfl⟩
    obtain ⟨X5, hx5⟩ : ∃ X, X = X4 ++ D2 := ⟨_, rfl⟩
    obtain ⟨X6, hx6⟩ : ∃ X, X = X5 ++ (⟨#[58]⟩ : ByteArray) := ⟨_, rfl⟩
    obtain ⟨X7, hx7⟩ : ∃ X, X = X6 ++ D3 := ⟨_, rfl⟩
    have b1 : X1.size ≤ 13 := by rw [hx1, ByteArray.size_append]; show 5 + N.size ≤ 13; omega
    have b2 : X2.size ≤ 24 := by rw [hx2, ByteArray.size_append]; show X1.size + 11 ≤ 24; omega
    have b3 : X3.size ≤ 44 := by rw [hx3, ByteArray.size_append]; omega
    have b4 : X4.size ≤ 45 := by rw [hx4, ByteArray.size_append]; show X3.size + 1 ≤ 45; omega
    have b5 : X5.size ≤ 48 := by rw [hx5, ByteArray.size_append]; omega
    have b6 : X6.size ≤ 49 := by rw [hx6, ByteArray.size_append]; show X5.size + 1 ≤ 49; omega
    have b7 : X7.size ≤ 69 := by rw [hx7, ByteArray.size_append]; omega
    have p1 := fun W => run_string_add_sum (P := Tryz.prog) W (⟨#[116, 121, 112, 101, 61]⟩ : ByteArray) N (by show 5 + N.size ≤ _; omega)
    have p2 := fun W => run_string_add_sum (P := Tryz.prog) W X1 (⟨#[32, 109, 115, 103, 61, 97, 117, 100, 105, 116, 40]⟩ : ByteArray) (by show X1.size + 11 ≤ _; omega)
    have p3 := fun W => run_string_add_sum (P := Tryz.prog) W X2 D1 (by omega)
    have p4 := fun W => run_string_add_sum (P := Tryz.prog) W X3 (⟨#[46]⟩ : ByteArray) (by show X3.size + 1 ≤ _; omega)
    have p5 := fun W => run_string_add_sum (P := Tryz.prog) W X4 D2 (by omega)
    have p6 := fun W => run_string_add_sum (P := Tryz.prog) W X5 (⟨#[58]⟩ : ByteArray) (by show X5.size + 1 ≤ _; omega)
    have p7 := fun W => run_string_add_sum (P := Tryz.prog) W X6 D3 (by omega)
    have p8 := fun W => run_string_add_sum (P := Tryz.prog) W X7 (⟨#[41, 58]⟩ : ByteArray) (by show X7.size + 2 ≤ _; omega)
    rw [← hx1] at p1
    rw [← hx2] at p2
    rw [← hx3] at p3
    rw [← hx4] at p4
    rw [← hx5] at p5
    rw [← hx6] at p6
    rw [← hx7] at p7
    rw [← hx1, ← hx2, ← hx3, ← hx4, ← hx5, ← hx6, ← hx7] at H
    rw [H] at p8
    have CC := Lib.hid CC
    have C1 := Lib.hid C1
    have C2 := Lib.hid C2
    have C3 := Lib.hid C3
    have htm0 : (0 : Int) ≤ (m : Int) := by omega
    have htm1 : (m : Int) ≤ 1099511627776 := by omega
    clear H hx1 hx2 hx3 hx4 hx5 hx6 hx7 b1 b2 b3 b4 b5 b6 b7 s0 s1 s2 s3 hR hz hF hck hP
    obtain ⟨c0, c1, c2, c3, f0, f1, f2, f3⟩ := h0.box
    go_enter Tryz.func10, Tryz.ntmps10
    go_wp2_with fail
    refine CC.out.mono ?_
    rintro e w1 ⟨rfl, hb⟩
    have h1 := h0.step hb
    clear c0 c1 c2 c3 f0 f1 f2 f3 hb h0
    obtain ⟨c0, c1, c2, c3, f0, f1, f2, f3⟩ := h1.box
    go_wp2_with fail
    go_upto_region 4 with fail
    go_cut [5] (fun s5 wx => s5 = .string R ∧ HW w t m r (.slice a ps.length cap) wx)
    case first =>
      have h1d := h1.step (Below.refl w1.heap.size w1).drew
      go_region_held3 (fun w' => w'.cell? ⟨w.heap.size, 0, none⟩ = some (.int .i64 t) ∧ w'.cell? ⟨w.heap.size, 1, none⟩ = some (.int .i64 (m : Int)) ∧ w'.cell? ⟨w.heap.size, 2, none⟩ = some (.int .i64 (r : Int)))
        (first
          | go_keep
          | (go_split_ands
             refine ⟨?_, ?_, ?_⟩ <;> assumption))
        (first
          | (go_at_call 21; (with_reducible refine (CN.out _ (by assumption)).mono ?_); rintro e wN ⟨rfl, hN⟩; have n0 := hN.box.c0; have n1 := hN.box.c1; have n2 := hN.box.c2)
          | (go_at_call_of 22 (Value.int .i64 (q1 : Int)); (with_reducible refine (C1.out _ (by assumption)).mono ?_); rintro e wM ⟨rfl, hM⟩; have m0 := hM.box.c0; have m1 := hM.box.c1; have m2 := hM.box.c2)
          | (go_at_call_of 22 (Value.int .i64 (r : Int)); (with_reducible refine (C3.out _ (by assumption)).mono ?_); rintro e wS ⟨rfl, hS⟩; have k0 := hS.box.c0; have k1 := hS.box.c1; have k2 := hS.box.c2)
          | (go_at_call 23; (with_reducible refine (C2.out _ (by assumption)).mono ?_); rintro e wT ⟨rfl, hT⟩; have t0 := hT.box.c0; have t1 := hT.box.c1; have t2 := hT.box.c2))
      all_goals (go_wp2_with fail; go_meet; exact ⟨rfl, by assumption⟩)
    case rest =>
      obtain ⟨rfl, hc⟩ := hcut
      have HRR := HR.out
      clear d1 d2 d3 d4 p1 p2 p3 p4 p5 p6 p7 p8 c0 c1 c2 c3 f0 f1 f2 f3 h1
      go_wp2_with fail
      go_loopw [5, 6] (fun s i wr => ∃ k : Nat, k ≤ ps.length ∧ s = .string (bs (headL t m r ++ tailL (ps.take k))) ∧ i = .int .i64 k ∧ HW w t m r (.slice a ps.length cap) wr) (fun _ i _ => ps.length - (intOf i).toNat)
      case atStart => exact ⟨0, Nat.zero_le _, by rw [HRR]; simp [tailL], rfl, hc⟩
      case round =>
        obtain ⟨k, hk, rfl, rfl, hw⟩ := hrel
        clear HRR hc
        have hbw := hw.bel
        have r3 := hw.box.c3
        by_cases hlt2 : k < ps.length
        · obtain ⟨b, o, p, rfl, hpk, hpa, hpo, hbb⟩ := (HP.out _ hbw).get hlt2
          have hcp := HCK.out p (List.mem_of_getElem? hpk)
          have hpl := pair_len hcp hpo.num
          have hts := HT.out k
          have CV := fun W => vl.rFormat_any (bs p.name) (bs p.text) p.kind p.num W (by rw [bs_size]; exact hpo.name) (by rw [bs_size]; exact hpo.text) hpo.num
          rw [fS_pair hcp, ck_bs, hcp] at CV
          have CV := Lib.hid CV
          have hL : bs (headL t m r ++ tailL (ps.take k)) ++ ((⟨#[32]⟩ : ByteArray) ++ bs (pairL p)) = bs (headL t m r ++ tailL (ps.take (k + 1))) := by
            rw [tail_snoc hpk]
            apply ByteArray.ext
            simp [bs]
          have z1 : (bs (headL t m r ++ tailL (ps.take k))).size ≤ 40000 := by rw [bs_size, List.length_append]; omega
          have z2 : (bs (pairL p)).size ≤ 1298 := by rw [bs_size]; exact hpl.2
          generalize bs (headL t m r ++ tailL (ps.take k)) = L at *
          obtain ⟨Y, hY⟩ : ∃ Y, Y = (⟨#[32]⟩ : ByteArray) ++ bs (pairL p) := ⟨_, rfl⟩
          have z3 : Y.size ≤ 1299 := by rw [hY, ByteArray.size_append]; show 1 + _ ≤ _; omega
          have p1 := fun W => run_string_add_sum (P := Tryz.prog) W (⟨#[32]⟩ : ByteArray) (bs (pairL p)) (by show 1 + _ ≤ _; omega)
          have p2 := fun W => run_string_add_sum (P := Tryz.prog) W L Y (by omega)
          rw [← hY] at p1 hL
          rw [hL] at p2
          obtain ⟨a0, a1, a2, a3⟩ := hpa
          have hkk : (k : Int) < (ps.length : Int) := by omega
          clear hpk hpo hcp hY hL z1 z2 z3 hpl hts
          go_wp2_with fail
          refine (CV.out _).mono ?_
          rintro e w5 ⟨rfl, hb5⟩
          have hw5 := hw.step hb5
          clear hb5 a0 a1 a2 a3 r3 hw hbw
          go_wp2_with fail
          exact ⟨⟨k + 1, by omega, rfl, by go_num, hw5⟩, by simp [intOf]; omega⟩
        · have e : ps.take k = ps := List.take_of_length_le (by omega)
          rw [e]
          clear e
          go_wp2_with fail
          go_ret2
          exact ⟨rfl, hbw⟩
  · have hF : fR t tm sr ps = ⟨#[]⟩ := by unfold fR; rw [if_neg hz]
    have e1 : (ckR t tm sr ps != 0) = true := by simp [hz]
    rw [hF]
    have CC := Lib.hid CC
    clear hF hz
    generalize ckR t tm sr ps = er at *
    obtain ⟨c0, c1, c2, c3, f0, f1, f2, f3⟩ := h0.box
    have hb0 := h0.bel
    go_enter Tryz.func10, Tryz.ntmps10
    go_wp2_with fail
    refine CC.out.mono ?_
    rintro e w1 ⟨rfl, hb⟩
    go_wp2_with fail
    go_ret2
    exact ⟨rfl, hb0.trans (hb.mono hb0.size)⟩
end Go.Proofs.YtdndngabddnpmaaGreatDoor.rd
