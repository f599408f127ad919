/-
  The law RecordBack: its walk.
-/
import Derived.Test.YtiappccnjblcmaaGreatDoorRAgree
import Derived.Test.YtiappccnjblcmaaGreatDoorRdR
import Derived.Test.YtiappccnjblcmaaGreatDoorRLaid
import Derived.Test.YtiappccnjblcmaaGreatDoorLaid
import Derived.Test.YtiappccnjblcmaaGreatDoorRow
namespace Go.Proofs.YtiappccnjblcmaaGreatDoor
open Go.RowKit Go.Proofs.YtiappccnjblcmaaGreatDoor.cm Go.Proofs.YtiappccnjblcmaaGreatDoor.vl Go.Proofs.YtiappccnjblcmaaGreatDoor.rd Go.Proofs.YtiappccnjblcmaaGreatDoor.sr
attribute [local go_sem ↓] Go.wp_at_zero Go.wp_at_succ

namespace recordBack
theorem line_back {t tm sr : Int} {ps : List PairP} (hc : ckR t tm sr ps = 0) (hi : ∀ p ∈ ps, isInt p.num) :
    (fR t tm sr ps).size ≤ 31240 ∧ parR (fR t tm sr ps).data.toList = some ⟨t, tm, sr, ps⟩ ∧ ∀ c ∈ (fR t tm sr ps).data.toList, 32 ≤ c.toNat := by
  have e : fR t tm sr ps = bs (lineL ⟨t, tm, sr, ps⟩) := by unfold fR; rw [if_pos hc]
  have hf : fmtR ⟨t, tm, sr, ps⟩ = some (lineL ⟨t, tm, sr, ps⟩) := by unfold fmtR; rw [if_pos (show checkR ⟨t, tm, sr, ps⟩ = 0 from hc)]
  rw [e, bs_data, bs_size]
  exact ⟨line_len hc hi, parR_fmtR hf hi, fun c h => (line_bytes hc hi c h).1⟩

set_option maxRecDepth 100000 in
set_option maxHeartbeats 16000000 in
theorem walk (la : Option Addr) (llen lcap : Nat) (zs : List Int) (w : World) (hr : IsRow .i64 w la llen lcap zs) (hL : laidMetH Tryz.prog Rows.recordBackRow.laid w) (hsh : w.ShapedOpen Tryz.prog) :
    Calls Tryz.prog 5 #[.slice la llen lcap] w fun e w' => e = .returned (.bool true) ∧ Below w.heap.size w w' := by
  have hT : HexT w := hex_of hL (by rfl)
  have hER : EnvR w := ⟨⟨hT, pow_of hL (by rfl), pos_of hT⟩, rec_of hL (by rfl)⟩
  have hE : EnvP w := ⟨hER, ⟨hER.env, syn_of hL (by rfl), rng_of hL (by rfl)⟩, Tryz.laysM145.s1_3 w hsh⟩
  have HE := Lib.hid (fun W (h : Below w.heap.size w W) => hE.below h)
  have CW := Lib.hid (fun W (h : Below w.heap.size w W) => rd.awake_any W (hE.below h).env)
  have CN := Lib.hid (new_any la llen lcap w)
  have hs0 := src_new w la llen lcap (nums_of_row hr)
  clear hT hE hER hL hr hsh
  go_enter Tryz.func5, Tryz.ntmps5
  go_wp2_with fail
  refine CN.out.mono ?_
  rintro e w1 ⟨rfl, hw1⟩
  rw [← hw1] at hs0
  have hbe1 : Beside w.heap.size w w1 := by rw [hw1]; exact (Beside.refl _ w).alloc _
  clear hw1
  have CR := Lib.hid (record_b w w1 w.heap.size la llen lcap 0 hs0 (by omega))
  have hl1 := hs0.lt
  clear hs0
  go_wp2_with fail
  refine CR.out.mono ?_
  rintro e w2 ⟨t, tm, sr, va, cpa, P, k1, rfl, -, ⟨hp1, hp2, -⟩, hPA, -, -, -, hb2⟩
  have hbw2 := ((hbe1.trans hb2).below (Nat.le_refl _) (Nat.le_refl _)).alloc (by have := hb2.size; omega) (.cells #[.int .i64 t, .int .i64 tm, .int .i64 sr, .slice va P.length cpa] 29)
  have F2 := Four.new w2 29 (.int .i64 t) (.int .i64 tm) (.int .i64 sr) (.slice va P.length cpa)
  have hP2 := hPA.below ((Below.refl _ w2).alloc (Nat.le_refl _) (.cells #[.int .i64 t, .int .i64 tm, .int .i64 sr, .slice va P.length cpa] 29))
  have C1 := Lib.hid (Format_any t tm sr va cpa P _ hP2 (by omega) hp2 (HE.out _ hbw2).env)
  have HLB := Lib.hid (fun h => line_back (t := t) (tm := tm) (sr := sr) (ps := P) h (fun p hp => (hPA.ok p hp).num))
  have CK := Lib.hid (fun W (h : PairsAt W va P) (hE : RecT W) => Check_any t tm sr va cpa P W h (by omega) hp2 hE)
  generalize fR t tm sr P = X at *
  generalize ckR t tm sr P = er at *
  clear hbe1 hb2 CR CN hPA
  have HP := Lib.hid hP2
  have HF := Lib.hid F2
  clear hP2 F2
  go_wp2_with fail
  refine C1.out.mono ?_
  rintro e w3 ⟨rfl, hb3⟩
  have hbw3 := hbw2.trans (hb3.mono hbw2.size)
  have F3 := HF.out.below hb3
  have hP3 := HP.out.below hb3
  have hz3 : w2.heap.size < w3.heap.size := F3.lt
  clear hbw2 hb3 HF HP C1
  by_cases hz : er = 0
  · subst hz
    obtain ⟨hX1, hX2, hX3⟩ := HLB.out rfl
    have HX2 := Lib.hid hX2
    have HX3 := Lib.hid hX3
    have HF3 := Lib.hid F3
    have HP3 := Lib.hid hP3
    have C2 := Lib.hid (rdParse_any X w3 (by omega) (HE.out _ hbw3))
    clear hX2 hX3 F3 hP3 CK HLB
    go_wp2_with fail
    refine C2.out.mono ?_
    rintro e w4 ⟨t', tm', sr', vb, cpb, Q, er, rfl, hQ, ⟨hq1, hq2⟩, hb4, hcase⟩
    rcases hcase with ⟨rfl, he⟩ | ⟨-, he, -⟩
    · rw [HX2.out] at he
      injection he with he
      injection he with e1 e2 e3 e4
      subst e1
      subst e2
      subst e3
      subst e4
      have bx := (Below.refl _ w4).alloc (Nat.le_refl _) (.cells #[.int .i64 t, .int .i64 tm, .int .i64 sr, .slice vb P.length cpb] 29)
      have F4 := (HF3.out.below hb4).below bx
      have G4 := Four.new w4 29 (.int .i64 t) (.int .i64 tm) (.int .i64 sr) (.slice vb P.length cpb)
      have hbw4 := (hbw3.trans (hb4.mono hbw3.size)).alloc (by have := hbw3.size; have := hb4.size; omega) (.cells #[.int .i64 t, .int .i64 tm, .int .i64 sr, .slice vb P.length cpb] 29)
      have hP4 := (HP3.out.below hb4).below bx
      have hQ4 := hQ.below bx
      have hS := (sameR_iff t tm sr t tm sr P P).2 ⟨rfl, rfl, rfl, rfl⟩
      have C3 := Same_any t tm sr t tm sr va vb cpa cpb P P _ hP4 hQ4 (by omega)
      rw [hS] at C3
      have C3 := Lib.hid C3
      have HB4 := Lib.hid hbw4
      obtain ⟨a0, a1, a2, a3, _, _, _, _⟩ := F4
      obtain ⟨b0, b1, b2, b3, _, _, _, _⟩ := G4
      have hXi : (X.size : Int) ≤ 31240 := by omega
      clear bx hb4 hQ hP4 hQ4 hS C2 HF3 HP3 HX2 hbw4 hbw3
      go_wp2_with fail
      generalize hW : w4.alloc (.cells #[.int .i64 t, .int .i64 tm, .int .i64 sr, .slice vb P.length cpb] 29) = W4 at *
      clear hW
      go_loopw [8] (fun i wr => ∃ k : Nat, k ≤ X.size ∧ i = .int .i64 (k : Int) ∧ wr = W4) (fun i _ => X.size - (intOf i).toNat)
      case atStart => exact ⟨0, Nat.zero_le _, rfl, rfl⟩
      case round =>
        obtain ⟨k, hk, rfl, rfl⟩ := hrel
        by_cases hlt : k < X.size
        · have hne : ((X[k].toNat : Int) == 10) = false := by
            have := HX3.out X[k] (by
              have h2 : X.data.toList[k]? = some X[k] := by
                rw [Array.getElem?_toList]
                exact Array.getElem?_eq_getElem hlt
              exact List.mem_of_getElem? h2)
            exact beq_eq_false_iff_ne.2 (by omega)
          clear a0 a1 a2 a3 b0 b1 b2 b3
          go_wp2_with fail
          exact ⟨⟨k + 1, by omega, by go_num, trivial⟩, by simp [intOf]; omega⟩
        · obtain rfl : k = X.size := by omega
          go_wp2_with fail
          refine C3.out.mono ?_
          rintro e w7 ⟨rfl, hb7⟩
          have hbw7 := HB4.out.trans (hb7.mono HB4.out.size)
          go_wp2_with fail
          refine (CW.out _ hbw7).mono ?_
          rintro e w8 ⟨rfl, hb8⟩
          go_wp2_with fail
          go_ret
          exact ⟨rfl, hbw7.trans (hb8.mono hbw7.size)⟩
    · rw [HX2.out] at he
      cases he
  · have y1 : (er != 0) = true := by simp [hz]
    have CK1 := Lib.hid (CK.out w3 hP3 (HE.out _ hbw3).env.tab)
    obtain ⟨a0, a1, a2, a3, _, _, _, _⟩ := F3
    clear hz hP3 CK HLB
    go_wp2_with fail
    refine CK1.out.mono ?_
    rintro e w4 ⟨rfl, hb4⟩
    have hbw4 := hbw3.trans (hb4.mono hbw3.size)
    go_wp2_with fail
    refine (CW.out _ hbw4).mono ?_
    rintro e w8 ⟨rfl, hb8⟩
    go_wp2_with fail
    go_ret
    exact ⟨rfl, hbw4.trans (hb8.mono hbw4.size)⟩
end recordBack
end Go.Proofs.YtiappccnjblcmaaGreatDoor
