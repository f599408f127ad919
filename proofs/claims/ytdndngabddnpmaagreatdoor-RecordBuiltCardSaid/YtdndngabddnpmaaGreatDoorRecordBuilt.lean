/-
  The law RecordBuilt: its walk.
-/
import Derived.Test.YtdndngabddnpmaaGreatDoorRRd
import Derived.Test.YtdndngabddnpmaaGreatDoorRLaid
import Derived.Test.YtdndngabddnpmaaGreatDoorLaid
import Derived.Test.YtdndngabddnpmaaGreatDoorRow
import Derived.Deep.RegionHeld3
namespace Go.Proofs.YtdndngabddnpmaaGreatDoor
open Go.RowKit Go.Proofs.YtdndngabddnpmaaGreatDoor.cm Go.Proofs.YtdndngabddnpmaaGreatDoor.vl Go.Proofs.YtdndngabddnpmaaGreatDoor.rd Go.Proofs.YtdndngabddnpmaaGreatDoor.sr
attribute [local go_sem ↓] Go.wp_at_zero Go.wp_at_succ

namespace recordBuilt
theorem line_size {t tm sr : Int} {ps : List PairP} (hi : ∀ p ∈ ps, isInt p.num) : (fR t tm sr ps).size ≤ 31240 := by
  unfold fR
  split
  · rename_i hc
    rw [bs_size]
    exact line_len hc hi
  · exact Nat.zero_le _

/-- a fresh byte, as a text -/
theorem byte_text (W : World) (C : UInt8) : (convert 36 9 (.slice (some ⟨W.heap.size, 0, none⟩) 1 1)).run Tryz.prog (W.alloc (.cells #[.int .u8 (C.toNat : Int)] 5)) = .ok (.string ⟨#[C]⟩) (W.alloc (.cells #[.int .u8 (C.toNat : Int)] 5)) :=
  run_convert_bytes_back (P := Tryz.prog) (W.alloc (.cells #[.int .u8 (C.toNat : Int)] 5)) 36 9 5 ⟨W.heap.size, 0, none⟩ 1 [C] Tryz.underlying36 Tryz.underlying5 Tryz.underlying9 (fun j hj => by
    obtain rfl : j = 0 := by simp at hj; omega
    show (W.alloc _).cell? ⟨W.heap.size, 0, none⟩ = _
    simp)

set_option maxRecDepth 100000 in
set_option maxHeartbeats 16000000 in
theorem walk (la : Option Addr) (llen lcap : Nat) (zs : List Int) (c : Int) (w : World) (hr : IsRow .i64 w la llen lcap zs) (hcw : (Lit.int .u8 c).wf = true) (hL : laidMetH Tryz.prog Rows.recordBuiltRow.laid w) (hsh : w.ShapedOpen Tryz.prog) :
    Calls Tryz.prog 4 #[.slice la llen lcap, .int .u8 c] w fun e w' => e = .returned (.bool true) ∧ Below w.heap.size w w' := by
  have hT : HexT w := hex_of hL (by rfl)
  have hER : EnvR w := ⟨⟨hT, pow_of hL (by rfl), pos_of hT⟩, rec_of hL (by rfl)⟩
  have hE : EnvP w := ⟨hER, ⟨hER.env, syn_of hL (by rfl), rng_of hL (by rfl)⟩, Tryz.laysM145.s1_3 w hsh⟩
  have HE := Lib.hid (fun W (h : Below w.heap.size w W) => hE.below h)
  have CW := Lib.hid (fun W (h : Below w.heap.size w W) => (rd.awake_any W (hE.below h).env).mono (R' := fun e W' => e = .returned (.bool true) ∧ Below w.heap.size w W') fun e W' hh => ⟨hh.1, h.trans (hh.2.mono h.size)⟩)
  have CRD := Lib.hid (fun (x : ByteArray) (hx : x.size ≤ 1000000) (W : World) (h : Below w.heap.size w W) => (reads_any x W hx (hE.below h)).mono (R' := fun e W' => e = .returned (.bool true) ∧ Below w.heap.size w W') fun e W' hh => ⟨hh.1, h.trans (hh.2.mono h.size)⟩)
  have CN := Lib.hid (new_any la llen lcap w)
  have hs0 := src_new w la llen lcap (nums_of_row hr)
  have hc' := bounds_u8 hcw
  obtain ⟨C, rfl⟩ : ∃ C : UInt8, c = (C.toNat : Int) := ⟨UInt8.ofNat c.toNat, by rw [UInt8.toNat_ofNat']; omega⟩
  clear hT hE hER hL hr hsh hcw hc'
  go_enter Tryz.func4, Tryz.ntmps4
  go_wp2_with fail
  refine CN.out.mono ?_
  rintro e w1 ⟨rfl, hw1⟩
  rw [← hw1] at hs0
  have hbe1 : Beside w.heap.size w w1 := by rw [hw1]; exact (Beside.refl _ w).alloc _
  clear hw1
  have CR := Lib.hid (record_b w w1 w.heap.size la llen lcap 0 hs0 (by omega))
  have hl1 := hs0.lt
  clear hs0
  go_wp2_with fail
  refine CR.out.mono ?_
  rintro e w2 ⟨t, tm, sr, va, cpa, P, k1, rfl, -, ⟨hp1, hp2, -⟩, hPA, -, hk1, hs2, hb2⟩
  have hbw2 := ((hbe1.trans hb2).below (Nat.le_refl _) (Nat.le_refl _)).alloc (by have := hb2.size; omega) (.cells #[.int .i64 t, .int .i64 tm, .int .i64 sr, .slice va P.length cpa] 29)
  have F2 := Four.new w2 29 (.int .i64 t) (.int .i64 tm) (.int .i64 sr) (.slice va P.length cpa)
  have hP2 := hPA.below ((Below.refl _ w2).alloc (Nat.le_refl _) (.cells #[.int .i64 t, .int .i64 tm, .int .i64 sr, .slice va P.length cpa] 29))
  have hs3 := hs2.alloc (.cells #[.int .i64 t, .int .i64 tm, .int .i64 sr, .slice va P.length cpa] 29)
  have CA := Lib.hid (fun W (h : PairsAt W va P) (hE : EnvR W) => agrees_any t tm sr va cpa P W h (by omega) hp2 hE)
  have CF := Lib.hid (fun W (h : PairsAt W va P) => rFormat_any t tm sr va cpa P W h (by omega))
  have hX1 : (fR t tm sr P).size ≤ 31240 := line_size (fun p hp => (hPA.ok p hp).num)
  generalize fR t tm sr P = X at *
  generalize ckR t tm sr P = er at *
  have HF := Lib.hid F2
  have HP := Lib.hid hP2
  have CA1 := Lib.hid (CA.out _ hP2 (HE.out _ hbw2).env)
  clear hbe1 hb2 CR CN hPA hs2 hP2 F2 CA
  go_wp2_with fail
  refine CA1.out.mono ?_
  rintro e w3 ⟨rfl, hb3⟩
  have hbw3 := hbw2.trans (hb3.mono hbw2.size)
  have F3 := HF.out.below hb3
  have hP3 := HP.out.below hb3
  have hs4 := hs3.later hb3
  have CF1 := Lib.hid (CF.out _ hP3)
  have HF3 := Lib.hid F3
  obtain ⟨a0, a1, a2, a3, _, _, _, _⟩ := F3
  clear hb3 hs3 hbw2 HF HP hP3 CA1 CF
  go_wp2_with fail
  refine CF1.out.mono ?_
  rintro e w4 ⟨rfl, hb4⟩
  have hbw4 := hbw3.trans (hb4.mono hbw3.size)
  have hs5 := hs4.later hb4
  clear hb4 hs4 hbw3 HF3 a0 a1 a2 a3 CF1
  by_cases hX0 : X.size = 0
  · have hXe := size_nil hX0
    subst hXe
    go_wp2_with fail
    refine (CW.out _ hbw4).mono ?_
    rintro e w8 ⟨rfl, hb8⟩
    go_wp2_with fail
    go_ret
    exact ⟨rfl, hb8⟩
  · have CX := Lib.hid (n_b w w4 _ la llen lcap k1 X.size hs5 (by omega) (by omega) (by omega))
    clear hs5
    go_wp2_with fail
    refine CX.out.mono ?_
    rintro e w5 ⟨k, hk, rfl, hs6, hb5⟩
    have hbw5 := hbw4.trans (hb5.below (Nat.le_refl _) hbw4.size)
    clear hs6 hb5 CX hbw4
    have hbd := hbw5.drew
    have HT := fun W => byte_text W C
    have hXi : (X.size : Int) ≤ 31240 := by omega
    have hk0 : (0 : Int) ≤ (k : Int) := by omega
    have hk1' : (k : Int) ≤ (X.size : Int) := by omega
    have hk2 : (0 : Int) ≤ (k : Int) + 1 := by omega
    have hk3 : (k : Int) + 1 ≤ (X.size : Int) := by omega
    have hwr : IntKind.i64.wrap ((k : Int) + 1) = (k : Int) + 1 := IntWalk.i64_in _ (by omega)
    have hg1 : (⟨#[C]⟩ : ByteArray).size = 1 := rfl
    have hg2 : (⟨#[32]⟩ : ByteArray).size = 1 := rfl
    go_wp2_with fail
    go_region_held (fun _ => True) (trivial)
      (first
        | (go_at_call 6; go_must (refine (CRD.out _ ?hsz _ ?hbel).mono ?_; (case hsz => first | omega | (simp only [ByteArray.size_append, ByteArray.size_extract, hg1, hg2]; omega)); (case hbel => first | assumption | exact Below.alloc (by assumption) (by omega) _); rintro e wA ⟨rfl, hbA⟩; have hszA := hbA.size))
        | (go_at_call 5; refine (CW.out _ (by assumption)).mono ?_; rintro e wB ⟨rfl, hbB⟩))
    all_goals go_wp2_with fail
    all_goals go_ret
    all_goals exact ⟨rfl, hbB⟩
end recordBuilt
end Go.Proofs.YtdndngabddnpmaaGreatDoor
