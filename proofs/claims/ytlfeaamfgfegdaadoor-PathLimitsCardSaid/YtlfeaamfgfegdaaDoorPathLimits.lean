/-
  The law PathLimits: its walk.
-/
import Derived.Test.YtlfeaamfgfegdaaDoorPAg
import Derived.Test.YtlfeaamfgfegdaaDoorRows
import Derived.OpenShut
namespace Go.Proofs.YtlfeaamfgfegdaaDoor
open Go.RowKit Go.Proofs.YtlfeaamfgfegdaaDoor.cm Go.Proofs.YtlfeaamfgfegdaaDoor.pt

namespace pathLimits
def nm (k : Nat) : ByteArray := pt.bs (List.replicate k 110)
def lg (k r : Nat) : ByteArray := pt.bs (joinL (List.replicate k (List.replicate (10 + r) 110)))
theorem bs_app (l m : List UInt8) : pt.bs l ++ pt.bs m = pt.bs (l ++ m) := by
  unfold pt.bs
  apply ByteArray.ext
  simp
theorem nm_succ (k : Nat) : nm k ++ ⟨#[110]⟩ = nm (k + 1) := by
  unfold nm
  rw [List.replicate_succ', ← bs_app]; rfl
theorem lg_succ (k r : Nat) : lg k r ++ (⟨#[47]⟩ ++ nm (10 + r)) = lg (k + 1) r := by
  unfold lg
  rw [List.replicate_succ', join_snoc, cat_bs]
  unfold nm
  rw [pt.bs_data]
theorem nm_size (k : Nat) : (nm k).size = k := by unfold nm; rw [bs_len, List.length_replicate]
theorem lg_size (k r : Nat) : (lg k r).size = (11 + r) * k := by
  induction k with
  | zero => rfl
  | succ k ih =>
    rw [← lg_succ, ByteArray.size_append, ByteArray.size_append, ih, nm_size]
    show _ + (1 + (10 + r)) = _
    rw [Nat.mul_succ]; omega
theorem limits : ∀ r, r < 5 → nameS (nm (10 + r)) = decide (r ≤ 2) ∧ cleanS (lg 40 r) = decide (r ≤ 2) ∧ underS (⟨#[47]⟩ ++ nm (10 + r)) (lg 40 r) = decide (r ≤ 2)
  | 0, _ => by decide +kernel
  | 1, _ => by decide +kernel
  | 2, _ => by decide +kernel
  | 3, _ => by decide +kernel
  | 4, _ => by decide +kernel

set_option maxRecDepth 100000 in
set_option maxHeartbeats 16000000 in
theorem walk (n : Int) (w : World) (hn : (Lit.int .u8 n).wf = true) (_ : laidMetH Tryd.prog Rows.pathLimitsRow.laid w) (_ : w.ShapedOpen Tryd.prog) :
    Calls Tryd.prog 9 #[.int .u8 n] w fun e w' => e = .returned (.bool true) ∧ Below w.heap.size w w' := by
  have CW := Lib.hid (fun W => pt.awake_any W)
  have hb := bounds_u8 hn
  obtain ⟨r, hr, hr5⟩ : ∃ r : Nat, n.tmod 5 = (r : Int) ∧ r < 5 := by
    have h1 := Int.tmod_nonneg 5 hb.1
    have h2 := Int.tmod_lt_of_pos n (show (0 : Int) < 5 by decide)
    exact ⟨(n.tmod 5).toNat, by omega, by omega⟩
  have HLM := Lib.hid (limits r hr5)
  clear hn hb
  go_enter Tryd.func9, Tryd.ntmps9
  go_wp2_with fail
  have hw1 : IntKind.u8.wrap (r : Int) = (r : Int) := by rw [IntKind.wrap_u8]; omega
  have hw2 : IntKind.i64.wrap (10 + (r : Int)) = ((10 + r : Nat) : Int) := by rw [IntWalk.i64_in _ (by omega)]; omega
  have hw3 : IntKind.i64.wrap (r : Int) = (r : Int) := IntWalk.i64_in _ (by omega)
  go_loopw [3, 4] (fun v i wr => wr = w ∧ ∃ k : Nat, k ≤ 10 + r ∧ i = .int .i64 (k : Int) ∧ v = .string (nm k)) (fun _ i _ => 10 + r - (intOf i).toNat)
  case atStart => exact ⟨rfl, 0, Nat.zero_le _, rfl, rfl⟩
  case round =>
    obtain ⟨rfl, k, hk, rfl, rfl⟩ := hrel
    by_cases hlt : k < 10 + r
    · have hlt' : (k : Int) < ((10 + r : Nat) : Int) := by omega
      have hsz := nm_size k
      have HS := Lib.hid (nm_succ k)
      generalize nm k = N at *
      go_wp2_with fail
      exact ⟨⟨trivial, k + 1, by omega, by go_num, val_str HS.out⟩, by simp [intOf]; omega⟩
    · obtain rfl : k = 10 + r := by omega
      have hlt' : ¬ ((10 + r : Nat) : Int) < ((10 + r : Nat) : Int) := by omega
      have hsz := nm_size (10 + r)
      have HLS := Lib.hid (fun k => lg_succ k r)
      have HLZ := Lib.hid (fun k => lg_size k r)
      generalize nm (10 + r) = N at *
      go_wp2_with fail
      go_loopw [5, 6] (fun v i wx => wx = wr ∧ ∃ k : Nat, k ≤ 40 ∧ i = .int .i64 (k : Int) ∧ v = .string (lg k r)) (fun _ i _ => 40 - (intOf i).toNat)
      case atStart => exact ⟨rfl, 0, Nat.zero_le _, rfl, rfl⟩
      case round =>
        obtain ⟨rfl, k, hk, rfl, rfl⟩ := hrel
        by_cases hlt : k < 40
        · have hsl : (lg k r).size ≤ 600 := by
            rw [HLZ.out]
            have : (11 + r) * k ≤ 15 * 40 := Nat.mul_le_mul (by omega) (by omega)
            omega
          have HS := Lib.hid (HLS.out k)
          generalize lg k r = L at *
          go_wp2_with fail
          exact ⟨⟨trivial, k + 1, by omega, by go_num, val_str HS.out⟩, by simp [intOf]; omega⟩
        · obtain rfl : k = 40 := by omega
          have hsl : (lg 40 r).size ≤ 600 := by
            rw [HLZ.out]
            have : (11 + r) * 40 ≤ 15 * 40 := Nat.mul_le_mul (by omega) (by omega)
            omega
          obtain ⟨m1, m2, m3⟩ := HLM.out
          have C1 := fun W => Name_any N W
          have C2 := fun W => Clean_any (lg 40 r) W (by omega)
          have C3 := fun W => Under_any (⟨#[47]⟩ ++ N) (lg 40 r) W (by rw [ByteArray.size_append]; show 1 + N.size ≤ _; omega) (by omega)
          rw [m1] at C1
          rw [m2] at C2
          rw [m3] at C3
          have hd : decide ((10 : Int) + (r : Int) ≤ 12) = decide (r ≤ 2) := by
            rw [Bool.eq_iff_iff, decide_eq_true_eq, decide_eq_true_eq]; omega
          generalize decide (r ≤ 2) = bb at *
          have eb : (bb == bb) = true := by simp
          have C1 := Lib.hid C1
          have C2 := Lib.hid C2
          have C3 := Lib.hid C3
          generalize lg 40 r = L at *
          clear HLM HLS HLZ m1 m2 m3
          go_wp2_with fail
          refine (C1.out _).mono ?_
          rintro e v1 ⟨rfl, g1⟩
          go_wp2_with fail
          refine (C2.out _).mono ?_
          rintro e v2 ⟨rfl, g2⟩
          have g12 := g1.trans (g2.mono g1.size)
          go_wp2_with fail
          refine (C3.out _).mono ?_
          rintro e v3 ⟨rfl, g3⟩
          have g13 := g12.trans (g3.mono g12.size)
          go_wp2_with fail
          refine (CW.out _).mono ?_
          rintro e v4 ⟨rfl, g4⟩
          go_wp2_with fail
          go_ret
          exact ⟨rfl, g13.trans (g4.mono g13.size)⟩
end pathLimits
end Go.Proofs.YtlfeaamfgfegdaaDoor
