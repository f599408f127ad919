/-
  awake: the sanity check of every law of layer 1 is true.
-/
import Derived.Test.YtjckgehlojcinaaDoorFmt
namespace Go.Proofs.YtjckgehlojcinaaDoor.mk
open Go.RowKit

set_option maxRecDepth 100000 in
theorem fmtS_awake : fmtS 135 = [48, 45, 50, 44, 55] := by
  have h : rngs 33 135 = [(0, 2), (7, 7)] := by decide +kernel
  have d0 : Lib.decDigits 0 = [48] := by rw [Lib.decDigits, dif_pos (by decide)]; rfl
  have d2 : Lib.decDigits 2 = [50] := by rw [Lib.decDigits, dif_pos (by decide)]; rfl
  have d7 : Lib.decDigits 7 = [55] := by rw [Lib.decDigits, dif_pos (by decide)]; rfl
  unfold fmtS
  rw [if_neg (by decide), if_neg (by decide), show 135 % 4294967296 = 135 from rfl, h]
  simp [fmtR, d0, d2, d7, Lib.join, List.intercalate, List.intersperse]

set_option maxHeartbeats 1000000 in
theorem awake_any (w : World) (hT : Tabs w) (h0w : 0 < w.heap.size) :
    Calls Tryd.prog 10 #[] w fun e w' => e = .returned (.bool true) ∧ Below w.heap.size w w' := by
  have cO : ∀ (v : Value) (W : World), IsInts W v [7, 0, 1, 2] → Calls Tryd.prog 11 #[v] W fun e w' => e = .returned (.tuple #[.int .u64 135, .int .i64 0]) ∧ ∃ k, w' = W.drewN k :=
    fun v W h => of_any v [7, 0, 1, 2] W h (by simp)
  have CO := Lib.hid cO
  have HT := Lib.hid hT
  clear cO hT
  have cF : ∀ (W : World), Tabs W → 0 < W.heap.size → Calls Tryd.prog 20 #[.int .u64 135] W fun e w' => e = .returned (.string ⟨[48, 45, 50, 44, 55].toArray⟩) ∧ Below W.heap.size W w' := fun W h h0 => by
    have := format_any 135 (by omega) W h h0
    rw [fmtS_awake] at this
    exact this
  have CF := Lib.hid cF
  clear cF
  have cV : ∀ (W : World), Calls Tryd.prog 13 #[.int .u64 135] W fun e w' => e = .returned (.bool true) ∧ W = w' := fun W => valid_any 135 W (by omega)
  have CV := Lib.hid cV
  clear cV
  go_enter Tryd.func10, Tryd.ntmps10
  go_wp2_with fail
  refine (CO.out _ _ (.inr ⟨_, _, _, rfl, ?_⟩)).mono ?_
  · intro k hk
    match k, hk with
    | 0, _ => simp
    | 1, _ => simp
    | 2, _ => simp
    | 3, _ => simp
  rintro e w' ⟨rfl, nq, rfl⟩
  go_wp2_with fail
  have hb1 : Below w.heap.size w ((w.alloc (.cells #[.int .i64 7, .int .i64 0, .int .i64 1, .int .i64 2] 3)).drewN nq) := below_drewN ((Below.refl _ _).alloc (Nat.le_refl _) _) _
  refine (CF.out _ (HT.out.below hb1 h0w) (by simp)).mono ?_
  rintro e w' ⟨rfl, hb2⟩
  go_wp2_with fail
  refine (CV.out _).mono ?_
  rintro e w'' ⟨rfl, rfl⟩
  go_wp2_with fail
  go_ret
  exact ⟨rfl, hb1.trans (hb2.mono hb1.size)⟩
end Go.Proofs.YtjckgehlojcinaaDoor.mk
