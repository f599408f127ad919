/-
  The law MaskBack: its walk.
-/
import Derived.Test.YtjckgehlojcinaaDoorText
namespace Go.Proofs.YtjckgehlojcinaaDoor
open Go.RowKit
namespace maskBack
open mk

set_option maxHeartbeats 4000000 in
set_option maxRecDepth 100000 in
theorem core (m M : Nat) (hb : bits .and .u64 (m : Int) 4294967295 = (M : Int)) (hM : M < 4294967296) (w : World) (hT : Tabs w) (h0w : 0 < w.heap.size) :
    Calls Tryd.prog 7 #[.int .u64 m] w fun e w' => e = .returned (.bool true) ∧ Below w.heap.size w w' := by
  have HT := Lib.hid hT
  clear hT
  have CF := Lib.hid (fun W => format_any M (by omega) W)
  have hp := parS_fmtS M hM
  have hl := fmtS_len M hM
  have cp := fun W => parse_any ⟨(fmtS M).toArray⟩ W (by omega)
  rw [hp] at cp
  have CP := Lib.hid cp
  clear cp hp hl
  generalize (⟨(fmtS M).toArray⟩ : ByteArray) = T at *
  go_enter Tryd.func7, Tryd.ntmps7
  go_wp2_with fail
  refine (CF.out _ HT.out h0w).mono ?_
  rintro e w1 ⟨rfl, b1⟩
  go_wp2_with fail
  refine (CP.out _).mono ?_
  rintro e w2 ⟨rfl, b2⟩
  have b2' := b1.trans (b2.mono b1.size)
  go_wp2_with fail
  refine (awake_any _ (HT.out.below b2' h0w) (Nat.lt_of_lt_of_le h0w b2'.size)).mono ?_
  rintro e w5 ⟨rfl, b3⟩
  go_wp2_with fail
  go_ret
  exact ⟨rfl, b2'.trans (b3.mono b2'.size)⟩

theorem walk (n : Int) (w : World) (wf : (Lit.int .u64 n).wf = true) (hL : laidMetH Tryd.prog Rows.maskBackRow.laid w) (_ : w.ShapedOpen Tryd.prog) :
    Calls Tryd.prog 7 #[.int .u64 n] w fun e w' => e = .returned (.bool true) ∧ Below w.heap.size w w' := by
  obtain ⟨h0, h1⟩ := u64_range wf
  obtain ⟨m, rfl⟩ := Int.eq_ofNat_of_zero_le h0
  have hT := tabs_of hL (by rfl)
  exact core m _ (low_num m (by omega)) (by omega) w hT (heap_pos hT)
end maskBack
end Go.Proofs.YtjckgehlojcinaaDoor
