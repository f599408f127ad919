/-
  The law MaskReads: its walk.
-/
import Derived.Test.YtjckgehlojcinaaDoorRefFmt
import Derived.Test.YtjckgehlojcinaaDoorMaskMembers
namespace Go.Proofs.YtjckgehlojcinaaDoor
open Go.RowKit

namespace mk
theorem rformat_any (m : Nat) (hm : m < 18446744073709551616) (w : World) :
    Calls Tryd.prog 21 #[.int .u64 m] w fun e w' => e = .returned (.string ⟨(fmtS m).toArray⟩) ∧ Below w.heap.size w w' := by
  have C := rlist_any m hm w
  have hM : m % 4294967296 < 4294967296 := by omega
  unfold fmtS
  by_cases h1 : m % 4294967296 = 4294967295
  · rw [if_pos h1]
    rw [h1] at C
    exact rformat_full m w _ full_mem (Lib.hid C)
  · rw [if_neg h1]
    by_cases h2 : m % 4294967296 = 0
    · rw [if_pos h2]
      rw [h2, mem_zero] at C
      exact rformat_none m w (Lib.hid C)
    · rw [if_neg h2, rngs_grp 33 _ hM]
      have hne : mem (m % 4294967296) ≠ [] := fun hc => h2 (mem_nil _ hM hc)
      have hl : (mem (m % 4294967296)).length < 32 := by
        have := cnt_le (m % 4294967296)
        apply Nat.lt_of_le_of_ne this
        intro hc
        exact h1 (mem_full _ hM hc)
      exact rformat_some m w _ hne hl (fun j hj => mem_getD _ j hj) (Lib.hid C)
end mk

namespace maskReads
open mk
set_option maxHeartbeats 2000000 in
theorem core (m : Nat) (n : Int) (hm : m < 18446744073709551616) (w : World) (hT : Tabs w) (h0w : 0 < w.heap.size) :
    Calls Tryd.prog 4 #[.int .u64 m, .int .i64 n] w fun e w' => e = .returned (.bool true) ∧ Below w.heap.size w w' := by
  have HT := Lib.hid hT
  clear hT
  have CV := Lib.hid (fun W => valid_any m W hm)
  have CV' := Lib.hid (fun W => rvalid_any m W)
  have CH := Lib.hid (fun W => has_any m n W hm)
  have CH' := Lib.hid (fun W => rhas_any m n W hm)
  have CL := Lib.hid (fun W h h0 => list_any m hm W h h0)
  have CL' := Lib.hid (fun W => rlist_any m hm W)
  have CF := Lib.hid (fun W h h0 => format_any m hm W h h0)
  have CF' := Lib.hid (fun W => rformat_any m hm W)
  have hlen := cnt_le (m % 4294967296)
  generalize decide (m < 4294967296) = V at *
  generalize hasB m n = H at *
  generalize mem (m % 4294967296) = L at *
  generalize fmtS m = S at *
  go_enter Tryd.func4, Tryd.ntmps4
  go_wp2_with fail
  refine (CV.out _).mono ?_
  rintro e w' ⟨rfl, rfl⟩
  go_wp2_with fail
  refine (CV'.out _).mono ?_
  rintro e w' ⟨rfl, rfl⟩
  go_wp2_with fail
  refine (CH.out _).mono ?_
  rintro e w' ⟨rfl, q, rfl⟩
  go_wp2_with fail
  refine (CH'.out _).mono ?_
  rintro e w' ⟨rfl, rfl⟩
  go_wp2_with fail
  have b1 : Below w.heap.size w (w.drewN q) := below_drewN (Below.refl _ _) q
  refine (CL.out _ (HT.out.below b1 h0w) h0w).mono ?_
  rintro e w1 ⟨v, rfl, hv, b2⟩
  have b2' := b1.trans (b2.mono b1.size)
  have HV := Lib.hid hv
  clear hv
  go_wp2_with fail
  refine (CL'.out _).mono ?_
  rintro e w2 ⟨v', rfl, hv', b3⟩
  have b3' := b2'.trans (b3.mono b2'.size)
  have HV2 := Lib.hid (HV.out.below b3)
  have HV' := Lib.hid hv'
  clear hv'
  go_wp2_with fail
  refine (same_any _ _ _ _ HV2.out HV'.out (by simp [ints]; omega)).mono ?_
  rintro e w3 ⟨rfl, q3, rfl⟩
  have b4 : Below w.heap.size w (w2.drewN q3) := below_drewN b3' q3
  go_wp2_with fail
  refine (CF.out _ (HT.out.below b4 h0w) (Nat.lt_of_lt_of_le h0w b4.size)).mono ?_
  rintro e w4 ⟨rfl, b5⟩
  have b5' := b4.trans (b5.mono b4.size)
  go_wp2_with fail
  refine (CF'.out _).mono ?_
  rintro e w5 ⟨rfl, b6⟩
  have b6' := b5'.trans (b6.mono b5'.size)
  go_wp2_with fail
  refine (awake_any _ (HT.out.below b6' h0w) (Nat.lt_of_lt_of_le h0w b6'.size)).mono ?_
  rintro e w6 ⟨rfl, b7⟩
  go_wp2_with fail
  go_ret
  exact ⟨rfl, b6'.trans (b7.mono b6'.size)⟩

theorem walk (n x : Int) (w : World) (wf : (Lit.int .u64 n).wf = true) (_ : (Lit.int .i64 x).wf = true) (hL : laidMetH Tryd.prog Rows.maskReadsRow.laid w) (_ : w.ShapedOpen Tryd.prog) :
    Calls Tryd.prog 4 #[.int .u64 n, .int .i64 x] w fun e w' => e = .returned (.bool true) ∧ Below w.heap.size w w' := by
  obtain ⟨h0, h1⟩ := u64_range wf
  obtain ⟨m, rfl⟩ := Int.eq_ofNat_of_zero_le h0
  have hT := tabs_of hL (by rfl)
  exact core m x (by omega) w hT (heap_pos hT)
end maskReads
end Go.Proofs.YtjckgehlojcinaaDoor
