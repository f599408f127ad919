/-
  The law MaskParses: its walk.
-/
import Derived.Test.YtjckgehlojcinaaDoorRefParse
import Derived.Test.YtjckgehlojcinaaDoorMaskMembers
namespace Go.Proofs.YtjckgehlojcinaaDoor
open Go.RowKit

theorem mk.rparse_any (s : ByteArray) (w : World) (hs : s.size ≤ 1000) :
    Calls Tryd.prog 23 #[.string s] w fun e w' => e = .returned (.tuple #[.int .u64 ((mk.parS s).1 : Int), .int .i64 (mk.parS s).2]) ∧ Below w.heap.size w w' := by
  unfold mk.parS
  by_cases h1 : s.toList = [97, 108, 108]
  · rw [if_pos h1]
    exact mk.rparse_all s w (by rw [h1]; rfl)
  · rw [if_neg h1]
    by_cases h2 : s.toList = [110, 111, 110, 101]
    · rw [if_pos h2]
      exact mk.rparse_none s w (beq_eq_false_iff_ne.2 h1) (by rw [h2]; rfl)
    · rw [if_neg h2]
      exact mk.rparse_core s w hs (beq_eq_false_iff_ne.2 h1) (beq_eq_false_iff_ne.2 h2)

namespace maskParses
open mk
set_option maxHeartbeats 1000000 in
theorem walk (s : ByteArray) (w : World) (_ : s.size ≤ maxLen) (hL : laidMetH Tryd.prog Rows.maskParsesRow.laid w) (_ : w.ShapedOpen Tryd.prog) :
    Calls Tryd.prog 5 #[.string s] w fun e w' => e = .returned (.bool true) ∧ Below w.heap.size w w' := by
  have hT : Tabs w := tabs_of hL (by rfl)
  have h0 := heap_pos hT
  have HT := Lib.hid hT
  clear hT hL
  by_cases hbig : 200 < s.size
  · go_enter Tryd.func5, Tryd.ntmps5
    go_wp2_with fail
    refine (awake_any _ HT.out h0).mono ?_
    rintro e w' ⟨rfl, hb2⟩
    go_wp2_with fail
    go_ret
    exact ⟨rfl, hb2⟩
  · have C1 := Lib.hid (parse_any s w (by omega))
    have C2 := Lib.hid (fun W => rparse_any s W (by omega))
    generalize parS s = r at *
    obtain ⟨m, er⟩ := r
    go_enter Tryd.func5, Tryd.ntmps5
    go_wp2_with fail
    refine C1.out.mono ?_
    rintro e w1 ⟨rfl, b1⟩
    go_wp2_with fail
    refine (C2.out _).mono ?_
    rintro e w2 ⟨rfl, b2⟩
    have b2' := b1.trans (b2.mono b1.size)
    go_wp2_with fail
    refine (awake_any _ (HT.out.below b2' h0) (Nat.lt_of_lt_of_le h0 b2'.size)).mono ?_
    rintro e w3 ⟨rfl, b3⟩
    go_wp2_with fail
    go_ret
    exact ⟨rfl, b2'.trans (b3.mono b2'.size)⟩
end maskParses
end Go.Proofs.YtjckgehlojcinaaDoor
