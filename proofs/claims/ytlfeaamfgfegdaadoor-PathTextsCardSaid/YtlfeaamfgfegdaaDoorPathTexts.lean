/-
  The law PathTexts: its walk.
-/
import Derived.Test.YtlfeaamfgfegdaaDoorPAg
import Derived.Test.YtlfeaamfgfegdaaDoorRows
namespace Go.Proofs.YtlfeaamfgfegdaaDoor
open Go.RowKit Go.Proofs.YtlfeaamfgfegdaaDoor.pt

namespace pathTexts
set_option maxRecDepth 100000 in
set_option maxHeartbeats 4000000 in
theorem walk (s : ByteArray) (w : World) (_ : s.size ≤ maxLen) (_ : laidMetH Tryd.prog Rows.pathTextsRow.laid w) (_ : w.ShapedOpen Tryd.prog) :
    Calls Tryd.prog 3 #[.string s] w fun e w' => e = .returned (.bool true) ∧ Below w.heap.size w w' := by
  have CW := Lib.hid (fun W => pt.awake_any W)
  by_cases h : s.size ≤ 400
  · have h' : decide ((400 : Int) < (s.size : Int)) = false := decide_eq_false (by omega)
    have hz : (⟨#[47]⟩ ++ s : ByteArray).size ≤ 7000 := by rw [ByteArray.size_append]; show 1 + s.size ≤ 7000; omega
    have C1 := Lib.hid (agrees_any s w (by omega))
    have C2 := Lib.hid (fun W => agrees_any (⟨#[47]⟩ ++ s) W hz)
    go_enter Tryd.func3, Tryd.ntmps3
    go_wp2_with fail
    refine C1.out.mono ?_
    rintro e w1 ⟨rfl, hb1⟩
    go_wp2_with fail
    refine (C2.out _).mono ?_
    rintro e w2 ⟨rfl, hb2⟩
    go_wp2_with fail
    refine (CW.out _).mono ?_
    rintro e w3 ⟨rfl, hb3⟩
    go_wp2_with fail
    go_ret
    have hb12 := hb1.trans (hb2.mono hb1.size)
    exact ⟨rfl, hb12.trans (hb3.mono hb12.size)⟩
  · have h' : decide ((400 : Int) < (s.size : Int)) = true := by simp; omega
    go_enter Tryd.func3, Tryd.ntmps3
    go_wp2_with fail
    refine (CW.out _).mono ?_
    rintro e w1 ⟨rfl, hb1⟩
    go_wp2_with fail
    go_ret
    exact ⟨rfl, hb1⟩
end pathTexts
end Go.Proofs.YtlfeaamfgfegdaaDoor
