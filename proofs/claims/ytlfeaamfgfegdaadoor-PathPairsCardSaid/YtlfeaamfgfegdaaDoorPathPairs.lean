/-
  The law PathPairs: its walk.
-/
import Derived.Test.YtlfeaamfgfegdaaDoorPAg
import Derived.Test.YtlfeaamfgfegdaaDoorRows
namespace Go.Proofs.YtlfeaamfgfegdaaDoor
open Go.RowKit Go.Proofs.YtlfeaamfgfegdaaDoor.pt

namespace pathPairs
set_option maxRecDepth 100000 in
set_option maxHeartbeats 8000000 in
theorem walk (a b : ByteArray) (w : World) (_ : a.size ≤ maxLen) (_ : b.size ≤ maxLen) (_ : laidMetH Tryd.prog Rows.pathPairsRow.laid w) (_ : w.ShapedOpen Tryd.prog) :
    Calls Tryd.prog 4 #[.string a, .string b] w fun e w' => e = .returned (.bool true) ∧ Below w.heap.size w w' := by
  have CW := Lib.hid (fun W => pt.awake_any W)
  by_cases ha : a.size ≤ 200
  · have ha' : decide ((200 : Int) < (a.size : Int)) = false := decide_eq_false (by omega)
    by_cases hb : b.size ≤ 200
    · have hb' : decide ((200 : Int) < (b.size : Int)) = false := decide_eq_false (by omega)
      have hz1 : (⟨#[47]⟩ ++ a : ByteArray).size ≤ 100000 := by rw [ByteArray.size_append]; show 1 + a.size ≤ _; omega
      have hz2 : (⟨#[47]⟩ ++ a ++ ⟨#[47]⟩ ++ b : ByteArray).size ≤ 100000 := by
        rw [ByteArray.size_append, ByteArray.size_append, ByteArray.size_append]; show 1 + a.size + 1 + b.size ≤ _; omega
      have C1 := fun W => Join_any a b W (by omega) (by omega)
      have C2 := fun W => rJoin_any a b W (by omega) (by omega)
      have C3 := fun W => Under_any a b W (by omega) (by omega)
      have C4 := fun W => rUnder_any a b W (by omega) (by omega)
      have C5 := fun W => Under_any (⟨#[47]⟩ ++ a) (⟨#[47]⟩ ++ a ++ ⟨#[47]⟩ ++ b) W hz1 hz2
      have C6 := fun W => rUnder_any (⟨#[47]⟩ ++ a) (⟨#[47]⟩ ++ a ++ ⟨#[47]⟩ ++ b) W hz1 hz2
      generalize joinB a b = J at C1 C2
      generalize underS a b = u at C3 C4
      generalize underS (⟨#[47]⟩ ++ a) (⟨#[47]⟩ ++ a ++ ⟨#[47]⟩ ++ b) = v at C5 C6
      have C1 := Lib.hid C1
      have C2 := Lib.hid C2
      have C3 := Lib.hid C3
      have C4 := Lib.hid C4
      have C5 := Lib.hid C5
      have C6 := Lib.hid C6
      have e1 : (J.toList == J.toList) = true := by simp
      have e2 : (u == u) = true := by simp
      have e3 : (v == v) = true := by simp
      clear hz1 hz2
      go_enter Tryd.func4, Tryd.ntmps4
      go_wp2_with fail
      refine (C1.out _).mono ?_
      rintro e w1 ⟨rfl, rfl⟩
      go_wp2_with fail
      refine (C2.out _).mono ?_
      rintro e w1 ⟨rfl, rfl⟩
      go_wp2_with fail
      refine (C3.out _).mono ?_
      rintro e w3 ⟨rfl, hb3⟩
      go_wp2_with fail
      refine (C4.out _).mono ?_
      rintro e w4 ⟨rfl, hb4⟩
      have hb34 := hb3.trans (hb4.mono hb3.size)
      go_wp2_with fail
      refine (C5.out _).mono ?_
      rintro e w5 ⟨rfl, hb5⟩
      have hb35 := hb34.trans (hb5.mono hb34.size)
      go_wp2_with fail
      refine (C6.out _).mono ?_
      rintro e w6 ⟨rfl, hb6⟩
      have hb36 := hb35.trans (hb6.mono hb35.size)
      go_wp2_with fail
      refine (CW.out _).mono ?_
      rintro e w7 ⟨rfl, hb7⟩
      go_wp2_with fail
      go_ret
      exact ⟨rfl, hb36.trans (hb7.mono hb36.size)⟩
    · have hb' : decide ((200 : Int) < (b.size : Int)) = true := by simp; omega
      go_enter Tryd.func4, Tryd.ntmps4
      go_wp2_with fail
      refine (CW.out _).mono ?_
      rintro e w1 ⟨rfl, hb1⟩
      go_wp2_with fail
      go_ret
      exact ⟨rfl, hb1⟩
  · have ha' : decide ((200 : Int) < (a.size : Int)) = true := by simp; omega
    go_enter Tryd.func4, Tryd.ntmps4
    go_wp2_with fail
    refine (CW.out _).mono ?_
    rintro e w1 ⟨rfl, hb1⟩
    go_wp2_with fail
    go_ret
    exact ⟨rfl, hb1⟩
end pathPairs
end Go.Proofs.YtlfeaamfgfegdaaDoor
