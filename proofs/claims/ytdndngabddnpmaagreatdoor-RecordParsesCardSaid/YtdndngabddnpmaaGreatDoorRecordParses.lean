/-
  The law RecordParses: its walk.
-/
import Derived.Test.YtdndngabddnpmaaGreatDoorRRd
import Derived.Test.YtdndngabddnpmaaGreatDoorRLaid
import Derived.Test.YtdndngabddnpmaaGreatDoorLaid
import Derived.Test.YtdndngabddnpmaaGreatDoorRows
namespace Go.Proofs.YtdndngabddnpmaaGreatDoor
open Go.RowKit Go.Proofs.YtdndngabddnpmaaGreatDoor.cm Go.Proofs.YtdndngabddnpmaaGreatDoor.vl Go.Proofs.YtdndngabddnpmaaGreatDoor.rd Go.Proofs.YtdndngabddnpmaaGreatDoor.sr

namespace recordParses
set_option maxRecDepth 100000 in
set_option maxHeartbeats 8000000 in
theorem walk (s : ByteArray) (w : World) (_ : s.size ≤ maxLen) (hL : laidMetH Tryz.prog Rows.recordParsesRow.laid w) (hsh : w.ShapedOpen Tryz.prog) :
    Calls Tryz.prog 3 #[.string s] w fun e w' => e = .returned (.bool true) ∧ Below w.heap.size w w' := by
  have hT : HexT w := hex_of hL (by rfl)
  have hER : EnvR w := ⟨⟨hT, pow_of hL (by rfl), pos_of hT⟩, rec_of hL (by rfl)⟩
  have hE : EnvP w := ⟨hER, ⟨hER.env, syn_of hL (by rfl), rng_of hL (by rfl)⟩, Tryz.laysM145.s1_3 w hsh⟩
  have CW := Lib.hid (fun W (h : Below w.heap.size w W) => rd.awake_any W (hE.below h).env)
  have CR := fun (x : ByteArray) (hx : x.size ≤ 1000000) (W : World) (h : Below w.heap.size w W) => reads_any x W hx (hE.below h)
  clear hT hL hsh
  by_cases h : 1000 < s.size
  · have h' : decide ((1000 : Int) < (s.size : Int)) = true := by simp; omega
    clear CR
    go_enter Tryz.func3, Tryz.ntmps3
    go_wp2_with fail
    refine (CW.out _ (Below.refl _ _)).mono ?_
    rintro e w1 ⟨rfl, hb⟩
    go_wp2_with fail
    go_ret
    exact ⟨rfl, hb⟩
  · have h' : decide ((1000 : Int) < (s.size : Int)) = false := decide_eq_false (by omega)
    have C1 := Lib.hid (CR s (by omega))
    have C2 := Lib.hid (CR (⟨#[116, 121, 112, 101, 61, 67, 87, 68, 32, 109, 115, 103, 61, 97, 117, 100, 105, 116, 40, 49, 46, 48, 48, 48, 58, 50, 41, 58]⟩ ++ s) (by rw [ByteArray.size_append]; show 28 + s.size ≤ _; omega))
    have C3 := Lib.hid (CR (⟨#[116, 121, 112, 101, 61, 80, 65, 84, 72, 32, 109, 115, 103, 61, 97, 117, 100, 105, 116, 40]⟩ ++ s) (by rw [ByteArray.size_append]; show 20 + s.size ≤ _; omega))
    clear CR
    go_enter Tryz.func3, Tryz.ntmps3
    go_wp2_with fail
    refine (C1.out _ (Below.refl _ _)).mono ?_
    rintro e w1 ⟨rfl, hb1⟩
    go_wp2_with fail
    refine (C2.out _ hb1).mono ?_
    rintro e w2 ⟨rfl, hb2⟩
    have hb12 := hb1.trans (hb2.mono hb1.size)
    go_wp2_with fail
    refine (C3.out _ hb12).mono ?_
    rintro e w3 ⟨rfl, hb3⟩
    have hb13 := hb12.trans (hb3.mono hb12.size)
    go_wp2_with fail
    refine (CW.out _ hb13).mono ?_
    rintro e w4 ⟨rfl, hb4⟩
    go_wp2_with fail
    go_ret
    exact ⟨rfl, hb13.trans (hb4.mono hb13.size)⟩
end recordParses
end Go.Proofs.YtdndngabddnpmaaGreatDoor
