/-
  The law PathBuilt: its walk.
-/
import Derived.Test.YtlfeaamfgfegdaaDoorPAg
import Derived.Test.YtlfeaamfgfegdaaDoorPJs
import Derived.Test.YtlfeaamfgfegdaaDoorSrcN
import Derived.Test.YtlfeaamfgfegdaaDoorRow
import Derived.Test.YtlfeaamfgfegdaaDoorRows
namespace Go.Proofs.YtlfeaamfgfegdaaDoor
open Go.RowKit Go.Proofs.YtlfeaamfgfegdaaDoor.cm Go.Proofs.YtlfeaamfgfegdaaDoor.pt Go.Proofs.YtlfeaamfgfegdaaDoor.sr

namespace pathBuilt
set_option maxRecDepth 100000 in
set_option maxHeartbeats 8000000 in
theorem walk (la : Option Addr) (llen lcap : Nat) (zs : List Int) (w : World) (hr : IsRow .i64 w la llen lcap zs) (_ : laidMetH Tryd.prog Rows.pathBuiltRow.laid w) (_ : w.ShapedOpen Tryd.prog) :
    Calls Tryd.prog 5 #[.slice la llen lcap] w fun e w' => e = .returned (.bool true) ∧ Below w.heap.size w w' := by
  have CW := Lib.hid (fun W => pt.awake_any W)
  have CNW := Lib.hid (new_any la llen lcap w)
  have HS := Lib.hid (src_new w la llen lcap (nums_of_row hr))
  clear hr
  go_enter Tryd.func5, Tryd.ntmps5
  go_wp2_with fail
  refine CNW.out.mono ?_
  rintro e w1 ⟨rfl, hw1⟩
  have hs1 := HS.out
  rw [← hw1] at hs1
  have hb1 : Below w.heap.size w w1 := by rw [hw1]; exact (Below.refl _ _).alloc (Nat.le_refl _) _
  clear hw1
  have CA := Lib.hid (path_b w w1 w.heap.size la llen lcap 0 hs1 (by omega))
  clear hs1
  go_wp2_with fail
  refine CA.out.mono ?_
  rintro e w2 ⟨k2, hk2, a, ha, rfl, hs2, hbe2⟩
  have hb2 : Below w.heap.size w w2 := hb1.trans (hbe2.below (Nat.le_refl _) hb1.size)
  have CB := Lib.hid (path_b w w2 w.heap.size la llen lcap k2 hs2 (by omega))
  clear hs2 hbe2 hb1
  go_wp2_with fail
  refine CB.out.mono ?_
  rintro e w3 ⟨k3, hk3, b, hb, rfl, hs3, hbe3⟩
  have hb3 : Below w.heap.size w w3 := hb2.trans (hbe3.below (Nat.le_refl _) hb2.size)
  have CN := Lib.hid (name_b w w3 w.heap.size la llen lcap k3 hs3 (by omega))
  clear hs3 hbe3 hb2
  go_wp2_with fail
  refine CN.out.mono ?_
  rintro e w4 ⟨n, ⟨hn, _⟩, rfl, hs4, hbe4⟩
  have hb4 : Below w.heap.size w w4 := hb3.trans (hbe4.below (Nat.le_refl _) hb3.size)
  clear hs4 hbe4 hb3
  have ha : a.size ≤ 60 := ha
  have hb : b.size ≤ 60 := hb
  have hj : (joinB a n).size ≤ 100000 := by have := joinB_size a n; omega
  have G1 := Lib.hid (fun W => agrees_any a W (by omega))
  have G2 := Lib.hid (fun W => agrees_any b W (by omega))
  have G3 := Lib.hid (fun W => agrees_any n W (by omega))
  have C1 := fun W => Join_any a n W (by omega) (by omega)
  have C2 := fun W => rJoin_any a n W (by omega) (by omega)
  have C3 := fun W => Under_any a b W (by omega) (by omega)
  have C4 := fun W => rUnder_any a b W (by omega) (by omega)
  have C5 := fun W => Under_any a (joinB a n) W (by omega) hj
  have C6 := fun W => rUnder_any a (joinB a n) W (by omega) hj
  generalize underS a (joinB a n) = v at C5 C6
  generalize joinB a n = J at C1 C2 C5 C6
  generalize underS a b = u at C3 C4
  have C1 := Lib.hid C1
  have C2 := Lib.hid C2
  have C3 := Lib.hid C3
  have C4 := Lib.hid C4
  have C5 := Lib.hid C5
  have C6 := Lib.hid C6
  have e1 : (J.toList == J.toList) = true := by simp
  have e2 : (u == u) = true := by simp
  have e3 : (v == v) = true := by simp
  clear hj ha hb hn
  go_wp2_with fail
  refine (G1.out _).mono ?_
  rintro e w5 ⟨rfl, h5⟩
  have hb5 := hb4.trans (h5.mono hb4.size)
  clear h5 hb4
  go_wp2_with fail
  refine (G2.out _).mono ?_
  rintro e w6 ⟨rfl, h6⟩
  have hb6 := hb5.trans (h6.mono hb5.size)
  clear h6 hb5
  go_wp2_with fail
  refine (G3.out _).mono ?_
  rintro e w7 ⟨rfl, h7⟩
  have hb7 := hb6.trans (h7.mono hb6.size)
  clear h7 hb6
  go_wp2_with fail
  refine (C1.out _).mono ?_
  rintro e w8 ⟨rfl, rfl⟩
  go_wp2_with fail
  refine (C2.out _).mono ?_
  rintro e w8 ⟨rfl, rfl⟩
  go_wp2_with fail
  refine (C3.out _).mono ?_
  rintro e w8 ⟨rfl, h8⟩
  have hb8 := hb7.trans (h8.mono hb7.size)
  clear h8 hb7
  go_wp2_with fail
  refine (C4.out _).mono ?_
  rintro e w9 ⟨rfl, h9⟩
  have hb9 := hb8.trans (h9.mono hb8.size)
  clear h9 hb8
  go_wp2_with fail
  refine (C1.out _).mono ?_
  rintro e w10 ⟨rfl, rfl⟩
  go_wp2_with fail
  refine (C5.out _).mono ?_
  rintro e w10 ⟨rfl, h10⟩
  have hb10 := hb9.trans (h10.mono hb9.size)
  clear h10 hb9
  go_wp2_with fail
  refine (C2.out _).mono ?_
  rintro e w11 ⟨rfl, rfl⟩
  go_wp2_with fail
  refine (C6.out _).mono ?_
  rintro e w11 ⟨rfl, h11⟩
  have hb11 := hb10.trans (h11.mono hb10.size)
  clear h11 hb10
  go_wp2_with fail
  refine (CW.out _).mono ?_
  rintro e w12 ⟨rfl, h12⟩
  go_wp2_with fail
  go_ret
  exact ⟨rfl, hb11.trans (h12.mono hb11.size)⟩
end pathBuilt
end Go.Proofs.YtlfeaamfgfegdaaDoor
