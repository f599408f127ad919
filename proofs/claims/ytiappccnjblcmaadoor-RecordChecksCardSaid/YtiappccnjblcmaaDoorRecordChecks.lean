/-
  The law RecordChecks: its walk.
-/
import Derived.Test.YtiappccnjblcmaaDoorRAgree
import Derived.Test.YtiappccnjblcmaaDoorRLaid
namespace Go.Proofs.YtiappccnjblcmaaDoor
open Go.RowKit Go.Proofs.YtiappccnjblcmaaDoor.cm Go.Proofs.YtiappccnjblcmaaDoor.vl Go.Proofs.YtiappccnjblcmaaDoor.rd

namespace recordChecks
set_option maxRecDepth 100000 in
set_option maxHeartbeats 8000000 in
theorem walk (t tm sr : Int) (a : Option Addr) (cap : Nat) (ps : List PairP) (w : World) (hP : PairsAt w a ps) (hc : ps.length ≤ cap) (hl : ps.length ≤ 9223372036854775807) (hL : laidMetH Tryd.prog Rows.recordChecksRow.laid w) (_ : w.ShapedOpen Tryd.prog) :
    Calls Tryd.prog 4 #[.agg #[.int .i64 t, .int .i64 tm, .int .i64 sr, .slice a ps.length cap]] w fun e w' => e = .returned (.bool true) ∧ Below w.heap.size w w' := by
  have hT : HexT w := hex_of hL (by rfl)
  have hE : EnvR w := ⟨⟨hT, pow_of hL (by rfl), pos_of hT⟩, rec_of hL (by rfl)⟩
  have HE := Lib.hid (fun W (h : Below w.heap.size w W) => hE.below h)
  have CA := Lib.hid (fun (t tm sr : Int) W (h : Below w.heap.size w W) => agrees_any t tm sr a cap ps W (hP.below h) hl hc (hE.below h))
  have CW := Lib.hid (fun W (h : Below w.heap.size w W) => rd.awake_any W (hE.below h))
  have h0 := HW.new w 31 t tm sr (.slice a ps.length cap)
  have CL := Lib.hid (light_any t tm sr a cap ps _ (hP.below h0.bel) hl)
  clear hT hE hL hP
  obtain ⟨c0, c1, c2, c3, f0, f1, f2, f3⟩ := h0.box
  go_enter Tryd.func4, Tryd.ntmps4
  go_wp2_with fail
  refine CL.out.mono ?_
  rintro e w1 ⟨b, rfl, hb⟩
  have h1 := h0.step hb
  clear h0 c0 c1 c2 c3 f0 f1 f2 f3 hb
  obtain ⟨c0, c1, c2, c3, f0, f1, f2, f3⟩ := h1.box
  have hbl := h1.bel
  cases b
  · go_wp2_with fail
    refine (CW.out _ hbl).mono ?_
    rintro e w2 ⟨rfl, hb⟩
    go_wp2_with fail
    go_ret
    exact ⟨rfl, hbl.trans (hb.mono hbl.size)⟩
  · go_wp2_with fail
    refine (CA.out _ _ _ _ hbl).mono ?_
    rintro e w2 ⟨rfl, hb⟩
    have h2 := h1.step hb
    clear h1 c0 c1 c2 c3 f0 f1 f2 f3 hb hbl
    obtain ⟨c0, c1, c2, c3, f0, f1, f2, f3⟩ := h2.box
    have hb2 := h2.bel
    go_wp2_with fail
    have hb3 := ((hb2.setCell (p := ⟨w.heap.size, 0, none⟩) (Nat.le_refl _) (.int .i64 1302)).setCell (p := ⟨w.heap.size, 1, none⟩) (Nat.le_refl _) (.int .i64 (bits .and .i64 tm 1099511627775))).setCell (p := ⟨w.heap.size, 2, none⟩) (Nat.le_refl _) (.int .i64 (bits .and .i64 sr 1073741823))
    refine (CA.out _ _ _ _ hb3).mono ?_
    rintro e w3 ⟨rfl, hb⟩
    have hb4 := hb3.trans (hb.mono hb3.size)
    clear hb hb2 hb3 c0 c1 c2 c3 f0 f1 f2 f3
    go_wp2_with fail
    refine (CW.out _ hb4).mono ?_
    rintro e w4 ⟨rfl, hb⟩
    go_wp2_with fail
    go_ret
    exact ⟨rfl, hb4.trans (hb.mono hb4.size)⟩
end recordChecks
end Go.Proofs.YtiappccnjblcmaaDoor
