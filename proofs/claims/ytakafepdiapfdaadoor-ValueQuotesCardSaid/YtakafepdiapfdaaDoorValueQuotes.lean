/-
  The law ValueQuotes: its walk.
-/
import Derived.Test.YtakafepdiapfdaaDoorVAwake
namespace Go.Proofs.YtakafepdiapfdaaDoor.valueQuotes
open Go.RowKit Go.Proofs.YtakafepdiapfdaaDoor.cm Go.Proofs.YtakafepdiapfdaaDoor.vl

set_option maxHeartbeats 1000000 in
theorem walk (s : ByteArray) (w : World) (hs : s.size ≤ maxLen) (hL : laidMetH Tryd.prog Rows.valueQuotesRow.laid w) (_ : w.ShapedOpen Tryd.prog) :
    Calls Tryd.prog 3 #[.string s] w fun e w' => e = .returned (.bool true) ∧ Below w.heap.size w w' := by
  have hT : HexT w := hex_of hL (by rfl)
  have h0 := pos_of hT
  have HT := Lib.hid hT
  clear hT hL
  have C1 := Lib.hid (Quote_any s w hs HT.out h0)
  have C2 := Lib.hid (fun W => rQuote_any s W hs)
  unfold maxLen at hs
  generalize qS s = t at *
  generalize qE s = er at *
  by_cases hbig : 1000 < s.size
  · go_enter Tryd.func3, Tryd.ntmps3
    go_wp2_with fail
    refine (awake_any _ HT.out h0).mono ?_
    rintro e w' ⟨rfl, hb⟩
    go_wp2_with fail
    go_ret
    exact ⟨rfl, hb⟩
  · go_enter Tryd.func3, Tryd.ntmps3
    go_wp2_with fail
    refine C1.out.mono ?_
    rintro e w1 ⟨rfl, b1⟩
    go_wp2_with fail
    refine (C2.out _).mono ?_
    rintro e w2 ⟨rfl, b2⟩
    have b2' := b1.trans (b2.mono b1.size)
    go_wp2_with fail
    refine (awake_any _ (HT.out.below b2' h0) (Nat.lt_of_lt_of_le h0 b2'.size)).mono ?_
    rintro e w3 ⟨rfl, b3⟩
    go_wp2_with fail
    go_ret
    exact ⟨rfl, b2'.trans (b3.mono b2'.size)⟩
end Go.Proofs.YtakafepdiapfdaaDoor.valueQuotes
