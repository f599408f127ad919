/-
  FilesNews: the walk.
-/
import Derived.Test.YtihngdpgiknkaaaFRn
import Derived.Test.YtihngdpgiknkaaaRSm
import Derived.Test.YtihngdpgiknkaaaRows
import Derived.Test.YtihngdpgiknkaaaFWk
namespace Go.Proofs.Ytihngdpgiknkaaa.fl
open Go.RowKit Go.Proofs.Ytihngdpgiknkaaa.cm

theorem news_sml (n : Int) : Sml (newP n).1 := by
  by_cases h : 1 ≤ n ∧ n ≤ 3
  · exact (new_ok (n := n) (by rw [new_eq, if_pos h])).sml
  · rw [new_eq, if_neg h]
    exact ⟨by simp, fun d hd => by simp at hd, fun d hd => by simp at hd⟩

set_option maxRecDepth 100000 in
set_option maxHeartbeats 1000000 in
theorem filesNews_any (n : Int) (w : World) : Calls Try.prog 3 #[.int .i64 n] w fun e w' => e = .returned (.bool true) ∧ Below w.heap.size w w' := by
  have CN := Lib.hid (New_any n w)
  have CR := Lib.hid (fun W => rNew_any n W)
  have CS := Lib.hid (fun a b ca cb W hA hB => Same_true a b ca cb (newP n).1 W hA hB (news_sml n))
  have CA := Lib.hid (fun W => awake_any W)
  generalize newP n = R at *
  obtain ⟨F, er⟩ := R
  go_enter Try.func3, Try.ntmps3
  go_wp2_with fail
  refine CN.out.mono ?_
  rintro e w1 ⟨v1, rfl, ho1, hb1⟩
  obtain ⟨a1, c1, rfl, hf1⟩ := ho1.files
  have CR1 := Lib.hid (CR.out (w1.alloc (.cells #[.slice a1 F.length c1] 24)))
  clear CN CR ho1
  go_wp2_with fail
  refine CR1.out.mono ?_
  rintro e w2 ⟨v2, rfl, ho2, hb2⟩
  obtain ⟨a2, c2, rfl, hf2⟩ := ho2.files
  have hx : Below w1.heap.size w1 (w1.alloc (.cells #[.slice a1 F.length c1] 24)) := (Below.refl _ _).alloc (Nat.le_refl _) _
  have hy : Below w2.heap.size w2 (w2.alloc (.cells #[.slice a2 F.length c2] 24)) := (Below.refl _ _).alloc (Nat.le_refl _) _
  have t1 : TB 24 (w1.alloc (.cells #[.slice a1 F.length c1] 24)) w1.heap.size [.slice a1 F.length c1] := TB.new1 w1 _ _ _ rfl
  have u1 := (t1.stay hb2).blk.c1.1
  have u2 := ((t1.stay hb2).stay hy).blk.c1.1
  have hbw : Below w.heap.size w (w2.alloc (.cells #[.slice a2 F.length c2] 24)) := ((hb1.trans (hx.mono hb1.size)).trans (hb2.mono (by have := hb1.size; have := hx.size; omega))).alloc (by have := hb1.size; have := hx.size; have := hb2.size; omega) _
  have CS2 := Lib.hid (CS.out a1 a2 c1 c2 (w2.alloc (.cells #[.slice a2 F.length c2] 24)) (((hf1.below hx).below hb2).below hy) (hf2.below hy))
  have HB := Lib.hid hbw
  clear CS hf1 hf2 ho2 hb1 hb2 hx hy t1 CR1 hbw
  go_wp2_with fail
  refine CS2.out.mono ?_
  rintro e w3 ⟨rfl, hb3⟩
  have H3 := Lib.hid (HB.out.trans (hb3.mono HB.out.size))
  have CA3 := Lib.hid (CA.out w3)
  clear CS2 CA hb3
  go_wp2_with fail
  refine CA3.out.mono ?_
  rintro e w4 ⟨rfl, hb4⟩
  have H4 := Lib.hid (H3.out.trans (hb4.mono H3.out.size))
  clear hb4
  go_wp2_with fail
  go_ret
  exact ⟨rfl, H4.out⟩
end Go.Proofs.Ytihngdpgiknkaaa.fl
namespace Go.Proofs.Ytihngdpgiknkaaa.filesNews
open Go.RowKit Go.Proofs.Ytihngdpgiknkaaa.fl
theorem walk (n : Int) (w : World) (_ : (Lit.int .i64 n).wf = true) (_ : laidMetH Try.prog Rows.filesNewsRow.laid w) (_ : w.ShapedOpen Try.prog) : Calls Try.prog 3 #[.int .i64 n] w fun e w' => e = .returned (.bool true) ∧ Below w.heap.size w w' := filesNews_any n w
end Go.Proofs.Ytihngdpgiknkaaa.filesNews
