/-
  FilesRemoves: the walk.
-/
import Derived.Test.YtafnbpkdenjipaaGreatSrcL
import Derived.Test.YtafnbpkdenjipaaGreatRSz
import Derived.Test.YtafnbpkdenjipaaGreatFWk
import Derived.Test.YtafnbpkdenjipaaGreatRows
import Derived.Test.YtafnbpkdenjipaaGreatRow
namespace Go.Proofs.YtafnbpkdenjipaaGreat.fl
open Go.RowKit Go.Proofs.YtafnbpkdenjipaaGreat.cm Go.Proofs.YtafnbpkdenjipaaGreat.sr

theorem ownC_stay {B : Nat} {w w' : World} {v : Value} {l : List ChgP} (h : OwnC B w v l) (hb : Below w.heap.size w w') : OwnC B w' v l := own_keep h fun g hg => hb.block g (own_lt h hg).2
/-- an answer is small -/
def SmlR (r : ResP) : Prop := Sml r.files ∧ r.chg.length ≤ 1000
theorem SmlR.none {r : ResP} (h1 : r.files = []) (h2 : r.chg = []) : SmlR r := ⟨by rw [h1]; exact ⟨by simp, fun d hd => by simp at hd, fun d hd => by simp at hd⟩, by rw [h2]; simp⟩
theorem unlink_sml {F : FilP} (hO : OKF F) (x : At) (s : ByteArray) : SmlR (unlinkF F x s) := by
  obtain ⟨-, h2, h3⟩ := unl_eq F x s
  by_cases h : (unlinkF F x s).err = 0
  · exact ⟨(hO.unlink x s h).2.sml, by rw [(h2 h).2]; simp⟩
  · exact .none (h3 h).1 (h3 h).2
theorem rmdir_sml {F : FilP} (hO : OKF F) (x : At) (s : ByteArray) : SmlR (rmdirF F x s) := by
  obtain ⟨-, h2, h3⟩ := rmd_eq F x s
  by_cases h : (rmdirF F x s).err = 0
  · exact ⟨(hO.rmdir x s h).2.sml, by rw [(h2 h).2]; simp⟩
  · exact .none (h3 h).1 (h3 h).2

set_option maxRecDepth 100000 in
set_option maxHeartbeats 4000000 in
theorem filesRemoves_any (a : Option Addr) (len cap : Nat) (w : World) (hr : Nums w a len) : Calls Tryz.prog 4 #[.slice a len cap] w fun e w' => e = .returned (.bool true) ∧ Below w.heap.size w w' := by
  obtain ⟨w1, hw1⟩ : ∃ w1, w1 = w.alloc (.cells #[.slice a len cap, .int .i64 0] 61) := ⟨_, rfl⟩
  have hs1 : SrcAt w w1 w.heap.size a len cap 0 := by rw [hw1]; exact src_new w a len cap hr
  have hb1 : Beside w.heap.size w w1 := by rw [hw1]; exact (Beside.refl _ _).alloc _
  have CS := Lib.hid (new_any a len cap w)
  have CF := Lib.hid (files_b w w1 w.heap.size a len cap 0 hs1 (by omega))
  have CA := Lib.hid (fun W => awake_any W)
  have HW1 := Lib.hid hw1
  have hz1 : w1.heap.size = w.heap.size + 1 := by rw [hw1, size_alloc]
  clear hw1 hs1 hr
  go_enter Tryz.func4, Tryz.ntmps4
  go_wp2_with fail
  refine CS.out.mono ?_
  rintro e w1' ⟨rfl, hw1'⟩
  obtain rfl : w1' = w1 := hw1'.trans HW1.out.symm
  rename World => w1
  clear CS HW1 hw1'
  go_wp2_with fail
  refine CF.out.mono ?_
  rintro e w2 ⟨F, fa, fc, k0, hk0, hO, rfl, ho2, hs2, hb2⟩
  have hb3 := (hb1.trans hb2).alloc (.cells #[.slice fa F.length fc] 27)
  have hs3 := hs2.alloc (.cells #[.slice fa F.length fc] 27)
  have ho3 := ho2.stay ((Below.refl w2.heap.size w2).alloc (Nat.le_refl _) (.cells #[.slice fa F.length fc] 27))
  obtain ⟨w3, hw3⟩ : ∃ w3, w3 = w2.alloc (.cells #[.slice fa F.length fc] 27) := ⟨_, rfl⟩
  have tD3 : TB 27 w3 w2.heap.size [.slice fa F.length fc] := by rw [hw3]; exact TB.new1 w2 _ _ _ rfl
  have hDb : w2.heap.size ≠ w.heap.size := by have := hb2.size; omega
  rw [← hw3] at hb3 hs3 ho3
  have HW3 := Lib.hid hw3
  have HO := Lib.hid hO
  clear CF hw3 hO ho2 hs2 hb2 hb1
  go_upto_region 3 with fail
  rw [← HW3.out]
  clear HW3
  go_wp2_with fail
  go_loopw [5] (fun i wr => ∃ q k' : Nat, q ≤ 5 ∧ i = .int .i64 q ∧ k' ≤ 800 + 6 * q ∧ OutF w1.heap.size wr (.slice fa F.length fc) F ∧ TB 27 wr w2.heap.size [.slice fa F.length fc] ∧ SrcAt w wr w.heap.size a len cap k' ∧ Beside w.heap.size w wr) (fun i _ => 5 - (intOf i).toNat)
  case atStart => exact ⟨0, k0, by omega, rfl, by omega, ho3, tD3, hs3, hb3⟩
  case round =>
    obtain ⟨q, k', hq, rfl, hk', ho, tD, hs, hb⟩ := hrel
    clear ho3 tD3 hs3 hb3
    by_cases hlt : q < 5
    · have hqq : (q : Int) < 5 := by omega
      have CFi := Lib.hid (file_b w wr w.heap.size a len cap k' hs (by omega) w1.heap.size (.slice fa F.length fc) F ho HO.out)
      have x0 := tD.blk.c1.1
      have HF := Lib.hid (fun W (hb : Beside w.heap.size wr W) => ho.beside hs hb)
      clear hs ho
      go_wp2_with fail
      refine CFi.out.mono ?_
      rintro e w4 ⟨x, k1, hk1, rfl, hs4, hb4⟩
      have CN := Lib.hid (name_b w w4 w.heap.size a len cap k1 hs4 (by omega))
      have tD4 := tD.beside hDb hb4
      clear CFi tD hs4 x0
      go_wp2_with fail
      refine CN.out.mono ?_
      rintro e w5 ⟨nm, hnm, rfl, hs5, hb5⟩
      have tD5 := tD4.beside hDb hb5
      have hb45 := hb4.trans hb5
      have hb6 := hb45.alloc (.cells #[.int .i64 x.dev, .int .i64 x.ino] 34)
      have hs6 := hs5.alloc (.cells #[.int .i64 x.dev, .int .i64 x.ino] 34)
      have tD0 := tD5.alloc (.cells #[.int .i64 x.dev, .int .i64 x.ino] 34)
      obtain ⟨u0, hu0⟩ : ∃ u0, u0 = w5.alloc (.cells #[.int .i64 x.dev, .int .i64 x.ino] 34) := ⟨_, rfl⟩
      have tP0 : TB 34 u0 w5.heap.size [.int .i64 x.dev, .int .i64 x.ino] := by rw [hu0]; exact TB.new1 w5 _ _ _ rfl
      rw [← hu0] at hb6 hs6 tD0
      have HU0 := Lib.hid hu0
      have hb0 := Below.refl u0.heap.size u0
      have hou := HF.out u0 hb6
      have HFA : Hid (∀ W, Below u0.heap.size u0 W → FilesAt W fa F) := Lib.hid (fun W hb => by
        obtain ⟨a', c', hv, -, -, hF⟩ := (hou.stay hb).at_
        injection hv with hv _ _
        rw [hv]
        exact hF)
      have HEND := Lib.hid (fun W (hbb : Below u0.heap.size u0 W) => And.intro (hou.stay hbb) (And.intro (tD0.stay hbb) (And.intro (hs6.later hbb) ((hb.trans hb6).trans (.of_below hbb)))))
      clear CN tD4 tD5 hs5 hb4 hb5 hb45 hb6 hs6 hu0 HF hou hnm hb
      go_upto_region 7 with fail
      rw [← HU0.out]
      clear HU0
      obtain ⟨x0, -⟩ := tD0.blk.c1
      obtain ⟨x1, x2, -⟩ := tP0.blk.c2
      have CC := Lib.hid (Unlink_any fa fc F x nm u0 (HFA.out u0 hb0) HO.out)
      go_wp2_with fail
      refine CC.out.mono ?_
      rintro e v1 ⟨fv1, cv1, rfl, ho1, hc1, hbv⟩
      obtain ⟨ga1, gc1, rfl⟩ := outF_form ho1
      obtain ⟨u1, hu⟩ : ∃ u1, u1 = v1.alloc (.cells #[.slice ga1 (unlinkF F x nm).files.length gc1] 27) := ⟨_, rfl⟩
      have hst : Below v1.heap.size v1 u1 := by rw [hu]; exact (Below.refl _ _).alloc (Nat.le_refl _) _
      have tA1 : TB 27 u1 v1.heap.size [.slice ga1 (unlinkF F x nm).files.length gc1] := by rw [hu]; exact TB.new1 v1 _ _ _ rfl
      have hs1 : Below u0.heap.size u0 u1 := hbv.trans (hst.mono hbv.size)
      replace ho1 := ho1.stay hst
      replace hc1 := ownC_stay hc1 hst
      have hb1 : Below u0.heap.size u0 u1 := hb0.trans (hs1.mono hb0.size)
      have tD1 := tD0.stay hs1
      have tP1 := tP0.stay hs1
      have HU := Lib.hid hu
      clear hu hst hbv CC x0 x1 x2 tD0 tP0
      go_upto_region 8 with fail
      rw [← HU.out]
      clear HU
      obtain ⟨x0, -⟩ := tD1.blk.c1
      obtain ⟨x1, x2, -⟩ := tP1.blk.c2
      have CC := Lib.hid (rUnlink_any fa fc F x nm u1 (HFA.out u1 hb1) HO.out)
      go_wp2_with fail
      refine CC.out.mono ?_
      rintro e v2 ⟨fv2, cv2, rfl, ho2, hc2, hbv⟩
      obtain ⟨ga2, gc2, rfl⟩ := outF_form ho2
      obtain ⟨u2, hu⟩ : ∃ u2, u2 = v2.alloc (.cells #[.slice ga2 (unlinkF F x nm).files.length gc2] 27) := ⟨_, rfl⟩
      have hst : Below v2.heap.size v2 u2 := by rw [hu]; exact (Below.refl _ _).alloc (Nat.le_refl _) _
      have tA2 : TB 27 u2 v2.heap.size [.slice ga2 (unlinkF F x nm).files.length gc2] := by rw [hu]; exact TB.new1 v2 _ _ _ rfl
      have hs2 : Below u1.heap.size u1 u2 := hbv.trans (hst.mono hbv.size)
      replace ho2 := ho2.stay hst
      replace hc2 := ownC_stay hc2 hst
      have hb2 : Below u0.heap.size u0 u2 := hb1.trans (hs2.mono hb1.size)
      have tD2 := tD1.stay hs2
      have tP2 := tP1.stay hs2
      have HU := Lib.hid hu
      clear hu hst hbv CC x0 x1 x2 tD1 tP1
      replace ho1 := ho1.stay hs2
      replace hc1 := ownC_stay hc1 hs2
      replace tA1 := tA1.stay hs2
      go_upto_region 9 with fail
      rw [← HU.out]
      clear HU
      obtain ⟨x0, -⟩ := tD2.blk.c1
      obtain ⟨x1, x2, -⟩ := tP2.blk.c2
      have CC := Lib.hid (RemoveDir_any fa fc F x nm u2 (HFA.out u2 hb2) HO.out)
      go_wp2_with fail
      refine CC.out.mono ?_
      rintro e v3 ⟨fv3, cv3, rfl, ho3, hc3, hbv⟩
      obtain ⟨ga3, gc3, rfl⟩ := outF_form ho3
      obtain ⟨u3, hu⟩ : ∃ u3, u3 = v3.alloc (.cells #[.slice ga3 (rmdirF F x nm).files.length gc3] 27) := ⟨_, rfl⟩
      have hst : Below v3.heap.size v3 u3 := by rw [hu]; exact (Below.refl _ _).alloc (Nat.le_refl _) _
      have tA3 : TB 27 u3 v3.heap.size [.slice ga3 (rmdirF F x nm).files.length gc3] := by rw [hu]; exact TB.new1 v3 _ _ _ rfl
      have hs3 : Below u2.heap.size u2 u3 := hbv.trans (hst.mono hbv.size)
      replace ho3 := ho3.stay hst
      replace hc3 := ownC_stay hc3 hst
      have hb3 : Below u0.heap.size u0 u3 := hb2.trans (hs3.mono hb2.size)
      have tD3 := tD2.stay hs3
      have tP3 := tP2.stay hs3
      have HU := Lib.hid hu
      clear hu hst hbv CC x0 x1 x2 tD2 tP2
      replace ho1 := ho1.stay hs3
      replace hc1 := ownC_stay hc1 hs3
      replace tA1 := tA1.stay hs3
      replace ho2 := ho2.stay hs3
      replace hc2 := ownC_stay hc2 hs3
      replace tA2 := tA2.stay hs3
      go_upto_region 10 with fail
      rw [← HU.out]
      clear HU
      obtain ⟨x0, -⟩ := tD3.blk.c1
      obtain ⟨x1, x2, -⟩ := tP3.blk.c2
      have CC := Lib.hid (rRemoveDir_any fa fc F x nm u3 (HFA.out u3 hb3) HO.out)
      go_wp2_with fail
      refine CC.out.mono ?_
      rintro e v4 ⟨fv4, cv4, rfl, ho4, hc4, hbv⟩
      obtain ⟨ga4, gc4, rfl⟩ := outF_form ho4
      obtain ⟨u4, hu⟩ : ∃ u4, u4 = v4.alloc (.cells #[.slice ga4 (rmdirF F x nm).files.length gc4] 27) := ⟨_, rfl⟩
      have hst : Below v4.heap.size v4 u4 := by rw [hu]; exact (Below.refl _ _).alloc (Nat.le_refl _) _
      have tA4 : TB 27 u4 v4.heap.size [.slice ga4 (rmdirF F x nm).files.length gc4] := by rw [hu]; exact TB.new1 v4 _ _ _ rfl
      have hs4 : Below u3.heap.size u3 u4 := hbv.trans (hst.mono hbv.size)
      replace ho4 := ho4.stay hst
      replace hc4 := ownC_stay hc4 hst
      have hb4 : Below u0.heap.size u0 u4 := hb3.trans (hs4.mono hb3.size)
      have tD4 := tD3.stay hs4
      have tP4 := tP3.stay hs4
      have HU := Lib.hid hu
      clear hu hst hbv CC x0 x1 x2 tD3 tP3
      replace ho1 := ho1.stay hs4
      replace hc1 := ownC_stay hc1 hs4
      replace tA1 := tA1.stay hs4
      replace ho2 := ho2.stay hs4
      replace hc2 := ownC_stay hc2 hs4
      replace tA2 := tA2.stay hs4
      replace ho3 := ho3.stay hs4
      replace hc3 := ownC_stay hc3 hs4
      replace tA3 := tA3.stay hs4
      go_upto_region 11 with fail
      rw [← HU.out]
      clear HU
      have CB1 := Lib.hid (fun W (hb : Below u4.heap.size u4 W) => bad_no _ _ _ _ (unlinkF F x nm) _ _ _ _ W (ho1.stay hb) (ownC_stay hc1 hb) (ho2.stay hb) (ownC_stay hc2 hb) (unlink_sml HO.out x nm).1 (unlink_sml HO.out x nm).2)
      have CB2 := Lib.hid (fun W (hb : Below u4.heap.size u4 W) => bad_no _ _ _ _ (rmdirF F x nm) _ _ _ _ W (ho3.stay hb) (ownC_stay hc3 hb) (ho4.stay hb) (ownC_stay hc4 hb) (rmdir_sml HO.out x nm).1 (rmdir_sml HO.out x nm).2)
      have KE := Lib.hid (fun W (hb : Below u4.heap.size u4 W) => And.intro (tA1.stay hb).blk.c1.1 (And.intro (tA2.stay hb).blk.c1.1 (And.intro (tA3.stay hb).blk.c1.1 (tA4.stay hb).blk.c1.1)))
      clear ho1 ho2 ho3 ho4 hc1 hc2 hc3 hc4 tA1 tA2 tA3 tA4 tD4 tP4
      obtain ⟨a1, a2, -⟩ := KE.out u4 (Below.refl _ _)
      go_wp2_with fail
      refine (CB1.out u4 (Below.refl _ _)).mono ?_
      rintro e u5 ⟨rfl, hb5⟩
      clear a1 a2
      obtain ⟨-, -, a3, a4⟩ := KE.out u5 hb5
      go_wp2_with fail
      refine (CB2.out u5 hb5).mono ?_
      rintro e u6 ⟨rfl, hb6⟩
      have hfin := HEND.out u6 (hb4.trans ((hb5.trans (hb6.mono hb5.size)).mono hb4.size))
      clear CB1 CB2 KE a3 a4 hb5 hb6 hb4 hb3 hb2 hb1 hb0
      go_wp2_with fail
      exact ⟨⟨q + 1, k1 + 2, by omega, by go_num, by omega, hfin⟩, by simp [intOf]; omega⟩
    · have hqq : ¬ (q : Int) < 5 := by omega
      have CA2 := Lib.hid (CA.out wr)
      have hbw : Below w.heap.size w wr := hb.below (Nat.le_refl _) (Nat.le_refl _)
      clear CA hs ho tD hb
      go_wp2_with fail
      refine CA2.out.mono ?_
      rintro e w4 ⟨rfl, hb4⟩
      have hbf := hbw.trans (hb4.mono hbw.size)
      clear hb4 hbw CA2
      go_wp2_with fail
      go_ret
      exact ⟨rfl, hbf⟩
end Go.Proofs.YtafnbpkdenjipaaGreat.fl
namespace Go.Proofs.YtafnbpkdenjipaaGreat.filesRemoves
open Go.RowKit Go.Proofs.YtafnbpkdenjipaaGreat.fl
theorem walk (a : Option Addr) (len cap : Nat) (zs : List Int) (w : World) (hr : IsRow .i64 w a len cap zs) (_ : laidMetH Tryz.prog Rows.filesRemovesRow.laid w) (_ : w.ShapedOpen Tryz.prog) : Calls Tryz.prog 4 #[.slice a len cap] w fun e w' => e = .returned (.bool true) ∧ Below w.heap.size w w' := filesRemoves_any a len cap w (cm.nums_of_row hr)
end Go.Proofs.YtafnbpkdenjipaaGreat.filesRemoves
