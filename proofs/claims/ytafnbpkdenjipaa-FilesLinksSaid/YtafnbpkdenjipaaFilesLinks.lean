/-
  FilesLinks: the walk.
-/
import Derived.Test.YtafnbpkdenjipaaSrcL
import Derived.Test.YtafnbpkdenjipaaRSz
import Derived.Test.YtafnbpkdenjipaaFWk
import Derived.Test.YtafnbpkdenjipaaRows
import Derived.Test.YtafnbpkdenjipaaRow
namespace Go.Proofs.Ytafnbpkdenjipaa.fl
open Go.RowKit Go.Proofs.Ytafnbpkdenjipaa.cm Go.Proofs.Ytafnbpkdenjipaa.sr

theorem ownC_stay {B : Nat} {w w' : World} {v : Value} {l : List ChgP} (h : OwnC B w v l) (hb : Below w.heap.size w w') : OwnC B w' v l := own_keep h fun g hg => hb.block g (own_lt h hg).2
/-- an answer is small -/
def SmlR (r : ResP) : Prop := Sml r.files ∧ r.chg.length ≤ 1000
theorem SmlR.none {r : ResP} (h1 : r.files = []) (h2 : r.chg = []) : SmlR r := ⟨by rw [h1]; exact ⟨by simp, fun d hd => by simp at hd, fun d hd => by simp at hd⟩, by rw [h2]; simp⟩
theorem link_sml {F : FilP} (hO : OKF F) (x : At) (s : ByteArray) (y : At) : SmlR (linkF F x s y) := by
  obtain ⟨-, h2, h3⟩ := lnk_eq hO x s y
  by_cases h : (linkF F x s y).err = 0
  · exact ⟨(hO.link x s y h).1.sml, by rw [(h2 h).2]; simp⟩
  · exact .none (h3 h).1 (h3 h).2

set_option linter.unusedSimpArgs false in
set_option maxRecDepth 100000 in
set_option maxHeartbeats 8000000 in
theorem filesLinks_any (a : Option Addr) (len cap : Nat) (w : World) (hr : Nums w a len) : Calls Try.prog 6 #[.slice a len cap] w fun e w' => e = .returned (.bool true) ∧ Below w.heap.size w w' := by
  obtain ⟨w1, hw1⟩ : ∃ w1, w1 = w.alloc (.cells #[.slice a len cap, .int .i64 0] 74) := ⟨_, rfl⟩
  have hs1 : SrcAt w w1 w.heap.size a len cap 0 := by rw [hw1]; exact src_new w a len cap hr
  have hb1 : Beside w.heap.size w w1 := by rw [hw1]; exact (Beside.refl _ _).alloc _
  have CS := Lib.hid (new_any a len cap w)
  have CF := Lib.hid (files_b w w1 w.heap.size a len cap 0 hs1 (by omega))
  have CA := Lib.hid (fun W => awake_any W)
  have HW1 := Lib.hid hw1
  have hz1 : w1.heap.size = w.heap.size + 1 := by rw [hw1, size_alloc]
  clear hw1 hs1 hr
  go_enter Try.func6, Try.ntmps6
  go_wp2_with fail
  refine CS.out.mono ?_
  rintro e w1' ⟨rfl, hw1'⟩
  obtain rfl : w1' = w1 := hw1'.trans HW1.out.symm
  rename World => w1
  clear CS HW1 hw1'
  go_wp2_with fail
  refine CF.out.mono ?_
  rintro e w2 ⟨F, fa, fc, k0, hk0, hO, rfl, ho2, hs2, hb2⟩
  have hb3 := (hb1.trans hb2).alloc (.cells #[.slice fa F.length fc] 24)
  have hs3 := hs2.alloc (.cells #[.slice fa F.length fc] 24)
  have ho3 := ho2.stay ((Below.refl w2.heap.size w2).alloc (Nat.le_refl _) (.cells #[.slice fa F.length fc] 24))
  obtain ⟨w3, hw3⟩ : ∃ w3, w3 = w2.alloc (.cells #[.slice fa F.length fc] 24) := ⟨_, rfl⟩
  have tD3 : TB 24 w3 w2.heap.size [.slice fa F.length fc] := by rw [hw3]; exact TB.new1 w2 _ _ _ rfl
  have hDb : w2.heap.size ≠ w.heap.size := by have := hb2.size; omega
  rw [← hw3] at hb3 hs3 ho3
  have HW3 := Lib.hid hw3
  have HO := Lib.hid hO
  clear CF hw3 hO ho2 hs2 hb2 hb1
  go_upto_region 3 with fail
  rw [← HW3.out]
  clear HW3
  go_wp2_with fail
  go_loopw [5] (fun i wr => ∃ q k' : Nat, q ≤ 5 ∧ i = .int .i64 q ∧ k' ≤ 800 + 10 * q ∧ OutF w1.heap.size wr (.slice fa F.length fc) F ∧ TB 24 wr w2.heap.size [.slice fa F.length fc] ∧ SrcAt w wr w.heap.size a len cap k' ∧ Beside w.heap.size w wr) (fun i _ => 5 - (intOf i).toNat)
  case atStart => exact ⟨0, k0, by omega, rfl, by omega, ho3, tD3, hs3, hb3⟩
  case round =>
    obtain ⟨q, k', hq, rfl, hk', ho, tD, hs, hb⟩ := hrel
    clear ho3 tD3 hs3 hb3
    by_cases hlt : q < 5
    · have hqq : (q : Int) < 5 := by omega
      have HF := Lib.hid (fun W (hb : Beside w.heap.size wr W) => ho.beside hs hb)
      have hbd0 : Below wr.heap.size wr wr.drew := (Below.refl _ _).drew
      have HTD := Lib.hid tD
      clear ho
      go_upto_region 6 with fail
      go_cut [6, 7, 8] (fun s6 s7 s8 W => ∃ (Pa Pb : Nat) (x : At) (nm : ByteArray) (y : At) (k3 : Nat), s6 = .pointer (some ⟨Pa, 0, none⟩) ∧ s7 = .string nm ∧ s8 = .pointer (some ⟨Pb, 0, none⟩) ∧ k3 ≤ k' + 10 ∧ TB 36 W Pa [.int .i64 x.dev, .int .i64 x.ino] ∧ TB 36 W Pb [.int .i64 y.dev, .int .i64 y.ino] ∧ SrcAt w W w.heap.size a len cap k3 ∧ Beside w.heap.size wr W)
      case first =>
        have hc := tD.blk.c1.1
        have hx : Beside w.heap.size wr wr.drew := .of_below hbd0
        replace hs := hs.later hbd0
        refine wp_region_held_drew (S := fun (W : World) => W.cell? ⟨w2.heap.size, 0, none⟩ = some (.slice fa F.length fc)) (by kernel_rfl) hc (fun hHeld => ?_)
        refine wpAnyH_take (i := 0) (v := ?_) rfl (by kernel_rfl) (by kernel_rfl) (by kernel_rfl) (fun _ _ _ h => h) (Or.inl ⟨by rfl, ?_⟩) (by assumption) ?_
        rotate_left
        · (intro w hSw; (try dsimp only at hSw); first | (go_simp; done) | (go_simp; with_reducible rfl))
        try simp only [Act.put, List.setIfInBounds_toArray, List.set_cons_zero, List.set_cons_succ]
        refine wpAnyH_take (i := 1) (v := ?_) rfl (by kernel_rfl) (by kernel_rfl) (by kernel_rfl) (fun _ _ _ h => h) (Or.inl ⟨by rfl, ?_⟩) (by assumption) ?_
        rotate_left
        · (intro w hSw; (try dsimp only at hSw); first | (go_simp; done) | (go_simp; with_reducible rfl))
        try simp only [Act.put, List.setIfInBounds_toArray, List.set_cons_zero, List.set_cons_succ]
        refine wpAnyH_take (i := 3) (v := ?_) rfl (by kernel_rfl) (by kernel_rfl) (by kernel_rfl) (fun _ _ _ h => h) (Or.inl ⟨by rfl, ?_⟩) (by assumption) ?_
        rotate_left
        · (intro w hSw; (try dsimp only at hSw); first | (go_simp; done) | (go_simp; with_reducible rfl))
        try simp only [Act.put, List.setIfInBounds_toArray, List.set_cons_zero, List.set_cons_succ]
        refine wpAnyH_take (i := 5) (v := ?_) rfl (by kernel_rfl) (by kernel_rfl) (by kernel_rfl) (fun _ _ _ h => h) (Or.inl ⟨by rfl, ?_⟩) (by assumption) ?_
        rotate_left
        · (intro w hSw; (try dsimp only at hSw); first | (go_simp; done) | (go_simp; with_reducible rfl))
        try simp only [Act.put, List.setIfInBounds_toArray, List.set_cons_zero, List.set_cons_succ]
        refine wpAnyH_take (i := 6) (v := ?_) rfl (by kernel_rfl) (by kernel_rfl) (by kernel_rfl) (fun _ _ _ h => h) (Or.inl ⟨by rfl, ?_⟩) (by assumption) ?_
        rotate_left
        · (intro w hSw; (try dsimp only at hSw); first | (go_simp; done) | (go_simp; with_reducible rfl))
        try simp only [Act.put, List.setIfInBounds_toArray, List.set_cons_zero, List.set_cons_succ]
        obtain ⟨z0, hz0⟩ : ∃ z0, z0 = wr.drew := ⟨_, rfl⟩
        rw [← hz0] at hs hx ⊢
        clear hz0 hbd0 hc
        refine wpAnyH_ready (rs := [2, 8, 9]) (by kernel_rfl) (by simp) ?_
        refine (AllReadyH.cons rfl (fun K hK => ?_) (AllReadyH.cons rfl (fun K hK => ?_) (AllReadyH.cons rfl (fun K hK => ?_) AllReadyH.nil)))
        · go_simp
          go_at_call 15
          refine (file_b w z0 w.heap.size a len cap k' hs (by omega) w1.heap.size (.slice fa F.length fc) F (HF.out z0 hx) HO.out).mono ?_
          rintro e z1 ⟨x, k1, hk1, rfl, hs2, hst⟩
          go_wp2_with fail
          replace hs := hs2
          replace hx := hx.trans hst
          have hc := (tD.beside hDb hx).blk.c1.1
          refine hK.out _ _ hc (fun _ => ?_)
          clear hK K hst hs2
          refine wpAnyH_ready (rs := [4, 8, 9]) (by kernel_rfl) (by simp) ?_
          refine (AllReadyH.cons rfl (fun K hK => ?_) (AllReadyH.cons rfl (fun K hK => ?_) (AllReadyH.cons rfl (fun K hK => ?_) AllReadyH.nil)))
          · go_simp
            go_at_call 16
            refine (name_b w z1 w.heap.size a len cap k1 hs (by omega)).mono ?_
            rintro e z2 ⟨nm, -, rfl, hs2, hst⟩
            go_wp2_with fail
            replace hs := hs2
            replace hx := hx.trans hst
            have hc := (tD.beside hDb hx).blk.c1.1
            refine hK.out _ _ hc (fun _ => ?_)
            clear hK K hst hs2
            refine wpAnyH_ready (rs := [7, 8, 9]) (by kernel_rfl) (by simp) ?_
            refine (AllReadyH.cons rfl (fun K hK => ?_) (AllReadyH.cons rfl (fun K hK => ?_) (AllReadyH.cons rfl (fun K hK => ?_) AllReadyH.nil)))
            · go_simp
              go_at_call 15
              refine (file_b w z2 w.heap.size a len cap (k1 + 2) hs (by omega) w1.heap.size (.slice fa F.length fc) F (HF.out z2 hx) HO.out).mono ?_
              rintro e z3 ⟨y, k3, hk3, rfl, hs2, hst⟩
              go_wp2_with fail
              replace hs := hs2
              replace hx := hx.trans hst
              have hc := (tD.beside hDb hx).blk.c1.1
              refine hK.out _ _ hc (fun _ => ?_)
              clear hK K hst hs2
              refine wpAnyH_ready (rs := [8, 9]) (by kernel_rfl) (by simp) ?_
              refine (AllReadyH.cons rfl (fun K hK => ?_) (AllReadyH.cons rfl (fun K hK => ?_) AllReadyH.nil))
              · go_simp
                obtain ⟨z4, hz4⟩ : ∃ z4, z4 = z3.alloc (.cells #[.int .i64 0, .int .i64 0] 36) := ⟨_, rfl⟩
                have hst : Beside w.heap.size z3 z4 := by rw [hz4]; exact (Beside.refl _ _).alloc _
                obtain ⟨Pa, hPa⟩ : ∃ P, P = z3.heap.size := ⟨_, rfl⟩
                have ta : TB 36 z4 Pa [.int .i64 0, .int .i64 0] := by rw [hz4, hPa]; exact TB.new1 z3 _ _ _ rfl
                have hna : Pa ≠ w.heap.size := by have := hs.lt; omega
                have h0a : w.heap.size ≤ Pa := by have := hs.lt; omega
                have hda : wr.heap.size ≤ Pa := by have := hx.size; omega
                replace hs : SrcAt w z4 w.heap.size a len cap k3 := by rw [hz4]; exact hs.alloc _
                replace hx := hx.trans hst
                have tlta : Pa < z4.heap.size := ta.lt
                rw [← hz4, ← hPa]
                have hc := (tD.beside hDb hx).blk.c1.1
                refine hK.out _ _ hc (fun _ => ?_)
                clear hK K hst hz4 hPa
                refine wpAnyH_ready (rs := [9]) (by kernel_rfl) (by simp) ?_
                refine (AllReadyH.cons rfl (fun K hK => ?_) AllReadyH.nil)
                · go_simp
                  obtain ⟨z5, hz5⟩ : ∃ z5, z5 = z4.alloc (.cells #[.int .i64 0, .int .i64 0] 36) := ⟨_, rfl⟩
                  have hst : Beside w.heap.size z4 z5 := by rw [hz5]; exact (Beside.refl _ _).alloc _
                  obtain ⟨Pb, hPb⟩ : ∃ P, P = z4.heap.size := ⟨_, rfl⟩
                  have tb : TB 36 z5 Pb [.int .i64 0, .int .i64 0] := by rw [hz5, hPb]; exact TB.new1 z4 _ _ _ rfl
                  have hnb : Pb ≠ w.heap.size := by have := hs.lt; omega
                  have h0b : w.heap.size ≤ Pb := by have := hs.lt; omega
                  have hdb : wr.heap.size ≤ Pb := by have := hx.size; omega
                  replace hs : SrcAt w z5 w.heap.size a len cap k3 := by rw [hz5]; exact hs.alloc _
                  replace hx := hx.trans hst
                  replace ta := ta.beside hna hst
                  have hab : Pa ≠ Pb := by have := tlta; have := hPb; omega
                  clear tlta
                  rw [← hz5, ← hPb]
                  have hc := (tD.beside hDb hx).blk.c1.1
                  refine hK.out _ _ hc (fun _ => ?_)
                  clear hK K hst hz5 hPb
                  obtain ⟨a0, a1, af0, af1⟩ := ta.blk.c2
                  have tb1 : TB 36 ((z5.setCell ⟨Pa, 0, none⟩ (.int .i64 x.dev)).setCell ⟨Pa, 1, none⟩ (.int .i64 x.ino)) Pb [.int .i64 0, .int .i64 0] := (tb.other hab.symm _ _).other hab.symm _ _
                  obtain ⟨b0, b1, bf0, bf1⟩ := tb1.blk.c2
                  have ta1 : TB 36 ((z5.setCell ⟨Pa, 0, none⟩ (.int .i64 x.dev)).setCell ⟨Pa, 1, none⟩ (.int .i64 x.ino)) Pa [.int .i64 x.dev, .int .i64 x.ino] := (ta.set 0 (.int .i64 x.dev)).set 1 (.int .i64 x.ino)
                  have hs1 := (hs.setNew h0a hna 0 (.int .i64 x.dev)).setNew h0a hna 1 (.int .i64 x.ino)
                  have hs2 := (hs1.setNew h0b hnb 0 (.int .i64 y.dev)).setNew h0b hnb 1 (.int .i64 y.ino)
                  have hx1 := (hx.setNew hda 0 (.int .i64 x.dev)).setNew hda 1 (.int .i64 x.ino)
                  have hx2 := (hx1.setNew hdb 0 (.int .i64 y.dev)).setNew hdb 1 (.int .i64 y.ino)
                  have HFN := Lib.hid (And.intro (show k3 ≤ k' + 10 by omega) (And.intro (show TB 36 ((((z5.setCell ⟨Pa, 0, none⟩ (.int .i64 x.dev)).setCell ⟨Pa, 1, none⟩ (.int .i64 x.ino)).setCell ⟨Pb, 0, none⟩ (.int .i64 y.dev)).setCell ⟨Pb, 1, none⟩ (.int .i64 y.ino)) Pa [.int .i64 x.dev, .int .i64 x.ino] from (ta1.other hab _ _).other hab _ _) (And.intro (show TB 36 ((((z5.setCell ⟨Pa, 0, none⟩ (.int .i64 x.dev)).setCell ⟨Pa, 1, none⟩ (.int .i64 x.ino)).setCell ⟨Pb, 0, none⟩ (.int .i64 y.dev)).setCell ⟨Pb, 1, none⟩ (.int .i64 y.ino)) Pb [.int .i64 y.dev, .int .i64 y.ino] from (tb1.set 0 (.int .i64 y.dev)).set 1 (.int .i64 y.ino)) (And.intro hs2 hx2))))
                  have hc1 := (tD.beside hDb hx1).blk.c1.1
                  have hc2 := (tD.beside hDb hx2).blk.c1.1
                  clear ta tb tb1 ta1 hs1 hs2 hx1 hx2 hs hx
                  refine wpAnyH_ready (rs := [10]) (by kernel_rfl) (by simp) ?_
                  refine AllReadyH.cons rfl (fun K hK => ?_) AllReadyH.nil
                  go_simp
                  refine hK.out _ _ hc1 (fun _ => ?_)
                  clear hK K
                  refine wpAnyH_ready (rs := [11]) (by kernel_rfl) (by simp) ?_
                  refine AllReadyH.cons rfl (fun K hK => ?_) AllReadyH.nil
                  go_simp
                  refine hK.out _ _ hc1 (fun _ => ?_)
                  clear hK K
                  refine wpAnyH_ready (rs := [12]) (by kernel_rfl) (by simp) ?_
                  refine AllReadyH.cons rfl (fun K hK => ?_) AllReadyH.nil
                  go_simp
                  refine hK.out _ _ hc2 (fun _ => ?_)
                  clear hK K
                  refine wpAnyH_done (by kernel_rfl) ?_ _
                  go_simp
                  clear a0 a1 af0 af1 b0 b1 bf0 bf1 hc1 hc2
                  go_wp2_with fail
                  go_meet
                  exact ⟨_, _, x, nm, y, k3, rfl, rfl, rfl, HFN.out⟩
              · go_simp
                obtain ⟨z6, hz6⟩ : ∃ z6, z6 = z3.alloc (.cells #[.int .i64 0, .int .i64 0] 36) := ⟨_, rfl⟩
                have hst : Beside w.heap.size z3 z6 := by rw [hz6]; exact (Beside.refl _ _).alloc _
                obtain ⟨Pb, hPb⟩ : ∃ P, P = z3.heap.size := ⟨_, rfl⟩
                have tb : TB 36 z6 Pb [.int .i64 0, .int .i64 0] := by rw [hz6, hPb]; exact TB.new1 z3 _ _ _ rfl
                have hnb : Pb ≠ w.heap.size := by have := hs.lt; omega
                have h0b : w.heap.size ≤ Pb := by have := hs.lt; omega
                have hdb : wr.heap.size ≤ Pb := by have := hx.size; omega
                replace hs : SrcAt w z6 w.heap.size a len cap k3 := by rw [hz6]; exact hs.alloc _
                replace hx := hx.trans hst
                have tltb : Pb < z6.heap.size := tb.lt
                rw [← hz6, ← hPb]
                have hc := (tD.beside hDb hx).blk.c1.1
                refine hK.out _ _ hc (fun _ => ?_)
                clear hK K hst hz6 hPb
                refine wpAnyH_ready (rs := [8]) (by kernel_rfl) (by simp) ?_
                refine (AllReadyH.cons rfl (fun K hK => ?_) AllReadyH.nil)
                · go_simp
                  obtain ⟨z7, hz7⟩ : ∃ z7, z7 = z6.alloc (.cells #[.int .i64 0, .int .i64 0] 36) := ⟨_, rfl⟩
                  have hst : Beside w.heap.size z6 z7 := by rw [hz7]; exact (Beside.refl _ _).alloc _
                  obtain ⟨Pa, hPa⟩ : ∃ P, P = z6.heap.size := ⟨_, rfl⟩
                  have ta : TB 36 z7 Pa [.int .i64 0, .int .i64 0] := by rw [hz7, hPa]; exact TB.new1 z6 _ _ _ rfl
                  have hna : Pa ≠ w.heap.size := by have := hs.lt; omega
                  have h0a : w.heap.size ≤ Pa := by have := hs.lt; omega
                  have hda : wr.heap.size ≤ Pa := by have := hx.size; omega
                  replace hs : SrcAt w z7 w.heap.size a len cap k3 := by rw [hz7]; exact hs.alloc _
                  replace hx := hx.trans hst
                  replace tb := tb.beside hnb hst
                  have hab : Pa ≠ Pb := by have := tltb; have := hPa; omega
                  clear tltb
                  rw [← hz7, ← hPa]
                  have hc := (tD.beside hDb hx).blk.c1.1
                  refine hK.out _ _ hc (fun _ => ?_)
                  clear hK K hst hz7 hPa
                  obtain ⟨a0, a1, af0, af1⟩ := ta.blk.c2
                  have tb1 : TB 36 ((z7.setCell ⟨Pa, 0, none⟩ (.int .i64 x.dev)).setCell ⟨Pa, 1, none⟩ (.int .i64 x.ino)) Pb [.int .i64 0, .int .i64 0] := (tb.other hab.symm _ _).other hab.symm _ _
                  obtain ⟨b0, b1, bf0, bf1⟩ := tb1.blk.c2
                  have ta1 : TB 36 ((z7.setCell ⟨Pa, 0, none⟩ (.int .i64 x.dev)).setCell ⟨Pa, 1, none⟩ (.int .i64 x.ino)) Pa [.int .i64 x.dev, .int .i64 x.ino] := (ta.set 0 (.int .i64 x.dev)).set 1 (.int .i64 x.ino)
                  have hs1 := (hs.setNew h0a hna 0 (.int .i64 x.dev)).setNew h0a hna 1 (.int .i64 x.ino)
                  have hs2 := (hs1.setNew h0b hnb 0 (.int .i64 y.dev)).setNew h0b hnb 1 (.int .i64 y.ino)
                  have hx1 := (hx.setNew hda 0 (.int .i64 x.dev)).setNew hda 1 (.int .i64 x.ino)
                  have hx2 := (hx1.setNew hdb 0 (.int .i64 y.dev)).setNew hdb 1 (.int .i64 y.ino)
                  have HFN := Lib.hid (And.intro (show k3 ≤ k' + 10 by omega) (And.intro (show TB 36 ((((z7.setCell ⟨Pa, 0, none⟩ (.int .i64 x.dev)).setCell ⟨Pa, 1, none⟩ (.int .i64 x.ino)).setCell ⟨Pb, 0, none⟩ (.int .i64 y.dev)).setCell ⟨Pb, 1, none⟩ (.int .i64 y.ino)) Pa [.int .i64 x.dev, .int .i64 x.ino] from (ta1.other hab _ _).other hab _ _) (And.intro (show TB 36 ((((z7.setCell ⟨Pa, 0, none⟩ (.int .i64 x.dev)).setCell ⟨Pa, 1, none⟩ (.int .i64 x.ino)).setCell ⟨Pb, 0, none⟩ (.int .i64 y.dev)).setCell ⟨Pb, 1, none⟩ (.int .i64 y.ino)) Pb [.int .i64 y.dev, .int .i64 y.ino] from (tb1.set 0 (.int .i64 y.dev)).set 1 (.int .i64 y.ino)) (And.intro hs2 hx2))))
                  have hc1 := (tD.beside hDb hx1).blk.c1.1
                  have hc2 := (tD.beside hDb hx2).blk.c1.1
                  clear ta tb tb1 ta1 hs1 hs2 hx1 hx2 hs hx
                  refine wpAnyH_ready (rs := [10]) (by kernel_rfl) (by simp) ?_
                  refine AllReadyH.cons rfl (fun K hK => ?_) AllReadyH.nil
                  go_simp
                  refine hK.out _ _ hc1 (fun _ => ?_)
                  clear hK K
                  refine wpAnyH_ready (rs := [11]) (by kernel_rfl) (by simp) ?_
                  refine AllReadyH.cons rfl (fun K hK => ?_) AllReadyH.nil
                  go_simp
                  refine hK.out _ _ hc1 (fun _ => ?_)
                  clear hK K
                  refine wpAnyH_ready (rs := [12]) (by kernel_rfl) (by simp) ?_
                  refine AllReadyH.cons rfl (fun K hK => ?_) AllReadyH.nil
                  go_simp
                  refine hK.out _ _ hc2 (fun _ => ?_)
                  clear hK K
                  refine wpAnyH_done (by kernel_rfl) ?_ _
                  go_simp
                  clear a0 a1 af0 af1 b0 b1 bf0 bf1 hc1 hc2
                  go_wp2_with fail
                  go_meet
                  exact ⟨_, _, x, nm, y, k3, rfl, rfl, rfl, HFN.out⟩
            · go_simp
              obtain ⟨z8, hz8⟩ : ∃ z8, z8 = z2.alloc (.cells #[.int .i64 0, .int .i64 0] 36) := ⟨_, rfl⟩
              have hst : Beside w.heap.size z2 z8 := by rw [hz8]; exact (Beside.refl _ _).alloc _
              obtain ⟨Pa, hPa⟩ : ∃ P, P = z2.heap.size := ⟨_, rfl⟩
              have ta : TB 36 z8 Pa [.int .i64 0, .int .i64 0] := by rw [hz8, hPa]; exact TB.new1 z2 _ _ _ rfl
              have hna : Pa ≠ w.heap.size := by have := hs.lt; omega
              have h0a : w.heap.size ≤ Pa := by have := hs.lt; omega
              have hda : wr.heap.size ≤ Pa := by have := hx.size; omega
              replace hs : SrcAt w z8 w.heap.size a len cap (k1 + 2) := by rw [hz8]; exact hs.alloc _
              replace hx := hx.trans hst
              have tlta : Pa < z8.heap.size := ta.lt
              rw [← hz8, ← hPa]
              have hc := (tD.beside hDb hx).blk.c1.1
              refine hK.out _ _ hc (fun _ => ?_)
              clear hK K hst hz8 hPa
              refine wpAnyH_ready (rs := [7, 9]) (by kernel_rfl) (by simp) ?_
              refine (AllReadyH.cons rfl (fun K hK => ?_) (AllReadyH.cons rfl (fun K hK => ?_) AllReadyH.nil))
              · go_simp
                go_at_call 15
                refine (file_b w z8 w.heap.size a len cap (k1 + 2) hs (by omega) w1.heap.size (.slice fa F.length fc) F (HF.out z8 hx) HO.out).mono ?_
                rintro e z9 ⟨y, k3, hk3, rfl, hs2, hst⟩
                go_wp2_with fail
                replace hs := hs2
                replace tlta := Nat.lt_of_lt_of_le tlta hst.size
                replace ta := ta.beside hna hst
                replace hx := hx.trans hst
                have hc := (tD.beside hDb hx).blk.c1.1
                refine hK.out _ _ hc (fun _ => ?_)
                clear hK K hst hs2
                refine wpAnyH_ready (rs := [9]) (by kernel_rfl) (by simp) ?_
                refine (AllReadyH.cons rfl (fun K hK => ?_) AllReadyH.nil)
                · go_simp
                  obtain ⟨z10, hz10⟩ : ∃ z10, z10 = z9.alloc (.cells #[.int .i64 0, .int .i64 0] 36) := ⟨_, rfl⟩
                  have hst : Beside w.heap.size z9 z10 := by rw [hz10]; exact (Beside.refl _ _).alloc _
                  obtain ⟨Pb, hPb⟩ : ∃ P, P = z9.heap.size := ⟨_, rfl⟩
                  have tb : TB 36 z10 Pb [.int .i64 0, .int .i64 0] := by rw [hz10, hPb]; exact TB.new1 z9 _ _ _ rfl
                  have hnb : Pb ≠ w.heap.size := by have := hs.lt; omega
                  have h0b : w.heap.size ≤ Pb := by have := hs.lt; omega
                  have hdb : wr.heap.size ≤ Pb := by have := hx.size; omega
                  replace hs : SrcAt w z10 w.heap.size a len cap k3 := by rw [hz10]; exact hs.alloc _
                  replace hx := hx.trans hst
                  replace ta := ta.beside hna hst
                  have hab : Pa ≠ Pb := by have := tlta; have := hPb; omega
                  clear tlta
                  rw [← hz10, ← hPb]
                  have hc := (tD.beside hDb hx).blk.c1.1
                  refine hK.out _ _ hc (fun _ => ?_)
                  clear hK K hst hz10 hPb
                  obtain ⟨a0, a1, af0, af1⟩ := ta.blk.c2
                  have tb1 : TB 36 ((z10.setCell ⟨Pa, 0, none⟩ (.int .i64 x.dev)).setCell ⟨Pa, 1, none⟩ (.int .i64 x.ino)) Pb [.int .i64 0, .int .i64 0] := (tb.other hab.symm _ _).other hab.symm _ _
                  obtain ⟨b0, b1, bf0, bf1⟩ := tb1.blk.c2
                  have ta1 : TB 36 ((z10.setCell ⟨Pa, 0, none⟩ (.int .i64 x.dev)).setCell ⟨Pa, 1, none⟩ (.int .i64 x.ino)) Pa [.int .i64 x.dev, .int .i64 x.ino] := (ta.set 0 (.int .i64 x.dev)).set 1 (.int .i64 x.ino)
                  have hs1 := (hs.setNew h0a hna 0 (.int .i64 x.dev)).setNew h0a hna 1 (.int .i64 x.ino)
                  have hs2 := (hs1.setNew h0b hnb 0 (.int .i64 y.dev)).setNew h0b hnb 1 (.int .i64 y.ino)
                  have hx1 := (hx.setNew hda 0 (.int .i64 x.dev)).setNew hda 1 (.int .i64 x.ino)
                  have hx2 := (hx1.setNew hdb 0 (.int .i64 y.dev)).setNew hdb 1 (.int .i64 y.ino)
                  have HFN := Lib.hid (And.intro (show k3 ≤ k' + 10 by omega) (And.intro (show TB 36 ((((z10.setCell ⟨Pa, 0, none⟩ (.int .i64 x.dev)).setCell ⟨Pa, 1, none⟩ (.int .i64 x.ino)).setCell ⟨Pb, 0, none⟩ (.int .i64 y.dev)).setCell ⟨Pb, 1, none⟩ (.int .i64 y.ino)) Pa [.int .i64 x.dev, .int .i64 x.ino] from (ta1.other hab _ _).other hab _ _) (And.intro (show TB 36 ((((z10.setCell ⟨Pa, 0, none⟩ (.int .i64 x.dev)).setCell ⟨Pa, 1, none⟩ (.int .i64 x.ino)).setCell ⟨Pb, 0, none⟩ (.int .i64 y.dev)).setCell ⟨Pb, 1, none⟩ (.int .i64 y.ino)) Pb [.int .i64 y.dev, .int .i64 y.ino] from (tb1.set 0 (.int .i64 y.dev)).set 1 (.int .i64 y.ino)) (And.intro hs2 hx2))))
                  have hc1 := (tD.beside hDb hx1).blk.c1.1
                  have hc2 := (tD.beside hDb hx2).blk.c1.1
                  clear ta tb tb1 ta1 hs1 hs2 hx1 hx2 hs hx
                  refine wpAnyH_ready (rs := [10]) (by kernel_rfl) (by simp) ?_
                  refine AllReadyH.cons rfl (fun K hK => ?_) AllReadyH.nil
                  go_simp
                  refine hK.out _ _ hc1 (fun _ => ?_)
                  clear hK K
                  refine wpAnyH_ready (rs := [11]) (by kernel_rfl) (by simp) ?_
                  refine AllReadyH.cons rfl (fun K hK => ?_) AllReadyH.nil
                  go_simp
                  refine hK.out _ _ hc1 (fun _ => ?_)
                  clear hK K
                  refine wpAnyH_ready (rs := [12]) (by kernel_rfl) (by simp) ?_
                  refine AllReadyH.cons rfl (fun K hK => ?_) AllReadyH.nil
                  go_simp
                  refine hK.out _ _ hc2 (fun _ => ?_)
                  clear hK K
                  refine wpAnyH_done (by kernel_rfl) ?_ _
                  go_simp
                  clear a0 a1 af0 af1 b0 b1 bf0 bf1 hc1 hc2
                  go_wp2_with fail
                  go_meet
                  exact ⟨_, _, x, nm, y, k3, rfl, rfl, rfl, HFN.out⟩
              · go_simp
                obtain ⟨z11, hz11⟩ : ∃ z11, z11 = z8.alloc (.cells #[.int .i64 0, .int .i64 0] 36) := ⟨_, rfl⟩
                have hst : Beside w.heap.size z8 z11 := by rw [hz11]; exact (Beside.refl _ _).alloc _
                obtain ⟨Pb, hPb⟩ : ∃ P, P = z8.heap.size := ⟨_, rfl⟩
                have tb : TB 36 z11 Pb [.int .i64 0, .int .i64 0] := by rw [hz11, hPb]; exact TB.new1 z8 _ _ _ rfl
                have hnb : Pb ≠ w.heap.size := by have := hs.lt; omega
                have h0b : w.heap.size ≤ Pb := by have := hs.lt; omega
                have hdb : wr.heap.size ≤ Pb := by have := hx.size; omega
                replace hs : SrcAt w z11 w.heap.size a len cap (k1 + 2) := by rw [hz11]; exact hs.alloc _
                replace hx := hx.trans hst
                replace ta := ta.beside hna hst
                have hab : Pa ≠ Pb := by have := tlta; have := hPb; omega
                clear tlta
                rw [← hz11, ← hPb]
                have hc := (tD.beside hDb hx).blk.c1.1
                refine hK.out _ _ hc (fun _ => ?_)
                clear hK K hst hz11 hPb
                refine wpAnyH_ready (rs := [7]) (by kernel_rfl) (by simp) ?_
                refine (AllReadyH.cons rfl (fun K hK => ?_) AllReadyH.nil)
                · go_simp
                  go_at_call 15
                  refine (file_b w z11 w.heap.size a len cap (k1 + 2) hs (by omega) w1.heap.size (.slice fa F.length fc) F (HF.out z11 hx) HO.out).mono ?_
                  rintro e z12 ⟨y, k3, hk3, rfl, hs2, hst⟩
                  go_wp2_with fail
                  replace hs := hs2
                  replace ta := ta.beside hna hst
                  replace tb := tb.beside hnb hst
                  replace hx := hx.trans hst
                  have hc := (tD.beside hDb hx).blk.c1.1
                  refine hK.out _ _ hc (fun _ => ?_)
                  clear hK K hst hs2
                  obtain ⟨a0, a1, af0, af1⟩ := ta.blk.c2
                  have tb1 : TB 36 ((z12.setCell ⟨Pa, 0, none⟩ (.int .i64 x.dev)).setCell ⟨Pa, 1, none⟩ (.int .i64 x.ino)) Pb [.int .i64 0, .int .i64 0] := (tb.other hab.symm _ _).other hab.symm _ _
                  obtain ⟨b0, b1, bf0, bf1⟩ := tb1.blk.c2
                  have ta1 : TB 36 ((z12.setCell ⟨Pa, 0, none⟩ (.int .i64 x.dev)).setCell ⟨Pa, 1, none⟩ (.int .i64 x.ino)) Pa [.int .i64 x.dev, .int .i64 x.ino] := (ta.set 0 (.int .i64 x.dev)).set 1 (.int .i64 x.ino)
                  have hs1 := (hs.setNew h0a hna 0 (.int .i64 x.dev)).setNew h0a hna 1 (.int .i64 x.ino)
                  have hs2 := (hs1.setNew h0b hnb 0 (.int .i64 y.dev)).setNew h0b hnb 1 (.int .i64 y.ino)
                  have hx1 := (hx.setNew hda 0 (.int .i64 x.dev)).setNew hda 1 (.int .i64 x.ino)
                  have hx2 := (hx1.setNew hdb 0 (.int .i64 y.dev)).setNew hdb 1 (.int .i64 y.ino)
                  have HFN := Lib.hid (And.intro (show k3 ≤ k' + 10 by omega) (And.intro (show TB 36 ((((z12.setCell ⟨Pa, 0, none⟩ (.int .i64 x.dev)).setCell ⟨Pa, 1, none⟩ (.int .i64 x.ino)).setCell ⟨Pb, 0, none⟩ (.int .i64 y.dev)).setCell ⟨Pb, 1, none⟩ (.int .i64 y.ino)) Pa [.int .i64 x.dev, .int .i64 x.ino] from (ta1.other hab _ _).other hab _ _) (And.intro (show TB 36 ((((z12.setCell ⟨Pa, 0, none⟩ (.int .i64 x.dev)).setCell ⟨Pa, 1, none⟩ (.int .i64 x.ino)).setCell ⟨Pb, 0, none⟩ (.int .i64 y.dev)).setCell ⟨Pb, 1, none⟩ (.int .i64 y.ino)) Pb [.int .i64 y.dev, .int .i64 y.ino] from (tb1.set 0 (.int .i64 y.dev)).set 1 (.int .i64 y.ino)) (And.intro hs2 hx2))))
                  have hc1 := (tD.beside hDb hx1).blk.c1.1
                  have hc2 := (tD.beside hDb hx2).blk.c1.1
                  clear ta tb tb1 ta1 hs1 hs2 hx1 hx2 hs hx
                  refine wpAnyH_ready (rs := [10]) (by kernel_rfl) (by simp) ?_
                  refine AllReadyH.cons rfl (fun K hK => ?_) AllReadyH.nil
                  go_simp
                  refine hK.out _ _ hc1 (fun _ => ?_)
                  clear hK K
                  refine wpAnyH_ready (rs := [11]) (by kernel_rfl) (by simp) ?_
                  refine AllReadyH.cons rfl (fun K hK => ?_) AllReadyH.nil
                  go_simp
                  refine hK.out _ _ hc1 (fun _ => ?_)
                  clear hK K
                  refine wpAnyH_ready (rs := [12]) (by kernel_rfl) (by simp) ?_
                  refine AllReadyH.cons rfl (fun K hK => ?_) AllReadyH.nil
                  go_simp
                  refine hK.out _ _ hc2 (fun _ => ?_)
                  clear hK K
                  refine wpAnyH_done (by kernel_rfl) ?_ _
                  go_simp
                  clear a0 a1 af0 af1 b0 b1 bf0 bf1 hc1 hc2
                  go_wp2_with fail
                  go_meet
                  exact ⟨_, _, x, nm, y, k3, rfl, rfl, rfl, HFN.out⟩
            · go_simp
              obtain ⟨z13, hz13⟩ : ∃ z13, z13 = z2.alloc (.cells #[.int .i64 0, .int .i64 0] 36) := ⟨_, rfl⟩
              have hst : Beside w.heap.size z2 z13 := by rw [hz13]; exact (Beside.refl _ _).alloc _
              obtain ⟨Pb, hPb⟩ : ∃ P, P = z2.heap.size := ⟨_, rfl⟩
              have tb : TB 36 z13 Pb [.int .i64 0, .int .i64 0] := by rw [hz13, hPb]; exact TB.new1 z2 _ _ _ rfl
              have hnb : Pb ≠ w.heap.size := by have := hs.lt; omega
              have h0b : w.heap.size ≤ Pb := by have := hs.lt; omega
              have hdb : wr.heap.size ≤ Pb := by have := hx.size; omega
              replace hs : SrcAt w z13 w.heap.size a len cap (k1 + 2) := by rw [hz13]; exact hs.alloc _
              replace hx := hx.trans hst
              have tltb : Pb < z13.heap.size := tb.lt
              rw [← hz13, ← hPb]
              have hc := (tD.beside hDb hx).blk.c1.1
              refine hK.out _ _ hc (fun _ => ?_)
              clear hK K hst hz13 hPb
              refine wpAnyH_ready (rs := [7, 8]) (by kernel_rfl) (by simp) ?_
              refine (AllReadyH.cons rfl (fun K hK => ?_) (AllReadyH.cons rfl (fun K hK => ?_) AllReadyH.nil))
              · go_simp
                go_at_call 15
                refine (file_b w z13 w.heap.size a len cap (k1 + 2) hs (by omega) w1.heap.size (.slice fa F.length fc) F (HF.out z13 hx) HO.out).mono ?_
                rintro e z14 ⟨y, k3, hk3, rfl, hs2, hst⟩
                go_wp2_with fail
                replace hs := hs2
                replace tltb := Nat.lt_of_lt_of_le tltb hst.size
                replace tb := tb.beside hnb hst
                replace hx := hx.trans hst
                have hc := (tD.beside hDb hx).blk.c1.1
                refine hK.out _ _ hc (fun _ => ?_)
                clear hK K hst hs2
                refine wpAnyH_ready (rs := [8]) (by kernel_rfl) (by simp) ?_
                refine (AllReadyH.cons rfl (fun K hK => ?_) AllReadyH.nil)
                · go_simp
                  obtain ⟨z15, hz15⟩ : ∃ z15, z15 = z14.alloc (.cells #[.int .i64 0, .int .i64 0] 36) := ⟨_, rfl⟩
                  have hst : Beside w.heap.size z14 z15 := by rw [hz15]; exact (Beside.refl _ _).alloc _
                  obtain ⟨Pa, hPa⟩ : ∃ P, P = z14.heap.size := ⟨_, rfl⟩
                  have ta : TB 36 z15 Pa [.int .i64 0, .int .i64 0] := by rw [hz15, hPa]; exact TB.new1 z14 _ _ _ rfl
                  have hna : Pa ≠ w.heap.size := by have := hs.lt; omega
                  have h0a : w.heap.size ≤ Pa := by have := hs.lt; omega
                  have hda : wr.heap.size ≤ Pa := by have := hx.size; omega
                  replace hs : SrcAt w z15 w.heap.size a len cap k3 := by rw [hz15]; exact hs.alloc _
                  replace hx := hx.trans hst
                  replace tb := tb.beside hnb hst
                  have hab : Pa ≠ Pb := by have := tltb; have := hPa; omega
                  clear tltb
                  rw [← hz15, ← hPa]
                  have hc := (tD.beside hDb hx).blk.c1.1
                  refine hK.out _ _ hc (fun _ => ?_)
                  clear hK K hst hz15 hPa
                  obtain ⟨a0, a1, af0, af1⟩ := ta.blk.c2
                  have tb1 : TB 36 ((z15.setCell ⟨Pa, 0, none⟩ (.int .i64 x.dev)).setCell ⟨Pa, 1, none⟩ (.int .i64 x.ino)) Pb [.int .i64 0, .int .i64 0] := (tb.other hab.symm _ _).other hab.symm _ _
                  obtain ⟨b0, b1, bf0, bf1⟩ := tb1.blk.c2
                  have ta1 : TB 36 ((z15.setCell ⟨Pa, 0, none⟩ (.int .i64 x.dev)).setCell ⟨Pa, 1, none⟩ (.int .i64 x.ino)) Pa [.int .i64 x.dev, .int .i64 x.ino] := (ta.set 0 (.int .i64 x.dev)).set 1 (.int .i64 x.ino)
                  have hs1 := (hs.setNew h0a hna 0 (.int .i64 x.dev)).setNew h0a hna 1 (.int .i64 x.ino)
                  have hs2 := (hs1.setNew h0b hnb 0 (.int .i64 y.dev)).setNew h0b hnb 1 (.int .i64 y.ino)
                  have hx1 := (hx.setNew hda 0 (.int .i64 x.dev)).setNew hda 1 (.int .i64 x.ino)
                  have hx2 := (hx1.setNew hdb 0 (.int .i64 y.dev)).setNew hdb 1 (.int .i64 y.ino)
                  have HFN := Lib.hid (And.intro (show k3 ≤ k' + 10 by omega) (And.intro (show TB 36 ((((z15.setCell ⟨Pa, 0, none⟩ (.int .i64 x.dev)).setCell ⟨Pa, 1, none⟩ (.int .i64 x.ino)).setCell ⟨Pb, 0, none⟩ (.int .i64 y.dev)).setCell ⟨Pb, 1, none⟩ (.int .i64 y.ino)) Pa [.int .i64 x.dev, .int .i64 x.ino] from (ta1.other hab _ _).other hab _ _) (And.intro (show TB 36 ((((z15.setCell ⟨Pa, 0, none⟩ (.int .i64 x.dev)).setCell ⟨Pa, 1, none⟩ (.int .i64 x.ino)).setCell ⟨Pb, 0, none⟩ (.int .i64 y.dev)).setCell ⟨Pb, 1, none⟩ (.int .i64 y.ino)) Pb [.int .i64 y.dev, .int .i64 y.ino] from (tb1.set 0 (.int .i64 y.dev)).set 1 (.int .i64 y.ino)) (And.intro hs2 hx2))))
                  have hc1 := (tD.beside hDb hx1).blk.c1.1
                  have hc2 := (tD.beside hDb hx2).blk.c1.1
                  clear ta tb tb1 ta1 hs1 hs2 hx1 hx2 hs hx
                  refine wpAnyH_ready (rs := [10]) (by kernel_rfl) (by simp) ?_
                  refine AllReadyH.cons rfl (fun K hK => ?_) AllReadyH.nil
                  go_simp
                  refine hK.out _ _ hc1 (fun _ => ?_)
                  clear hK K
                  refine wpAnyH_ready (rs := [11]) (by kernel_rfl) (by simp) ?_
                  refine AllReadyH.cons rfl (fun K hK => ?_) AllReadyH.nil
                  go_simp
                  refine hK.out _ _ hc1 (fun _ => ?_)
                  clear hK K
                  refine wpAnyH_ready (rs := [12]) (by kernel_rfl) (by simp) ?_
                  refine AllReadyH.cons rfl (fun K hK => ?_) AllReadyH.nil
                  go_simp
                  refine hK.out _ _ hc2 (fun _ => ?_)
                  clear hK K
                  refine wpAnyH_done (by kernel_rfl) ?_ _
                  go_simp
                  clear a0 a1 af0 af1 b0 b1 bf0 bf1 hc1 hc2
                  go_wp2_with fail
                  go_meet
                  exact ⟨_, _, x, nm, y, k3, rfl, rfl, rfl, HFN.out⟩
              · go_simp
                obtain ⟨z16, hz16⟩ : ∃ z16, z16 = z13.alloc (.cells #[.int .i64 0, .int .i64 0] 36) := ⟨_, rfl⟩
                have hst : Beside w.heap.size z13 z16 := by rw [hz16]; exact (Beside.refl _ _).alloc _
                obtain ⟨Pa, hPa⟩ : ∃ P, P = z13.heap.size := ⟨_, rfl⟩
                have ta : TB 36 z16 Pa [.int .i64 0, .int .i64 0] := by rw [hz16, hPa]; exact TB.new1 z13 _ _ _ rfl
                have hna : Pa ≠ w.heap.size := by have := hs.lt; omega
                have h0a : w.heap.size ≤ Pa := by have := hs.lt; omega
                have hda : wr.heap.size ≤ Pa := by have := hx.size; omega
                replace hs : SrcAt w z16 w.heap.size a len cap (k1 + 2) := by rw [hz16]; exact hs.alloc _
                replace hx := hx.trans hst
                replace tb := tb.beside hnb hst
                have hab : Pa ≠ Pb := by have := tltb; have := hPa; omega
                clear tltb
                rw [← hz16, ← hPa]
                have hc := (tD.beside hDb hx).blk.c1.1
                refine hK.out _ _ hc (fun _ => ?_)
                clear hK K hst hz16 hPa
                refine wpAnyH_ready (rs := [7]) (by kernel_rfl) (by simp) ?_
                refine (AllReadyH.cons rfl (fun K hK => ?_) AllReadyH.nil)
                · go_simp
                  go_at_call 15
                  refine (file_b w z16 w.heap.size a len cap (k1 + 2) hs (by omega) w1.heap.size (.slice fa F.length fc) F (HF.out z16 hx) HO.out).mono ?_
                  rintro e z17 ⟨y, k3, hk3, rfl, hs2, hst⟩
                  go_wp2_with fail
                  replace hs := hs2
                  replace ta := ta.beside hna hst
                  replace tb := tb.beside hnb hst
                  replace hx := hx.trans hst
                  have hc := (tD.beside hDb hx).blk.c1.1
                  refine hK.out _ _ hc (fun _ => ?_)
                  clear hK K hst hs2
                  obtain ⟨a0, a1, af0, af1⟩ := ta.blk.c2
                  have tb1 : TB 36 ((z17.setCell ⟨Pa, 0, none⟩ (.int .i64 x.dev)).setCell ⟨Pa, 1, none⟩ (.int .i64 x.ino)) Pb [.int .i64 0, .int .i64 0] := (tb.other hab.symm _ _).other hab.symm _ _
                  obtain ⟨b0, b1, bf0, bf1⟩ := tb1.blk.c2
                  have ta1 : TB 36 ((z17.setCell ⟨Pa, 0, none⟩ (.int .i64 x.dev)).setCell ⟨Pa, 1, none⟩ (.int .i64 x.ino)) Pa [.int .i64 x.dev, .int .i64 x.ino] := (ta.set 0 (.int .i64 x.dev)).set 1 (.int .i64 x.ino)
                  have hs1 := (hs.setNew h0a hna 0 (.int .i64 x.dev)).setNew h0a hna 1 (.int .i64 x.ino)
                  have hs2 := (hs1.setNew h0b hnb 0 (.int .i64 y.dev)).setNew h0b hnb 1 (.int .i64 y.ino)
                  have hx1 := (hx.setNew hda 0 (.int .i64 x.dev)).setNew hda 1 (.int .i64 x.ino)
                  have hx2 := (hx1.setNew hdb 0 (.int .i64 y.dev)).setNew hdb 1 (.int .i64 y.ino)
                  have HFN := Lib.hid (And.intro (show k3 ≤ k' + 10 by omega) (And.intro (show TB 36 ((((z17.setCell ⟨Pa, 0, none⟩ (.int .i64 x.dev)).setCell ⟨Pa, 1, none⟩ (.int .i64 x.ino)).setCell ⟨Pb, 0, none⟩ (.int .i64 y.dev)).setCell ⟨Pb, 1, none⟩ (.int .i64 y.ino)) Pa [.int .i64 x.dev, .int .i64 x.ino] from (ta1.other hab _ _).other hab _ _) (And.intro (show TB 36 ((((z17.setCell ⟨Pa, 0, none⟩ (.int .i64 x.dev)).setCell ⟨Pa, 1, none⟩ (.int .i64 x.ino)).setCell ⟨Pb, 0, none⟩ (.int .i64 y.dev)).setCell ⟨Pb, 1, none⟩ (.int .i64 y.ino)) Pb [.int .i64 y.dev, .int .i64 y.ino] from (tb1.set 0 (.int .i64 y.dev)).set 1 (.int .i64 y.ino)) (And.intro hs2 hx2))))
                  have hc1 := (tD.beside hDb hx1).blk.c1.1
                  have hc2 := (tD.beside hDb hx2).blk.c1.1
                  clear ta tb tb1 ta1 hs1 hs2 hx1 hx2 hs hx
                  refine wpAnyH_ready (rs := [10]) (by kernel_rfl) (by simp) ?_
                  refine AllReadyH.cons rfl (fun K hK => ?_) AllReadyH.nil
                  go_simp
                  refine hK.out _ _ hc1 (fun _ => ?_)
                  clear hK K
                  refine wpAnyH_ready (rs := [11]) (by kernel_rfl) (by simp) ?_
                  refine AllReadyH.cons rfl (fun K hK => ?_) AllReadyH.nil
                  go_simp
                  refine hK.out _ _ hc1 (fun _ => ?_)
                  clear hK K
                  refine wpAnyH_ready (rs := [12]) (by kernel_rfl) (by simp) ?_
                  refine AllReadyH.cons rfl (fun K hK => ?_) AllReadyH.nil
                  go_simp
                  refine hK.out _ _ hc2 (fun _ => ?_)
                  clear hK K
                  refine wpAnyH_done (by kernel_rfl) ?_ _
                  go_simp
                  clear a0 a1 af0 af1 b0 b1 bf0 bf1 hc1 hc2
                  go_wp2_with fail
                  go_meet
                  exact ⟨_, _, x, nm, y, k3, rfl, rfl, rfl, HFN.out⟩
          · go_simp
            obtain ⟨z18, hz18⟩ : ∃ z18, z18 = z1.alloc (.cells #[.int .i64 0, .int .i64 0] 36) := ⟨_, rfl⟩
            have hst : Beside w.heap.size z1 z18 := by rw [hz18]; exact (Beside.refl _ _).alloc _
            obtain ⟨Pa, hPa⟩ : ∃ P, P = z1.heap.size := ⟨_, rfl⟩
            have ta : TB 36 z18 Pa [.int .i64 0, .int .i64 0] := by rw [hz18, hPa]; exact TB.new1 z1 _ _ _ rfl
            have hna : Pa ≠ w.heap.size := by have := hs.lt; omega
            have h0a : w.heap.size ≤ Pa := by have := hs.lt; omega
            have hda : wr.heap.size ≤ Pa := by have := hx.size; omega
            replace hs : SrcAt w z18 w.heap.size a len cap k1 := by rw [hz18]; exact hs.alloc _
            replace hx := hx.trans hst
            have tlta : Pa < z18.heap.size := ta.lt
            rw [← hz18, ← hPa]
            have hc := (tD.beside hDb hx).blk.c1.1
            refine hK.out _ _ hc (fun _ => ?_)
            clear hK K hst hz18 hPa
            refine wpAnyH_ready (rs := [4, 9]) (by kernel_rfl) (by simp) ?_
            refine (AllReadyH.cons rfl (fun K hK => ?_) (AllReadyH.cons rfl (fun K hK => ?_) AllReadyH.nil))
            · go_simp
              go_at_call 16
              refine (name_b w z18 w.heap.size a len cap k1 hs (by omega)).mono ?_
              rintro e z19 ⟨nm, -, rfl, hs2, hst⟩
              go_wp2_with fail
              replace hs := hs2
              replace tlta := Nat.lt_of_lt_of_le tlta hst.size
              replace ta := ta.beside hna hst
              replace hx := hx.trans hst
              have hc := (tD.beside hDb hx).blk.c1.1
              refine hK.out _ _ hc (fun _ => ?_)
              clear hK K hst hs2
              refine wpAnyH_ready (rs := [7, 9]) (by kernel_rfl) (by simp) ?_
              refine (AllReadyH.cons rfl (fun K hK => ?_) (AllReadyH.cons rfl (fun K hK => ?_) AllReadyH.nil))
              · go_simp
                go_at_call 15
                refine (file_b w z19 w.heap.size a len cap (k1 + 2) hs (by omega) w1.heap.size (.slice fa F.length fc) F (HF.out z19 hx) HO.out).mono ?_
                rintro e z20 ⟨y, k3, hk3, rfl, hs2, hst⟩
                go_wp2_with fail
                replace hs := hs2
                replace tlta := Nat.lt_of_lt_of_le tlta hst.size
                replace ta := ta.beside hna hst
                replace hx := hx.trans hst
                have hc := (tD.beside hDb hx).blk.c1.1
                refine hK.out _ _ hc (fun _ => ?_)
                clear hK K hst hs2
                refine wpAnyH_ready (rs := [9]) (by kernel_rfl) (by simp) ?_
                refine (AllReadyH.cons rfl (fun K hK => ?_) AllReadyH.nil)
                · go_simp
                  obtain ⟨z21, hz21⟩ : ∃ z21, z21 = z20.alloc (.cells #[.int .i64 0, .int .i64 0] 36) := ⟨_, rfl⟩
                  have hst : Beside w.heap.size z20 z21 := by rw [hz21]; exact (Beside.refl _ _).alloc _
                  obtain ⟨Pb, hPb⟩ : ∃ P, P = z20.heap.size := ⟨_, rfl⟩
                  have tb : TB 36 z21 Pb [.int .i64 0, .int .i64 0] := by rw [hz21, hPb]; exact TB.new1 z20 _ _ _ rfl
                  have hnb : Pb ≠ w.heap.size := by have := hs.lt; omega
                  have h0b : w.heap.size ≤ Pb := by have := hs.lt; omega
                  have hdb : wr.heap.size ≤ Pb := by have := hx.size; omega
                  replace hs : SrcAt w z21 w.heap.size a len cap k3 := by rw [hz21]; exact hs.alloc _
                  replace hx := hx.trans hst
                  replace ta := ta.beside hna hst
                  have hab : Pa ≠ Pb := by have := tlta; have := hPb; omega
                  clear tlta
                  rw [← hz21, ← hPb]
                  have hc := (tD.beside hDb hx).blk.c1.1
                  refine hK.out _ _ hc (fun _ => ?_)
                  clear hK K hst hz21 hPb
                  obtain ⟨a0, a1, af0, af1⟩ := ta.blk.c2
                  have tb1 : TB 36 ((z21.setCell ⟨Pa, 0, none⟩ (.int .i64 x.dev)).setCell ⟨Pa, 1, none⟩ (.int .i64 x.ino)) Pb [.int .i64 0, .int .i64 0] := (tb.other hab.symm _ _).other hab.symm _ _
                  obtain ⟨b0, b1, bf0, bf1⟩ := tb1.blk.c2
                  have ta1 : TB 36 ((z21.setCell ⟨Pa, 0, none⟩ (.int .i64 x.dev)).setCell ⟨Pa, 1, none⟩ (.int .i64 x.ino)) Pa [.int .i64 x.dev, .int .i64 x.ino] := (ta.set 0 (.int .i64 x.dev)).set 1 (.int .i64 x.ino)
                  have hs1 := (hs.setNew h0a hna 0 (.int .i64 x.dev)).setNew h0a hna 1 (.int .i64 x.ino)
                  have hs2 := (hs1.setNew h0b hnb 0 (.int .i64 y.dev)).setNew h0b hnb 1 (.int .i64 y.ino)
                  have hx1 := (hx.setNew hda 0 (.int .i64 x.dev)).setNew hda 1 (.int .i64 x.ino)
                  have hx2 := (hx1.setNew hdb 0 (.int .i64 y.dev)).setNew hdb 1 (.int .i64 y.ino)
                  have HFN := Lib.hid (And.intro (show k3 ≤ k' + 10 by omega) (And.intro (show TB 36 ((((z21.setCell ⟨Pa, 0, none⟩ (.int .i64 x.dev)).setCell ⟨Pa, 1, none⟩ (.int .i64 x.ino)).setCell ⟨Pb, 0, none⟩ (.int .i64 y.dev)).setCell ⟨Pb, 1, none⟩ (.int .i64 y.ino)) Pa [.int .i64 x.dev, .int .i64 x.ino] from (ta1.other hab _ _).other hab _ _) (And.intro (show TB 36 ((((z21.setCell ⟨Pa, 0, none⟩ (.int .i64 x.dev)).setCell ⟨Pa, 1, none⟩ (.int .i64 x.ino)).setCell ⟨Pb, 0, none⟩ (.int .i64 y.dev)).setCell ⟨Pb, 1, none⟩ (.int .i64 y.ino)) Pb [.int .i64 y.dev, .int .i64 y.ino] from (tb1.set 0 (.int .i64 y.dev)).set 1 (.int .i64 y.ino)) (And.intro hs2 hx2))))
                  have hc1 := (tD.beside hDb hx1).blk.c1.1
                  have hc2 := (tD.beside hDb hx2).blk.c1.1
                  clear ta tb tb1 ta1 hs1 hs2 hx1 hx2 hs hx
                  refine wpAnyH_ready (rs := [10]) (by kernel_rfl) (by simp) ?_
                  refine AllReadyH.cons rfl (fun K hK => ?_) AllReadyH.nil
                  go_simp
                  refine hK.out _ _ hc1 (fun _ => ?_)
                  clear hK K
                  refine wpAnyH_ready (rs := [11]) (by kernel_rfl) (by simp) ?_
                  refine AllReadyH.cons rfl (fun K hK => ?_) AllReadyH.nil
                  go_simp
                  refine hK.out _ _ hc1 (fun _ => ?_)
                  clear hK K
                  refine wpAnyH_ready (rs := [12]) (by kernel_rfl) (by simp) ?_
                  refine AllReadyH.cons rfl (fun K hK => ?_) AllReadyH.nil
                  go_simp
                  refine hK.out _ _ hc2 (fun _ => ?_)
                  clear hK K
                  refine wpAnyH_done (by kernel_rfl) ?_ _
                  go_simp
                  clear a0 a1 af0 af1 b0 b1 bf0 bf1 hc1 hc2
                  go_wp2_with fail
                  go_meet
                  exact ⟨_, _, x, nm, y, k3, rfl, rfl, rfl, HFN.out⟩
              · go_simp
                obtain ⟨z22, hz22⟩ : ∃ z22, z22 = z19.alloc (.cells #[.int .i64 0, .int .i64 0] 36) := ⟨_, rfl⟩
                have hst : Beside w.heap.size z19 z22 := by rw [hz22]; exact (Beside.refl _ _).alloc _
                obtain ⟨Pb, hPb⟩ : ∃ P, P = z19.heap.size := ⟨_, rfl⟩
                have tb : TB 36 z22 Pb [.int .i64 0, .int .i64 0] := by rw [hz22, hPb]; exact TB.new1 z19 _ _ _ rfl
                have hnb : Pb ≠ w.heap.size := by have := hs.lt; omega
                have h0b : w.heap.size ≤ Pb := by have := hs.lt; omega
                have hdb : wr.heap.size ≤ Pb := by have := hx.size; omega
                replace hs : SrcAt w z22 w.heap.size a len cap (k1 + 2) := by rw [hz22]; exact hs.alloc _
                replace hx := hx.trans hst
                replace ta := ta.beside hna hst
                have hab : Pa ≠ Pb := by have := tlta; have := hPb; omega
                clear tlta
                rw [← hz22, ← hPb]
                have hc := (tD.beside hDb hx).blk.c1.1
                refine hK.out _ _ hc (fun _ => ?_)
                clear hK K hst hz22 hPb
                refine wpAnyH_ready (rs := [7]) (by kernel_rfl) (by simp) ?_
                refine (AllReadyH.cons rfl (fun K hK => ?_) AllReadyH.nil)
                · go_simp
                  go_at_call 15
                  refine (file_b w z22 w.heap.size a len cap (k1 + 2) hs (by omega) w1.heap.size (.slice fa F.length fc) F (HF.out z22 hx) HO.out).mono ?_
                  rintro e z23 ⟨y, k3, hk3, rfl, hs2, hst⟩
                  go_wp2_with fail
                  replace hs := hs2
                  replace ta := ta.beside hna hst
                  replace tb := tb.beside hnb hst
                  replace hx := hx.trans hst
                  have hc := (tD.beside hDb hx).blk.c1.1
                  refine hK.out _ _ hc (fun _ => ?_)
                  clear hK K hst hs2
                  obtain ⟨a0, a1, af0, af1⟩ := ta.blk.c2
                  have tb1 : TB 36 ((z23.setCell ⟨Pa, 0, none⟩ (.int .i64 x.dev)).setCell ⟨Pa, 1, none⟩ (.int .i64 x.ino)) Pb [.int .i64 0, .int .i64 0] := (tb.other hab.symm _ _).other hab.symm _ _
                  obtain ⟨b0, b1, bf0, bf1⟩ := tb1.blk.c2
                  have ta1 : TB 36 ((z23.setCell ⟨Pa, 0, none⟩ (.int .i64 x.dev)).setCell ⟨Pa, 1, none⟩ (.int .i64 x.ino)) Pa [.int .i64 x.dev, .int .i64 x.ino] := (ta.set 0 (.int .i64 x.dev)).set 1 (.int .i64 x.ino)
                  have hs1 := (hs.setNew h0a hna 0 (.int .i64 x.dev)).setNew h0a hna 1 (.int .i64 x.ino)
                  have hs2 := (hs1.setNew h0b hnb 0 (.int .i64 y.dev)).setNew h0b hnb 1 (.int .i64 y.ino)
                  have hx1 := (hx.setNew hda 0 (.int .i64 x.dev)).setNew hda 1 (.int .i64 x.ino)
                  have hx2 := (hx1.setNew hdb 0 (.int .i64 y.dev)).setNew hdb 1 (.int .i64 y.ino)
                  have HFN := Lib.hid (And.intro (show k3 ≤ k' + 10 by omega) (And.intro (show TB 36 ((((z23.setCell ⟨Pa, 0, none⟩ (.int .i64 x.dev)).setCell ⟨Pa, 1, none⟩ (.int .i64 x.ino)).setCell ⟨Pb, 0, none⟩ (.int .i64 y.dev)).setCell ⟨Pb, 1, none⟩ (.int .i64 y.ino)) Pa [.int .i64 x.dev, .int .i64 x.ino] from (ta1.other hab _ _).other hab _ _) (And.intro (show TB 36 ((((z23.setCell ⟨Pa, 0, none⟩ (.int .i64 x.dev)).setCell ⟨Pa, 1, none⟩ (.int .i64 x.ino)).setCell ⟨Pb, 0, none⟩ (.int .i64 y.dev)).setCell ⟨Pb, 1, none⟩ (.int .i64 y.ino)) Pb [.int .i64 y.dev, .int .i64 y.ino] from (tb1.set 0 (.int .i64 y.dev)).set 1 (.int .i64 y.ino)) (And.intro hs2 hx2))))
                  have hc1 := (tD.beside hDb hx1).blk.c1.1
                  have hc2 := (tD.beside hDb hx2).blk.c1.1
                  clear ta tb tb1 ta1 hs1 hs2 hx1 hx2 hs hx
                  refine wpAnyH_ready (rs := [10]) (by kernel_rfl) (by simp) ?_
                  refine AllReadyH.cons rfl (fun K hK => ?_) AllReadyH.nil
                  go_simp
                  refine hK.out _ _ hc1 (fun _ => ?_)
                  clear hK K
                  refine wpAnyH_ready (rs := [11]) (by kernel_rfl) (by simp) ?_
                  refine AllReadyH.cons rfl (fun K hK => ?_) AllReadyH.nil
                  go_simp
                  refine hK.out _ _ hc1 (fun _ => ?_)
                  clear hK K
                  refine wpAnyH_ready (rs := [12]) (by kernel_rfl) (by simp) ?_
                  refine AllReadyH.cons rfl (fun K hK => ?_) AllReadyH.nil
                  go_simp
                  refine hK.out _ _ hc2 (fun _ => ?_)
                  clear hK K
                  refine wpAnyH_done (by kernel_rfl) ?_ _
                  go_simp
                  clear a0 a1 af0 af1 b0 b1 bf0 bf1 hc1 hc2
                  go_wp2_with fail
                  go_meet
                  exact ⟨_, _, x, nm, y, k3, rfl, rfl, rfl, HFN.out⟩
            · go_simp
              obtain ⟨z24, hz24⟩ : ∃ z24, z24 = z18.alloc (.cells #[.int .i64 0, .int .i64 0] 36) := ⟨_, rfl⟩
              have hst : Beside w.heap.size z18 z24 := by rw [hz24]; exact (Beside.refl _ _).alloc _
              obtain ⟨Pb, hPb⟩ : ∃ P, P = z18.heap.size := ⟨_, rfl⟩
              have tb : TB 36 z24 Pb [.int .i64 0, .int .i64 0] := by rw [hz24, hPb]; exact TB.new1 z18 _ _ _ rfl
              have hnb : Pb ≠ w.heap.size := by have := hs.lt; omega
              have h0b : w.heap.size ≤ Pb := by have := hs.lt; omega
              have hdb : wr.heap.size ≤ Pb := by have := hx.size; omega
              replace hs : SrcAt w z24 w.heap.size a len cap k1 := by rw [hz24]; exact hs.alloc _
              replace hx := hx.trans hst
              replace ta := ta.beside hna hst
              have hab : Pa ≠ Pb := by have := tlta; have := hPb; omega
              clear tlta
              rw [← hz24, ← hPb]
              have hc := (tD.beside hDb hx).blk.c1.1
              refine hK.out _ _ hc (fun _ => ?_)
              clear hK K hst hz24 hPb
              refine wpAnyH_ready (rs := [4]) (by kernel_rfl) (by simp) ?_
              refine (AllReadyH.cons rfl (fun K hK => ?_) AllReadyH.nil)
              · go_simp
                go_at_call 16
                refine (name_b w z24 w.heap.size a len cap k1 hs (by omega)).mono ?_
                rintro e z25 ⟨nm, -, rfl, hs2, hst⟩
                go_wp2_with fail
                replace hs := hs2
                replace ta := ta.beside hna hst
                replace tb := tb.beside hnb hst
                replace hx := hx.trans hst
                have hc := (tD.beside hDb hx).blk.c1.1
                refine hK.out _ _ hc (fun _ => ?_)
                clear hK K hst hs2
                refine wpAnyH_ready (rs := [7]) (by kernel_rfl) (by simp) ?_
                refine (AllReadyH.cons rfl (fun K hK => ?_) AllReadyH.nil)
                · go_simp
                  go_at_call 15
                  refine (file_b w z25 w.heap.size a len cap (k1 + 2) hs (by omega) w1.heap.size (.slice fa F.length fc) F (HF.out z25 hx) HO.out).mono ?_
                  rintro e z26 ⟨y, k3, hk3, rfl, hs2, hst⟩
                  go_wp2_with fail
                  replace hs := hs2
                  replace ta := ta.beside hna hst
                  replace tb := tb.beside hnb hst
                  replace hx := hx.trans hst
                  have hc := (tD.beside hDb hx).blk.c1.1
                  refine hK.out _ _ hc (fun _ => ?_)
                  clear hK K hst hs2
                  obtain ⟨a0, a1, af0, af1⟩ := ta.blk.c2
                  have tb1 : TB 36 ((z26.setCell ⟨Pa, 0, none⟩ (.int .i64 x.dev)).setCell ⟨Pa, 1, none⟩ (.int .i64 x.ino)) Pb [.int .i64 0, .int .i64 0] := (tb.other hab.symm _ _).other hab.symm _ _
                  obtain ⟨b0, b1, bf0, bf1⟩ := tb1.blk.c2
                  have ta1 : TB 36 ((z26.setCell ⟨Pa, 0, none⟩ (.int .i64 x.dev)).setCell ⟨Pa, 1, none⟩ (.int .i64 x.ino)) Pa [.int .i64 x.dev, .int .i64 x.ino] := (ta.set 0 (.int .i64 x.dev)).set 1 (.int .i64 x.ino)
                  have hs1 := (hs.setNew h0a hna 0 (.int .i64 x.dev)).setNew h0a hna 1 (.int .i64 x.ino)
                  have hs2 := (hs1.setNew h0b hnb 0 (.int .i64 y.dev)).setNew h0b hnb 1 (.int .i64 y.ino)
                  have hx1 := (hx.setNew hda 0 (.int .i64 x.dev)).setNew hda 1 (.int .i64 x.ino)
                  have hx2 := (hx1.setNew hdb 0 (.int .i64 y.dev)).setNew hdb 1 (.int .i64 y.ino)
                  have HFN := Lib.hid (And.intro (show k3 ≤ k' + 10 by omega) (And.intro (show TB 36 ((((z26.setCell ⟨Pa, 0, none⟩ (.int .i64 x.dev)).setCell ⟨Pa, 1, none⟩ (.int .i64 x.ino)).setCell ⟨Pb, 0, none⟩ (.int .i64 y.dev)).setCell ⟨Pb, 1, none⟩ (.int .i64 y.ino)) Pa [.int .i64 x.dev, .int .i64 x.ino] from (ta1.other hab _ _).other hab _ _) (And.intro (show TB 36 ((((z26.setCell ⟨Pa, 0, none⟩ (.int .i64 x.dev)).setCell ⟨Pa, 1, none⟩ (.int .i64 x.ino)).setCell ⟨Pb, 0, none⟩ (.int .i64 y.dev)).setCell ⟨Pb, 1, none⟩ (.int .i64 y.ino)) Pb [.int .i64 y.dev, .int .i64 y.ino] from (tb1.set 0 (.int .i64 y.dev)).set 1 (.int .i64 y.ino)) (And.intro hs2 hx2))))
                  have hc1 := (tD.beside hDb hx1).blk.c1.1
                  have hc2 := (tD.beside hDb hx2).blk.c1.1
                  clear ta tb tb1 ta1 hs1 hs2 hx1 hx2 hs hx
                  refine wpAnyH_ready (rs := [10]) (by kernel_rfl) (by simp) ?_
                  refine AllReadyH.cons rfl (fun K hK => ?_) AllReadyH.nil
                  go_simp
                  refine hK.out _ _ hc1 (fun _ => ?_)
                  clear hK K
                  refine wpAnyH_ready (rs := [11]) (by kernel_rfl) (by simp) ?_
                  refine AllReadyH.cons rfl (fun K hK => ?_) AllReadyH.nil
                  go_simp
                  refine hK.out _ _ hc1 (fun _ => ?_)
                  clear hK K
                  refine wpAnyH_ready (rs := [12]) (by kernel_rfl) (by simp) ?_
                  refine AllReadyH.cons rfl (fun K hK => ?_) AllReadyH.nil
                  go_simp
                  refine hK.out _ _ hc2 (fun _ => ?_)
                  clear hK K
                  refine wpAnyH_done (by kernel_rfl) ?_ _
                  go_simp
                  clear a0 a1 af0 af1 b0 b1 bf0 bf1 hc1 hc2
                  go_wp2_with fail
                  go_meet
                  exact ⟨_, _, x, nm, y, k3, rfl, rfl, rfl, HFN.out⟩
          · go_simp
            obtain ⟨z27, hz27⟩ : ∃ z27, z27 = z1.alloc (.cells #[.int .i64 0, .int .i64 0] 36) := ⟨_, rfl⟩
            have hst : Beside w.heap.size z1 z27 := by rw [hz27]; exact (Beside.refl _ _).alloc _
            obtain ⟨Pb, hPb⟩ : ∃ P, P = z1.heap.size := ⟨_, rfl⟩
            have tb : TB 36 z27 Pb [.int .i64 0, .int .i64 0] := by rw [hz27, hPb]; exact TB.new1 z1 _ _ _ rfl
            have hnb : Pb ≠ w.heap.size := by have := hs.lt; omega
            have h0b : w.heap.size ≤ Pb := by have := hs.lt; omega
            have hdb : wr.heap.size ≤ Pb := by have := hx.size; omega
            replace hs : SrcAt w z27 w.heap.size a len cap k1 := by rw [hz27]; exact hs.alloc _
            replace hx := hx.trans hst
            have tltb : Pb < z27.heap.size := tb.lt
            rw [← hz27, ← hPb]
            have hc := (tD.beside hDb hx).blk.c1.1
            refine hK.out _ _ hc (fun _ => ?_)
            clear hK K hst hz27 hPb
            refine wpAnyH_ready (rs := [4, 8]) (by kernel_rfl) (by simp) ?_
            refine (AllReadyH.cons rfl (fun K hK => ?_) (AllReadyH.cons rfl (fun K hK => ?_) AllReadyH.nil))
            · go_simp
              go_at_call 16
              refine (name_b w z27 w.heap.size a len cap k1 hs (by omega)).mono ?_
              rintro e z28 ⟨nm, -, rfl, hs2, hst⟩
              go_wp2_with fail
              replace hs := hs2
              replace tltb := Nat.lt_of_lt_of_le tltb hst.size
              replace tb := tb.beside hnb hst
              replace hx := hx.trans hst
              have hc := (tD.beside hDb hx).blk.c1.1
              refine hK.out _ _ hc (fun _ => ?_)
              clear hK K hst hs2
              refine wpAnyH_ready (rs := [7, 8]) (by kernel_rfl) (by simp) ?_
              refine (AllReadyH.cons rfl (fun K hK => ?_) (AllReadyH.cons rfl (fun K hK => ?_) AllReadyH.nil))
              · go_simp
                go_at_call 15
                refine (file_b w z28 w.heap.size a len cap (k1 + 2) hs (by omega) w1.heap.size (.slice fa F.length fc) F (HF.out z28 hx) HO.out).mono ?_
                rintro e z29 ⟨y, k3, hk3, rfl, hs2, hst⟩
                go_wp2_with fail
                replace hs := hs2
                replace tltb := Nat.lt_of_lt_of_le tltb hst.size
                replace tb := tb.beside hnb hst
                replace hx := hx.trans hst
                have hc := (tD.beside hDb hx).blk.c1.1
                refine hK.out _ _ hc (fun _ => ?_)
                clear hK K hst hs2
                refine wpAnyH_ready (rs := [8]) (by kernel_rfl) (by simp) ?_
                refine (AllReadyH.cons rfl (fun K hK => ?_) AllReadyH.nil)
                · go_simp
                  obtain ⟨z30, hz30⟩ : ∃ z30, z30 = z29.alloc (.cells #[.int .i64 0, .int .i64 0] 36) := ⟨_, rfl⟩
                  have hst : Beside w.heap.size z29 z30 := by rw [hz30]; exact (Beside.refl _ _).alloc _
                  obtain ⟨Pa, hPa⟩ : ∃ P, P = z29.heap.size := ⟨_, rfl⟩
                  have ta : TB 36 z30 Pa [.int .i64 0, .int .i64 0] := by rw [hz30, hPa]; exact TB.new1 z29 _ _ _ rfl
                  have hna : Pa ≠ w.heap.size := by have := hs.lt; omega
                  have h0a : w.heap.size ≤ Pa := by have := hs.lt; omega
                  have hda : wr.heap.size ≤ Pa := by have := hx.size; omega
                  replace hs : SrcAt w z30 w.heap.size a len cap k3 := by rw [hz30]; exact hs.alloc _
                  replace hx := hx.trans hst
                  replace tb := tb.beside hnb hst
                  have hab : Pa ≠ Pb := by have := tltb; have := hPa; omega
                  clear tltb
                  rw [← hz30, ← hPa]
                  have hc := (tD.beside hDb hx).blk.c1.1
                  refine hK.out _ _ hc (fun _ => ?_)
                  clear hK K hst hz30 hPa
                  obtain ⟨a0, a1, af0, af1⟩ := ta.blk.c2
                  have tb1 : TB 36 ((z30.setCell ⟨Pa, 0, none⟩ (.int .i64 x.dev)).setCell ⟨Pa, 1, none⟩ (.int .i64 x.ino)) Pb [.int .i64 0, .int .i64 0] := (tb.other hab.symm _ _).other hab.symm _ _
                  obtain ⟨b0, b1, bf0, bf1⟩ := tb1.blk.c2
                  have ta1 : TB 36 ((z30.setCell ⟨Pa, 0, none⟩ (.int .i64 x.dev)).setCell ⟨Pa, 1, none⟩ (.int .i64 x.ino)) Pa [.int .i64 x.dev, .int .i64 x.ino] := (ta.set 0 (.int .i64 x.dev)).set 1 (.int .i64 x.ino)
                  have hs1 := (hs.setNew h0a hna 0 (.int .i64 x.dev)).setNew h0a hna 1 (.int .i64 x.ino)
                  have hs2 := (hs1.setNew h0b hnb 0 (.int .i64 y.dev)).setNew h0b hnb 1 (.int .i64 y.ino)
                  have hx1 := (hx.setNew hda 0 (.int .i64 x.dev)).setNew hda 1 (.int .i64 x.ino)
                  have hx2 := (hx1.setNew hdb 0 (.int .i64 y.dev)).setNew hdb 1 (.int .i64 y.ino)
                  have HFN := Lib.hid (And.intro (show k3 ≤ k' + 10 by omega) (And.intro (show TB 36 ((((z30.setCell ⟨Pa, 0, none⟩ (.int .i64 x.dev)).setCell ⟨Pa, 1, none⟩ (.int .i64 x.ino)).setCell ⟨Pb, 0, none⟩ (.int .i64 y.dev)).setCell ⟨Pb, 1, none⟩ (.int .i64 y.ino)) Pa [.int .i64 x.dev, .int .i64 x.ino] from (ta1.other hab _ _).other hab _ _) (And.intro (show TB 36 ((((z30.setCell ⟨Pa, 0, none⟩ (.int .i64 x.dev)).setCell ⟨Pa, 1, none⟩ (.int .i64 x.ino)).setCell ⟨Pb, 0, none⟩ (.int .i64 y.dev)).setCell ⟨Pb, 1, none⟩ (.int .i64 y.ino)) Pb [.int .i64 y.dev, .int .i64 y.ino] from (tb1.set 0 (.int .i64 y.dev)).set 1 (.int .i64 y.ino)) (And.intro hs2 hx2))))
                  have hc1 := (tD.beside hDb hx1).blk.c1.1
                  have hc2 := (tD.beside hDb hx2).blk.c1.1
                  clear ta tb tb1 ta1 hs1 hs2 hx1 hx2 hs hx
                  refine wpAnyH_ready (rs := [10]) (by kernel_rfl) (by simp) ?_
                  refine AllReadyH.cons rfl (fun K hK => ?_) AllReadyH.nil
                  go_simp
                  refine hK.out _ _ hc1 (fun _ => ?_)
                  clear hK K
                  refine wpAnyH_ready (rs := [11]) (by kernel_rfl) (by simp) ?_
                  refine AllReadyH.cons rfl (fun K hK => ?_) AllReadyH.nil
                  go_simp
                  refine hK.out _ _ hc1 (fun _ => ?_)
                  clear hK K
                  refine wpAnyH_ready (rs := [12]) (by kernel_rfl) (by simp) ?_
                  refine AllReadyH.cons rfl (fun K hK => ?_) AllReadyH.nil
                  go_simp
                  refine hK.out _ _ hc2 (fun _ => ?_)
                  clear hK K
                  refine wpAnyH_done (by kernel_rfl) ?_ _
                  go_simp
                  clear a0 a1 af0 af1 b0 b1 bf0 bf1 hc1 hc2
                  go_wp2_with fail
                  go_meet
                  exact ⟨_, _, x, nm, y, k3, rfl, rfl, rfl, HFN.out⟩
              · go_simp
                obtain ⟨z31, hz31⟩ : ∃ z31, z31 = z28.alloc (.cells #[.int .i64 0, .int .i64 0] 36) := ⟨_, rfl⟩
                have hst : Beside w.heap.size z28 z31 := by rw [hz31]; exact (Beside.refl _ _).alloc _
                obtain ⟨Pa, hPa⟩ : ∃ P, P = z28.heap.size := ⟨_, rfl⟩
                have ta : TB 36 z31 Pa [.int .i64 0, .int .i64 0] := by rw [hz31, hPa]; exact TB.new1 z28 _ _ _ rfl
                have hna : Pa ≠ w.heap.size := by have := hs.lt; omega
                have h0a : w.heap.size ≤ Pa := by have := hs.lt; omega
                have hda : wr.heap.size ≤ Pa := by have := hx.size; omega
                replace hs : SrcAt w z31 w.heap.size a len cap (k1 + 2) := by rw [hz31]; exact hs.alloc _
                replace hx := hx.trans hst
                replace tb := tb.beside hnb hst
                have hab : Pa ≠ Pb := by have := tltb; have := hPa; omega
                clear tltb
                rw [← hz31, ← hPa]
                have hc := (tD.beside hDb hx).blk.c1.1
                refine hK.out _ _ hc (fun _ => ?_)
                clear hK K hst hz31 hPa
                refine wpAnyH_ready (rs := [7]) (by kernel_rfl) (by simp) ?_
                refine (AllReadyH.cons rfl (fun K hK => ?_) AllReadyH.nil)
                · go_simp
                  go_at_call 15
                  refine (file_b w z31 w.heap.size a len cap (k1 + 2) hs (by omega) w1.heap.size (.slice fa F.length fc) F (HF.out z31 hx) HO.out).mono ?_
                  rintro e z32 ⟨y, k3, hk3, rfl, hs2, hst⟩
                  go_wp2_with fail
                  replace hs := hs2
                  replace ta := ta.beside hna hst
                  replace tb := tb.beside hnb hst
                  replace hx := hx.trans hst
                  have hc := (tD.beside hDb hx).blk.c1.1
                  refine hK.out _ _ hc (fun _ => ?_)
                  clear hK K hst hs2
                  obtain ⟨a0, a1, af0, af1⟩ := ta.blk.c2
                  have tb1 : TB 36 ((z32.setCell ⟨Pa, 0, none⟩ (.int .i64 x.dev)).setCell ⟨Pa, 1, none⟩ (.int .i64 x.ino)) Pb [.int .i64 0, .int .i64 0] := (tb.other hab.symm _ _).other hab.symm _ _
                  obtain ⟨b0, b1, bf0, bf1⟩ := tb1.blk.c2
                  have ta1 : TB 36 ((z32.setCell ⟨Pa, 0, none⟩ (.int .i64 x.dev)).setCell ⟨Pa, 1, none⟩ (.int .i64 x.ino)) Pa [.int .i64 x.dev, .int .i64 x.ino] := (ta.set 0 (.int .i64 x.dev)).set 1 (.int .i64 x.ino)
                  have hs1 := (hs.setNew h0a hna 0 (.int .i64 x.dev)).setNew h0a hna 1 (.int .i64 x.ino)
                  have hs2 := (hs1.setNew h0b hnb 0 (.int .i64 y.dev)).setNew h0b hnb 1 (.int .i64 y.ino)
                  have hx1 := (hx.setNew hda 0 (.int .i64 x.dev)).setNew hda 1 (.int .i64 x.ino)
                  have hx2 := (hx1.setNew hdb 0 (.int .i64 y.dev)).setNew hdb 1 (.int .i64 y.ino)
                  have HFN := Lib.hid (And.intro (show k3 ≤ k' + 10 by omega) (And.intro (show TB 36 ((((z32.setCell ⟨Pa, 0, none⟩ (.int .i64 x.dev)).setCell ⟨Pa, 1, none⟩ (.int .i64 x.ino)).setCell ⟨Pb, 0, none⟩ (.int .i64 y.dev)).setCell ⟨Pb, 1, none⟩ (.int .i64 y.ino)) Pa [.int .i64 x.dev, .int .i64 x.ino] from (ta1.other hab _ _).other hab _ _) (And.intro (show TB 36 ((((z32.setCell ⟨Pa, 0, none⟩ (.int .i64 x.dev)).setCell ⟨Pa, 1, none⟩ (.int .i64 x.ino)).setCell ⟨Pb, 0, none⟩ (.int .i64 y.dev)).setCell ⟨Pb, 1, none⟩ (.int .i64 y.ino)) Pb [.int .i64 y.dev, .int .i64 y.ino] from (tb1.set 0 (.int .i64 y.dev)).set 1 (.int .i64 y.ino)) (And.intro hs2 hx2))))
                  have hc1 := (tD.beside hDb hx1).blk.c1.1
                  have hc2 := (tD.beside hDb hx2).blk.c1.1
                  clear ta tb tb1 ta1 hs1 hs2 hx1 hx2 hs hx
                  refine wpAnyH_ready (rs := [10]) (by kernel_rfl) (by simp) ?_
                  refine AllReadyH.cons rfl (fun K hK => ?_) AllReadyH.nil
                  go_simp
                  refine hK.out _ _ hc1 (fun _ => ?_)
                  clear hK K
                  refine wpAnyH_ready (rs := [11]) (by kernel_rfl) (by simp) ?_
                  refine AllReadyH.cons rfl (fun K hK => ?_) AllReadyH.nil
                  go_simp
                  refine hK.out _ _ hc1 (fun _ => ?_)
                  clear hK K
                  refine wpAnyH_ready (rs := [12]) (by kernel_rfl) (by simp) ?_
                  refine AllReadyH.cons rfl (fun K hK => ?_) AllReadyH.nil
                  go_simp
                  refine hK.out _ _ hc2 (fun _ => ?_)
                  clear hK K
                  refine wpAnyH_done (by kernel_rfl) ?_ _
                  go_simp
                  clear a0 a1 af0 af1 b0 b1 bf0 bf1 hc1 hc2
                  go_wp2_with fail
                  go_meet
                  exact ⟨_, _, x, nm, y, k3, rfl, rfl, rfl, HFN.out⟩
            · go_simp
              obtain ⟨z33, hz33⟩ : ∃ z33, z33 = z27.alloc (.cells #[.int .i64 0, .int .i64 0] 36) := ⟨_, rfl⟩
              have hst : Beside w.heap.size z27 z33 := by rw [hz33]; exact (Beside.refl _ _).alloc _
              obtain ⟨Pa, hPa⟩ : ∃ P, P = z27.heap.size := ⟨_, rfl⟩
              have ta : TB 36 z33 Pa [.int .i64 0, .int .i64 0] := by rw [hz33, hPa]; exact TB.new1 z27 _ _ _ rfl
              have hna : Pa ≠ w.heap.size := by have := hs.lt; omega
              have h0a : w.heap.size ≤ Pa := by have := hs.lt; omega
              have hda : wr.heap.size ≤ Pa := by have := hx.size; omega
              replace hs : SrcAt w z33 w.heap.size a len cap k1 := by rw [hz33]; exact hs.alloc _
              replace hx := hx.trans hst
              replace tb := tb.beside hnb hst
              have hab : Pa ≠ Pb := by have := tltb; have := hPa; omega
              clear tltb
              rw [← hz33, ← hPa]
              have hc := (tD.beside hDb hx).blk.c1.1
              refine hK.out _ _ hc (fun _ => ?_)
              clear hK K hst hz33 hPa
              refine wpAnyH_ready (rs := [4]) (by kernel_rfl) (by simp) ?_
              refine (AllReadyH.cons rfl (fun K hK => ?_) AllReadyH.nil)
              · go_simp
                go_at_call 16
                refine (name_b w z33 w.heap.size a len cap k1 hs (by omega)).mono ?_
                rintro e z34 ⟨nm, -, rfl, hs2, hst⟩
                go_wp2_with fail
                replace hs := hs2
                replace ta := ta.beside hna hst
                replace tb := tb.beside hnb hst
                replace hx := hx.trans hst
                have hc := (tD.beside hDb hx).blk.c1.1
                refine hK.out _ _ hc (fun _ => ?_)
                clear hK K hst hs2
                refine wpAnyH_ready (rs := [7]) (by kernel_rfl) (by simp) ?_
                refine (AllReadyH.cons rfl (fun K hK => ?_) AllReadyH.nil)
                · go_simp
                  go_at_call 15
                  refine (file_b w z34 w.heap.size a len cap (k1 + 2) hs (by omega) w1.heap.size (.slice fa F.length fc) F (HF.out z34 hx) HO.out).mono ?_
                  rintro e z35 ⟨y, k3, hk3, rfl, hs2, hst⟩
                  go_wp2_with fail
                  replace hs := hs2
                  replace ta := ta.beside hna hst
                  replace tb := tb.beside hnb hst
                  replace hx := hx.trans hst
                  have hc := (tD.beside hDb hx).blk.c1.1
                  refine hK.out _ _ hc (fun _ => ?_)
                  clear hK K hst hs2
                  obtain ⟨a0, a1, af0, af1⟩ := ta.blk.c2
                  have tb1 : TB 36 ((z35.setCell ⟨Pa, 0, none⟩ (.int .i64 x.dev)).setCell ⟨Pa, 1, none⟩ (.int .i64 x.ino)) Pb [.int .i64 0, .int .i64 0] := (tb.other hab.symm _ _).other hab.symm _ _
                  obtain ⟨b0, b1, bf0, bf1⟩ := tb1.blk.c2
                  have ta1 : TB 36 ((z35.setCell ⟨Pa, 0, none⟩ (.int .i64 x.dev)).setCell ⟨Pa, 1, none⟩ (.int .i64 x.ino)) Pa [.int .i64 x.dev, .int .i64 x.ino] := (ta.set 0 (.int .i64 x.dev)).set 1 (.int .i64 x.ino)
                  have hs1 := (hs.setNew h0a hna 0 (.int .i64 x.dev)).setNew h0a hna 1 (.int .i64 x.ino)
                  have hs2 := (hs1.setNew h0b hnb 0 (.int .i64 y.dev)).setNew h0b hnb 1 (.int .i64 y.ino)
                  have hx1 := (hx.setNew hda 0 (.int .i64 x.dev)).setNew hda 1 (.int .i64 x.ino)
                  have hx2 := (hx1.setNew hdb 0 (.int .i64 y.dev)).setNew hdb 1 (.int .i64 y.ino)
                  have HFN := Lib.hid (And.intro (show k3 ≤ k' + 10 by omega) (And.intro (show TB 36 ((((z35.setCell ⟨Pa, 0, none⟩ (.int .i64 x.dev)).setCell ⟨Pa, 1, none⟩ (.int .i64 x.ino)).setCell ⟨Pb, 0, none⟩ (.int .i64 y.dev)).setCell ⟨Pb, 1, none⟩ (.int .i64 y.ino)) Pa [.int .i64 x.dev, .int .i64 x.ino] from (ta1.other hab _ _).other hab _ _) (And.intro (show TB 36 ((((z35.setCell ⟨Pa, 0, none⟩ (.int .i64 x.dev)).setCell ⟨Pa, 1, none⟩ (.int .i64 x.ino)).setCell ⟨Pb, 0, none⟩ (.int .i64 y.dev)).setCell ⟨Pb, 1, none⟩ (.int .i64 y.ino)) Pb [.int .i64 y.dev, .int .i64 y.ino] from (tb1.set 0 (.int .i64 y.dev)).set 1 (.int .i64 y.ino)) (And.intro hs2 hx2))))
                  have hc1 := (tD.beside hDb hx1).blk.c1.1
                  have hc2 := (tD.beside hDb hx2).blk.c1.1
                  clear ta tb tb1 ta1 hs1 hs2 hx1 hx2 hs hx
                  refine wpAnyH_ready (rs := [10]) (by kernel_rfl) (by simp) ?_
                  refine AllReadyH.cons rfl (fun K hK => ?_) AllReadyH.nil
                  go_simp
                  refine hK.out _ _ hc1 (fun _ => ?_)
                  clear hK K
                  refine wpAnyH_ready (rs := [11]) (by kernel_rfl) (by simp) ?_
                  refine AllReadyH.cons rfl (fun K hK => ?_) AllReadyH.nil
                  go_simp
                  refine hK.out _ _ hc1 (fun _ => ?_)
                  clear hK K
                  refine wpAnyH_ready (rs := [12]) (by kernel_rfl) (by simp) ?_
                  refine AllReadyH.cons rfl (fun K hK => ?_) AllReadyH.nil
                  go_simp
                  refine hK.out _ _ hc2 (fun _ => ?_)
                  clear hK K
                  refine wpAnyH_done (by kernel_rfl) ?_ _
                  go_simp
                  clear a0 a1 af0 af1 b0 b1 bf0 bf1 hc1 hc2
                  go_wp2_with fail
                  go_meet
                  exact ⟨_, _, x, nm, y, k3, rfl, rfl, rfl, HFN.out⟩
        · go_simp
          obtain ⟨z36, hz36⟩ : ∃ z36, z36 = z0.alloc (.cells #[.int .i64 0, .int .i64 0] 36) := ⟨_, rfl⟩
          have hst : Beside w.heap.size z0 z36 := by rw [hz36]; exact (Beside.refl _ _).alloc _
          obtain ⟨Pa, hPa⟩ : ∃ P, P = z0.heap.size := ⟨_, rfl⟩
          have ta : TB 36 z36 Pa [.int .i64 0, .int .i64 0] := by rw [hz36, hPa]; exact TB.new1 z0 _ _ _ rfl
          have hna : Pa ≠ w.heap.size := by have := hs.lt; omega
          have h0a : w.heap.size ≤ Pa := by have := hs.lt; omega
          have hda : wr.heap.size ≤ Pa := by have := hx.size; omega
          replace hs : SrcAt w z36 w.heap.size a len cap k' := by rw [hz36]; exact hs.alloc _
          replace hx := hx.trans hst
          have tlta : Pa < z36.heap.size := ta.lt
          rw [← hz36, ← hPa]
          have hc := (tD.beside hDb hx).blk.c1.1
          refine hK.out _ _ hc (fun _ => ?_)
          clear hK K hst hz36 hPa
          refine wpAnyH_ready (rs := [2, 9]) (by kernel_rfl) (by simp) ?_
          refine (AllReadyH.cons rfl (fun K hK => ?_) (AllReadyH.cons rfl (fun K hK => ?_) AllReadyH.nil))
          · go_simp
            go_at_call 15
            refine (file_b w z36 w.heap.size a len cap k' hs (by omega) w1.heap.size (.slice fa F.length fc) F (HF.out z36 hx) HO.out).mono ?_
            rintro e z37 ⟨x, k1, hk1, rfl, hs2, hst⟩
            go_wp2_with fail
            replace hs := hs2
            replace tlta := Nat.lt_of_lt_of_le tlta hst.size
            replace ta := ta.beside hna hst
            replace hx := hx.trans hst
            have hc := (tD.beside hDb hx).blk.c1.1
            refine hK.out _ _ hc (fun _ => ?_)
            clear hK K hst hs2
            refine wpAnyH_ready (rs := [4, 9]) (by kernel_rfl) (by simp) ?_
            refine (AllReadyH.cons rfl (fun K hK => ?_) (AllReadyH.cons rfl (fun K hK => ?_) AllReadyH.nil))
            · go_simp
              go_at_call 16
              refine (name_b w z37 w.heap.size a len cap k1 hs (by omega)).mono ?_
              rintro e z38 ⟨nm, -, rfl, hs2, hst⟩
              go_wp2_with fail
              replace hs := hs2
              replace tlta := Nat.lt_of_lt_of_le tlta hst.size
              replace ta := ta.beside hna hst
              replace hx := hx.trans hst
              have hc := (tD.beside hDb hx).blk.c1.1
              refine hK.out _ _ hc (fun _ => ?_)
              clear hK K hst hs2
              refine wpAnyH_ready (rs := [7, 9]) (by kernel_rfl) (by simp) ?_
              refine (AllReadyH.cons rfl (fun K hK => ?_) (AllReadyH.cons rfl (fun K hK => ?_) AllReadyH.nil))
              · go_simp
                go_at_call 15
                refine (file_b w z38 w.heap.size a len cap (k1 + 2) hs (by omega) w1.heap.size (.slice fa F.length fc) F (HF.out z38 hx) HO.out).mono ?_
                rintro e z39 ⟨y, k3, hk3, rfl, hs2, hst⟩
                go_wp2_with fail
                replace hs := hs2
                replace tlta := Nat.lt_of_lt_of_le tlta hst.size
                replace ta := ta.beside hna hst
                replace hx := hx.trans hst
                have hc := (tD.beside hDb hx).blk.c1.1
                refine hK.out _ _ hc (fun _ => ?_)
                clear hK K hst hs2
                refine wpAnyH_ready (rs := [9]) (by kernel_rfl) (by simp) ?_
                refine (AllReadyH.cons rfl (fun K hK => ?_) AllReadyH.nil)
                · go_simp
                  obtain ⟨z40, hz40⟩ : ∃ z40, z40 = z39.alloc (.cells #[.int .i64 0, .int .i64 0] 36) := ⟨_, rfl⟩
                  have hst : Beside w.heap.size z39 z40 := by rw [hz40]; exact (Beside.refl _ _).alloc _
                  obtain ⟨Pb, hPb⟩ : ∃ P, P = z39.heap.size := ⟨_, rfl⟩
                  have tb : TB 36 z40 Pb [.int .i64 0, .int .i64 0] := by rw [hz40, hPb]; exact TB.new1 z39 _ _ _ rfl
                  have hnb : Pb ≠ w.heap.size := by have := hs.lt; omega
                  have h0b : w.heap.size ≤ Pb := by have := hs.lt; omega
                  have hdb : wr.heap.size ≤ Pb := by have := hx.size; omega
                  replace hs : SrcAt w z40 w.heap.size a len cap k3 := by rw [hz40]; exact hs.alloc _
                  replace hx := hx.trans hst
                  replace ta := ta.beside hna hst
                  have hab : Pa ≠ Pb := by have := tlta; have := hPb; omega
                  clear tlta
                  rw [← hz40, ← hPb]
                  have hc := (tD.beside hDb hx).blk.c1.1
                  refine hK.out _ _ hc (fun _ => ?_)
                  clear hK K hst hz40 hPb
                  obtain ⟨a0, a1, af0, af1⟩ := ta.blk.c2
                  have tb1 : TB 36 ((z40.setCell ⟨Pa, 0, none⟩ (.int .i64 x.dev)).setCell ⟨Pa, 1, none⟩ (.int .i64 x.ino)) Pb [.int .i64 0, .int .i64 0] := (tb.other hab.symm _ _).other hab.symm _ _
                  obtain ⟨b0, b1, bf0, bf1⟩ := tb1.blk.c2
                  have ta1 : TB 36 ((z40.setCell ⟨Pa, 0, none⟩ (.int .i64 x.dev)).setCell ⟨Pa, 1, none⟩ (.int .i64 x.ino)) Pa [.int .i64 x.dev, .int .i64 x.ino] := (ta.set 0 (.int .i64 x.dev)).set 1 (.int .i64 x.ino)
                  have hs1 := (hs.setNew h0a hna 0 (.int .i64 x.dev)).setNew h0a hna 1 (.int .i64 x.ino)
                  have hs2 := (hs1.setNew h0b hnb 0 (.int .i64 y.dev)).setNew h0b hnb 1 (.int .i64 y.ino)
                  have hx1 := (hx.setNew hda 0 (.int .i64 x.dev)).setNew hda 1 (.int .i64 x.ino)
                  have hx2 := (hx1.setNew hdb 0 (.int .i64 y.dev)).setNew hdb 1 (.int .i64 y.ino)
                  have HFN := Lib.hid (And.intro (show k3 ≤ k' + 10 by omega) (And.intro (show TB 36 ((((z40.setCell ⟨Pa, 0, none⟩ (.int .i64 x.dev)).setCell ⟨Pa, 1, none⟩ (.int .i64 x.ino)).setCell ⟨Pb, 0, none⟩ (.int .i64 y.dev)).setCell ⟨Pb, 1, none⟩ (.int .i64 y.ino)) Pa [.int .i64 x.dev, .int .i64 x.ino] from (ta1.other hab _ _).other hab _ _) (And.intro (show TB 36 ((((z40.setCell ⟨Pa, 0, none⟩ (.int .i64 x.dev)).setCell ⟨Pa, 1, none⟩ (.int .i64 x.ino)).setCell ⟨Pb, 0, none⟩ (.int .i64 y.dev)).setCell ⟨Pb, 1, none⟩ (.int .i64 y.ino)) Pb [.int .i64 y.dev, .int .i64 y.ino] from (tb1.set 0 (.int .i64 y.dev)).set 1 (.int .i64 y.ino)) (And.intro hs2 hx2))))
                  have hc1 := (tD.beside hDb hx1).blk.c1.1
                  have hc2 := (tD.beside hDb hx2).blk.c1.1
                  clear ta tb tb1 ta1 hs1 hs2 hx1 hx2 hs hx
                  refine wpAnyH_ready (rs := [10]) (by kernel_rfl) (by simp) ?_
                  refine AllReadyH.cons rfl (fun K hK => ?_) AllReadyH.nil
                  go_simp
                  refine hK.out _ _ hc1 (fun _ => ?_)
                  clear hK K
                  refine wpAnyH_ready (rs := [11]) (by kernel_rfl) (by simp) ?_
                  refine AllReadyH.cons rfl (fun K hK => ?_) AllReadyH.nil
                  go_simp
                  refine hK.out _ _ hc1 (fun _ => ?_)
                  clear hK K
                  refine wpAnyH_ready (rs := [12]) (by kernel_rfl) (by simp) ?_
                  refine AllReadyH.cons rfl (fun K hK => ?_) AllReadyH.nil
                  go_simp
                  refine hK.out _ _ hc2 (fun _ => ?_)
                  clear hK K
                  refine wpAnyH_done (by kernel_rfl) ?_ _
                  go_simp
                  clear a0 a1 af0 af1 b0 b1 bf0 bf1 hc1 hc2
                  go_wp2_with fail
                  go_meet
                  exact ⟨_, _, x, nm, y, k3, rfl, rfl, rfl, HFN.out⟩
              · go_simp
                obtain ⟨z41, hz41⟩ : ∃ z41, z41 = z38.alloc (.cells #[.int .i64 0, .int .i64 0] 36) := ⟨_, rfl⟩
                have hst : Beside w.heap.size z38 z41 := by rw [hz41]; exact (Beside.refl _ _).alloc _
                obtain ⟨Pb, hPb⟩ : ∃ P, P = z38.heap.size := ⟨_, rfl⟩
                have tb : TB 36 z41 Pb [.int .i64 0, .int .i64 0] := by rw [hz41, hPb]; exact TB.new1 z38 _ _ _ rfl
                have hnb : Pb ≠ w.heap.size := by have := hs.lt; omega
                have h0b : w.heap.size ≤ Pb := by have := hs.lt; omega
                have hdb : wr.heap.size ≤ Pb := by have := hx.size; omega
                replace hs : SrcAt w z41 w.heap.size a len cap (k1 + 2) := by rw [hz41]; exact hs.alloc _
                replace hx := hx.trans hst
                replace ta := ta.beside hna hst
                have hab : Pa ≠ Pb := by have := tlta; have := hPb; omega
                clear tlta
                rw [← hz41, ← hPb]
                have hc := (tD.beside hDb hx).blk.c1.1
                refine hK.out _ _ hc (fun _ => ?_)
                clear hK K hst hz41 hPb
                refine wpAnyH_ready (rs := [7]) (by kernel_rfl) (by simp) ?_
                refine (AllReadyH.cons rfl (fun K hK => ?_) AllReadyH.nil)
                · go_simp
                  go_at_call 15
                  refine (file_b w z41 w.heap.size a len cap (k1 + 2) hs (by omega) w1.heap.size (.slice fa F.length fc) F (HF.out z41 hx) HO.out).mono ?_
                  rintro e z42 ⟨y, k3, hk3, rfl, hs2, hst⟩
                  go_wp2_with fail
                  replace hs := hs2
                  replace ta := ta.beside hna hst
                  replace tb := tb.beside hnb hst
                  replace hx := hx.trans hst
                  have hc := (tD.beside hDb hx).blk.c1.1
                  refine hK.out _ _ hc (fun _ => ?_)
                  clear hK K hst hs2
                  obtain ⟨a0, a1, af0, af1⟩ := ta.blk.c2
                  have tb1 : TB 36 ((z42.setCell ⟨Pa, 0, none⟩ (.int .i64 x.dev)).setCell ⟨Pa, 1, none⟩ (.int .i64 x.ino)) Pb [.int .i64 0, .int .i64 0] := (tb.other hab.symm _ _).other hab.symm _ _
                  obtain ⟨b0, b1, bf0, bf1⟩ := tb1.blk.c2
                  have ta1 : TB 36 ((z42.setCell ⟨Pa, 0, none⟩ (.int .i64 x.dev)).setCell ⟨Pa, 1, none⟩ (.int .i64 x.ino)) Pa [.int .i64 x.dev, .int .i64 x.ino] := (ta.set 0 (.int .i64 x.dev)).set 1 (.int .i64 x.ino)
                  have hs1 := (hs.setNew h0a hna 0 (.int .i64 x.dev)).setNew h0a hna 1 (.int .i64 x.ino)
                  have hs2 := (hs1.setNew h0b hnb 0 (.int .i64 y.dev)).setNew h0b hnb 1 (.int .i64 y.ino)
                  have hx1 := (hx.setNew hda 0 (.int .i64 x.dev)).setNew hda 1 (.int .i64 x.ino)
                  have hx2 := (hx1.setNew hdb 0 (.int .i64 y.dev)).setNew hdb 1 (.int .i64 y.ino)
                  have HFN := Lib.hid (And.intro (show k3 ≤ k' + 10 by omega) (And.intro (show TB 36 ((((z42.setCell ⟨Pa, 0, none⟩ (.int .i64 x.dev)).setCell ⟨Pa, 1, none⟩ (.int .i64 x.ino)).setCell ⟨Pb, 0, none⟩ (.int .i64 y.dev)).setCell ⟨Pb, 1, none⟩ (.int .i64 y.ino)) Pa [.int .i64 x.dev, .int .i64 x.ino] from (ta1.other hab _ _).other hab _ _) (And.intro (show TB 36 ((((z42.setCell ⟨Pa, 0, none⟩ (.int .i64 x.dev)).setCell ⟨Pa, 1, none⟩ (.int .i64 x.ino)).setCell ⟨Pb, 0, none⟩ (.int .i64 y.dev)).setCell ⟨Pb, 1, none⟩ (.int .i64 y.ino)) Pb [.int .i64 y.dev, .int .i64 y.ino] from (tb1.set 0 (.int .i64 y.dev)).set 1 (.int .i64 y.ino)) (And.intro hs2 hx2))))
                  have hc1 := (tD.beside hDb hx1).blk.c1.1
                  have hc2 := (tD.beside hDb hx2).blk.c1.1
                  clear ta tb tb1 ta1 hs1 hs2 hx1 hx2 hs hx
                  refine wpAnyH_ready (rs := [10]) (by kernel_rfl) (by simp) ?_
                  refine AllReadyH.cons rfl (fun K hK => ?_) AllReadyH.nil
                  go_simp
                  refine hK.out _ _ hc1 (fun _ => ?_)
                  clear hK K
                  refine wpAnyH_ready (rs := [11]) (by kernel_rfl) (by simp) ?_
                  refine AllReadyH.cons rfl (fun K hK => ?_) AllReadyH.nil
                  go_simp
                  refine hK.out _ _ hc1 (fun _ => ?_)
                  clear hK K
                  refine wpAnyH_ready (rs := [12]) (by kernel_rfl) (by simp) ?_
                  refine AllReadyH.cons rfl (fun K hK => ?_) AllReadyH.nil
                  go_simp
                  refine hK.out _ _ hc2 (fun _ => ?_)
                  clear hK K
                  refine wpAnyH_done (by kernel_rfl) ?_ _
                  go_simp
                  clear a0 a1 af0 af1 b0 b1 bf0 bf1 hc1 hc2
                  go_wp2_with fail
                  go_meet
                  exact ⟨_, _, x, nm, y, k3, rfl, rfl, rfl, HFN.out⟩
            · go_simp
              obtain ⟨z43, hz43⟩ : ∃ z43, z43 = z37.alloc (.cells #[.int .i64 0, .int .i64 0] 36) := ⟨_, rfl⟩
              have hst : Beside w.heap.size z37 z43 := by rw [hz43]; exact (Beside.refl _ _).alloc _
              obtain ⟨Pb, hPb⟩ : ∃ P, P = z37.heap.size := ⟨_, rfl⟩
              have tb : TB 36 z43 Pb [.int .i64 0, .int .i64 0] := by rw [hz43, hPb]; exact TB.new1 z37 _ _ _ rfl
              have hnb : Pb ≠ w.heap.size := by have := hs.lt; omega
              have h0b : w.heap.size ≤ Pb := by have := hs.lt; omega
              have hdb : wr.heap.size ≤ Pb := by have := hx.size; omega
              replace hs : SrcAt w z43 w.heap.size a len cap k1 := by rw [hz43]; exact hs.alloc _
              replace hx := hx.trans hst
              replace ta := ta.beside hna hst
              have hab : Pa ≠ Pb := by have := tlta; have := hPb; omega
              clear tlta
              rw [← hz43, ← hPb]
              have hc := (tD.beside hDb hx).blk.c1.1
              refine hK.out _ _ hc (fun _ => ?_)
              clear hK K hst hz43 hPb
              refine wpAnyH_ready (rs := [4]) (by kernel_rfl) (by simp) ?_
              refine (AllReadyH.cons rfl (fun K hK => ?_) AllReadyH.nil)
              · go_simp
                go_at_call 16
                refine (name_b w z43 w.heap.size a len cap k1 hs (by omega)).mono ?_
                rintro e z44 ⟨nm, -, rfl, hs2, hst⟩
                go_wp2_with fail
                replace hs := hs2
                replace ta := ta.beside hna hst
                replace tb := tb.beside hnb hst
                replace hx := hx.trans hst
                have hc := (tD.beside hDb hx).blk.c1.1
                refine hK.out _ _ hc (fun _ => ?_)
                clear hK K hst hs2
                refine wpAnyH_ready (rs := [7]) (by kernel_rfl) (by simp) ?_
                refine (AllReadyH.cons rfl (fun K hK => ?_) AllReadyH.nil)
                · go_simp
                  go_at_call 15
                  refine (file_b w z44 w.heap.size a len cap (k1 + 2) hs (by omega) w1.heap.size (.slice fa F.length fc) F (HF.out z44 hx) HO.out).mono ?_
                  rintro e z45 ⟨y, k3, hk3, rfl, hs2, hst⟩
                  go_wp2_with fail
                  replace hs := hs2
                  replace ta := ta.beside hna hst
                  replace tb := tb.beside hnb hst
                  replace hx := hx.trans hst
                  have hc := (tD.beside hDb hx).blk.c1.1
                  refine hK.out _ _ hc (fun _ => ?_)
                  clear hK K hst hs2
                  obtain ⟨a0, a1, af0, af1⟩ := ta.blk.c2
                  have tb1 : TB 36 ((z45.setCell ⟨Pa, 0, none⟩ (.int .i64 x.dev)).setCell ⟨Pa, 1, none⟩ (.int .i64 x.ino)) Pb [.int .i64 0, .int .i64 0] := (tb.other hab.symm _ _).other hab.symm _ _
                  obtain ⟨b0, b1, bf0, bf1⟩ := tb1.blk.c2
                  have ta1 : TB 36 ((z45.setCell ⟨Pa, 0, none⟩ (.int .i64 x.dev)).setCell ⟨Pa, 1, none⟩ (.int .i64 x.ino)) Pa [.int .i64 x.dev, .int .i64 x.ino] := (ta.set 0 (.int .i64 x.dev)).set 1 (.int .i64 x.ino)
                  have hs1 := (hs.setNew h0a hna 0 (.int .i64 x.dev)).setNew h0a hna 1 (.int .i64 x.ino)
                  have hs2 := (hs1.setNew h0b hnb 0 (.int .i64 y.dev)).setNew h0b hnb 1 (.int .i64 y.ino)
                  have hx1 := (hx.setNew hda 0 (.int .i64 x.dev)).setNew hda 1 (.int .i64 x.ino)
                  have hx2 := (hx1.setNew hdb 0 (.int .i64 y.dev)).setNew hdb 1 (.int .i64 y.ino)
                  have HFN := Lib.hid (And.intro (show k3 ≤ k' + 10 by omega) (And.intro (show TB 36 ((((z45.setCell ⟨Pa, 0, none⟩ (.int .i64 x.dev)).setCell ⟨Pa, 1, none⟩ (.int .i64 x.ino)).setCell ⟨Pb, 0, none⟩ (.int .i64 y.dev)).setCell ⟨Pb, 1, none⟩ (.int .i64 y.ino)) Pa [.int .i64 x.dev, .int .i64 x.ino] from (ta1.other hab _ _).other hab _ _) (And.intro (show TB 36 ((((z45.setCell ⟨Pa, 0, none⟩ (.int .i64 x.dev)).setCell ⟨Pa, 1, none⟩ (.int .i64 x.ino)).setCell ⟨Pb, 0, none⟩ (.int .i64 y.dev)).setCell ⟨Pb, 1, none⟩ (.int .i64 y.ino)) Pb [.int .i64 y.dev, .int .i64 y.ino] from (tb1.set 0 (.int .i64 y.dev)).set 1 (.int .i64 y.ino)) (And.intro hs2 hx2))))
                  have hc1 := (tD.beside hDb hx1).blk.c1.1
                  have hc2 := (tD.beside hDb hx2).blk.c1.1
                  clear ta tb tb1 ta1 hs1 hs2 hx1 hx2 hs hx
                  refine wpAnyH_ready (rs := [10]) (by kernel_rfl) (by simp) ?_
                  refine AllReadyH.cons rfl (fun K hK => ?_) AllReadyH.nil
                  go_simp
                  refine hK.out _ _ hc1 (fun _ => ?_)
                  clear hK K
                  refine wpAnyH_ready (rs := [11]) (by kernel_rfl) (by simp) ?_
                  refine AllReadyH.cons rfl (fun K hK => ?_) AllReadyH.nil
                  go_simp
                  refine hK.out _ _ hc1 (fun _ => ?_)
                  clear hK K
                  refine wpAnyH_ready (rs := [12]) (by kernel_rfl) (by simp) ?_
                  refine AllReadyH.cons rfl (fun K hK => ?_) AllReadyH.nil
                  go_simp
                  refine hK.out _ _ hc2 (fun _ => ?_)
                  clear hK K
                  refine wpAnyH_done (by kernel_rfl) ?_ _
                  go_simp
                  clear a0 a1 af0 af1 b0 b1 bf0 bf1 hc1 hc2
                  go_wp2_with fail
                  go_meet
                  exact ⟨_, _, x, nm, y, k3, rfl, rfl, rfl, HFN.out⟩
          · go_simp
            obtain ⟨z46, hz46⟩ : ∃ z46, z46 = z36.alloc (.cells #[.int .i64 0, .int .i64 0] 36) := ⟨_, rfl⟩
            have hst : Beside w.heap.size z36 z46 := by rw [hz46]; exact (Beside.refl _ _).alloc _
            obtain ⟨Pb, hPb⟩ : ∃ P, P = z36.heap.size := ⟨_, rfl⟩
            have tb : TB 36 z46 Pb [.int .i64 0, .int .i64 0] := by rw [hz46, hPb]; exact TB.new1 z36 _ _ _ rfl
            have hnb : Pb ≠ w.heap.size := by have := hs.lt; omega
            have h0b : w.heap.size ≤ Pb := by have := hs.lt; omega
            have hdb : wr.heap.size ≤ Pb := by have := hx.size; omega
            replace hs : SrcAt w z46 w.heap.size a len cap k' := by rw [hz46]; exact hs.alloc _
            replace hx := hx.trans hst
            replace ta := ta.beside hna hst
            have hab : Pa ≠ Pb := by have := tlta; have := hPb; omega
            clear tlta
            rw [← hz46, ← hPb]
            have hc := (tD.beside hDb hx).blk.c1.1
            refine hK.out _ _ hc (fun _ => ?_)
            clear hK K hst hz46 hPb
            refine wpAnyH_ready (rs := [2]) (by kernel_rfl) (by simp) ?_
            refine (AllReadyH.cons rfl (fun K hK => ?_) AllReadyH.nil)
            · go_simp
              go_at_call 15
              refine (file_b w z46 w.heap.size a len cap k' hs (by omega) w1.heap.size (.slice fa F.length fc) F (HF.out z46 hx) HO.out).mono ?_
              rintro e z47 ⟨x, k1, hk1, rfl, hs2, hst⟩
              go_wp2_with fail
              replace hs := hs2
              replace ta := ta.beside hna hst
              replace tb := tb.beside hnb hst
              replace hx := hx.trans hst
              have hc := (tD.beside hDb hx).blk.c1.1
              refine hK.out _ _ hc (fun _ => ?_)
              clear hK K hst hs2
              refine wpAnyH_ready (rs := [4]) (by kernel_rfl) (by simp) ?_
              refine (AllReadyH.cons rfl (fun K hK => ?_) AllReadyH.nil)
              · go_simp
                go_at_call 16
                refine (name_b w z47 w.heap.size a len cap k1 hs (by omega)).mono ?_
                rintro e z48 ⟨nm, -, rfl, hs2, hst⟩
                go_wp2_with fail
                replace hs := hs2
                replace ta := ta.beside hna hst
                replace tb := tb.beside hnb hst
                replace hx := hx.trans hst
                have hc := (tD.beside hDb hx).blk.c1.1
                refine hK.out _ _ hc (fun _ => ?_)
                clear hK K hst hs2
                refine wpAnyH_ready (rs := [7]) (by kernel_rfl) (by simp) ?_
                refine (AllReadyH.cons rfl (fun K hK => ?_) AllReadyH.nil)
                · go_simp
                  go_at_call 15
                  refine (file_b w z48 w.heap.size a len cap (k1 + 2) hs (by omega) w1.heap.size (.slice fa F.length fc) F (HF.out z48 hx) HO.out).mono ?_
                  rintro e z49 ⟨y, k3, hk3, rfl, hs2, hst⟩
                  go_wp2_with fail
                  replace hs := hs2
                  replace ta := ta.beside hna hst
                  replace tb := tb.beside hnb hst
                  replace hx := hx.trans hst
                  have hc := (tD.beside hDb hx).blk.c1.1
                  refine hK.out _ _ hc (fun _ => ?_)
                  clear hK K hst hs2
                  obtain ⟨a0, a1, af0, af1⟩ := ta.blk.c2
                  have tb1 : TB 36 ((z49.setCell ⟨Pa, 0, none⟩ (.int .i64 x.dev)).setCell ⟨Pa, 1, none⟩ (.int .i64 x.ino)) Pb [.int .i64 0, .int .i64 0] := (tb.other hab.symm _ _).other hab.symm _ _
                  obtain ⟨b0, b1, bf0, bf1⟩ := tb1.blk.c2
                  have ta1 : TB 36 ((z49.setCell ⟨Pa, 0, none⟩ (.int .i64 x.dev)).setCell ⟨Pa, 1, none⟩ (.int .i64 x.ino)) Pa [.int .i64 x.dev, .int .i64 x.ino] := (ta.set 0 (.int .i64 x.dev)).set 1 (.int .i64 x.ino)
                  have hs1 := (hs.setNew h0a hna 0 (.int .i64 x.dev)).setNew h0a hna 1 (.int .i64 x.ino)
                  have hs2 := (hs1.setNew h0b hnb 0 (.int .i64 y.dev)).setNew h0b hnb 1 (.int .i64 y.ino)
                  have hx1 := (hx.setNew hda 0 (.int .i64 x.dev)).setNew hda 1 (.int .i64 x.ino)
                  have hx2 := (hx1.setNew hdb 0 (.int .i64 y.dev)).setNew hdb 1 (.int .i64 y.ino)
                  have HFN := Lib.hid (And.intro (show k3 ≤ k' + 10 by omega) (And.intro (show TB 36 ((((z49.setCell ⟨Pa, 0, none⟩ (.int .i64 x.dev)).setCell ⟨Pa, 1, none⟩ (.int .i64 x.ino)).setCell ⟨Pb, 0, none⟩ (.int .i64 y.dev)).setCell ⟨Pb, 1, none⟩ (.int .i64 y.ino)) Pa [.int .i64 x.dev, .int .i64 x.ino] from (ta1.other hab _ _).other hab _ _) (And.intro (show TB 36 ((((z49.setCell ⟨Pa, 0, none⟩ (.int .i64 x.dev)).setCell ⟨Pa, 1, none⟩ (.int .i64 x.ino)).setCell ⟨Pb, 0, none⟩ (.int .i64 y.dev)).setCell ⟨Pb, 1, none⟩ (.int .i64 y.ino)) Pb [.int .i64 y.dev, .int .i64 y.ino] from (tb1.set 0 (.int .i64 y.dev)).set 1 (.int .i64 y.ino)) (And.intro hs2 hx2))))
                  have hc1 := (tD.beside hDb hx1).blk.c1.1
                  have hc2 := (tD.beside hDb hx2).blk.c1.1
                  clear ta tb tb1 ta1 hs1 hs2 hx1 hx2 hs hx
                  refine wpAnyH_ready (rs := [10]) (by kernel_rfl) (by simp) ?_
                  refine AllReadyH.cons rfl (fun K hK => ?_) AllReadyH.nil
                  go_simp
                  refine hK.out _ _ hc1 (fun _ => ?_)
                  clear hK K
                  refine wpAnyH_ready (rs := [11]) (by kernel_rfl) (by simp) ?_
                  refine AllReadyH.cons rfl (fun K hK => ?_) AllReadyH.nil
                  go_simp
                  refine hK.out _ _ hc1 (fun _ => ?_)
                  clear hK K
                  refine wpAnyH_ready (rs := [12]) (by kernel_rfl) (by simp) ?_
                  refine AllReadyH.cons rfl (fun K hK => ?_) AllReadyH.nil
                  go_simp
                  refine hK.out _ _ hc2 (fun _ => ?_)
                  clear hK K
                  refine wpAnyH_done (by kernel_rfl) ?_ _
                  go_simp
                  clear a0 a1 af0 af1 b0 b1 bf0 bf1 hc1 hc2
                  go_wp2_with fail
                  go_meet
                  exact ⟨_, _, x, nm, y, k3, rfl, rfl, rfl, HFN.out⟩
        · go_simp
          obtain ⟨z50, hz50⟩ : ∃ z50, z50 = z0.alloc (.cells #[.int .i64 0, .int .i64 0] 36) := ⟨_, rfl⟩
          have hst : Beside w.heap.size z0 z50 := by rw [hz50]; exact (Beside.refl _ _).alloc _
          obtain ⟨Pb, hPb⟩ : ∃ P, P = z0.heap.size := ⟨_, rfl⟩
          have tb : TB 36 z50 Pb [.int .i64 0, .int .i64 0] := by rw [hz50, hPb]; exact TB.new1 z0 _ _ _ rfl
          have hnb : Pb ≠ w.heap.size := by have := hs.lt; omega
          have h0b : w.heap.size ≤ Pb := by have := hs.lt; omega
          have hdb : wr.heap.size ≤ Pb := by have := hx.size; omega
          replace hs : SrcAt w z50 w.heap.size a len cap k' := by rw [hz50]; exact hs.alloc _
          replace hx := hx.trans hst
          have tltb : Pb < z50.heap.size := tb.lt
          rw [← hz50, ← hPb]
          have hc := (tD.beside hDb hx).blk.c1.1
          refine hK.out _ _ hc (fun _ => ?_)
          clear hK K hst hz50 hPb
          refine wpAnyH_ready (rs := [2, 8]) (by kernel_rfl) (by simp) ?_
          refine (AllReadyH.cons rfl (fun K hK => ?_) (AllReadyH.cons rfl (fun K hK => ?_) AllReadyH.nil))
          · go_simp
            go_at_call 15
            refine (file_b w z50 w.heap.size a len cap k' hs (by omega) w1.heap.size (.slice fa F.length fc) F (HF.out z50 hx) HO.out).mono ?_
            rintro e z51 ⟨x, k1, hk1, rfl, hs2, hst⟩
            go_wp2_with fail
            replace hs := hs2
            replace tltb := Nat.lt_of_lt_of_le tltb hst.size
            replace tb := tb.beside hnb hst
            replace hx := hx.trans hst
            have hc := (tD.beside hDb hx).blk.c1.1
            refine hK.out _ _ hc (fun _ => ?_)
            clear hK K hst hs2
            refine wpAnyH_ready (rs := [4, 8]) (by kernel_rfl) (by simp) ?_
            refine (AllReadyH.cons rfl (fun K hK => ?_) (AllReadyH.cons rfl (fun K hK => ?_) AllReadyH.nil))
            · go_simp
              go_at_call 16
              refine (name_b w z51 w.heap.size a len cap k1 hs (by omega)).mono ?_
              rintro e z52 ⟨nm, -, rfl, hs2, hst⟩
              go_wp2_with fail
              replace hs := hs2
              replace tltb := Nat.lt_of_lt_of_le tltb hst.size
              replace tb := tb.beside hnb hst
              replace hx := hx.trans hst
              have hc := (tD.beside hDb hx).blk.c1.1
              refine hK.out _ _ hc (fun _ => ?_)
              clear hK K hst hs2
              refine wpAnyH_ready (rs := [7, 8]) (by kernel_rfl) (by simp) ?_
              refine (AllReadyH.cons rfl (fun K hK => ?_) (AllReadyH.cons rfl (fun K hK => ?_) AllReadyH.nil))
              · go_simp
                go_at_call 15
                refine (file_b w z52 w.heap.size a len cap (k1 + 2) hs (by omega) w1.heap.size (.slice fa F.length fc) F (HF.out z52 hx) HO.out).mono ?_
                rintro e z53 ⟨y, k3, hk3, rfl, hs2, hst⟩
                go_wp2_with fail
                replace hs := hs2
                replace tltb := Nat.lt_of_lt_of_le tltb hst.size
                replace tb := tb.beside hnb hst
                replace hx := hx.trans hst
                have hc := (tD.beside hDb hx).blk.c1.1
                refine hK.out _ _ hc (fun _ => ?_)
                clear hK K hst hs2
                refine wpAnyH_ready (rs := [8]) (by kernel_rfl) (by simp) ?_
                refine (AllReadyH.cons rfl (fun K hK => ?_) AllReadyH.nil)
                · go_simp
                  obtain ⟨z54, hz54⟩ : ∃ z54, z54 = z53.alloc (.cells #[.int .i64 0, .int .i64 0] 36) := ⟨_, rfl⟩
                  have hst : Beside w.heap.size z53 z54 := by rw [hz54]; exact (Beside.refl _ _).alloc _
                  obtain ⟨Pa, hPa⟩ : ∃ P, P = z53.heap.size := ⟨_, rfl⟩
                  have ta : TB 36 z54 Pa [.int .i64 0, .int .i64 0] := by rw [hz54, hPa]; exact TB.new1 z53 _ _ _ rfl
                  have hna : Pa ≠ w.heap.size := by have := hs.lt; omega
                  have h0a : w.heap.size ≤ Pa := by have := hs.lt; omega
                  have hda : wr.heap.size ≤ Pa := by have := hx.size; omega
                  replace hs : SrcAt w z54 w.heap.size a len cap k3 := by rw [hz54]; exact hs.alloc _
                  replace hx := hx.trans hst
                  replace tb := tb.beside hnb hst
                  have hab : Pa ≠ Pb := by have := tltb; have := hPa; omega
                  clear tltb
                  rw [← hz54, ← hPa]
                  have hc := (tD.beside hDb hx).blk.c1.1
                  refine hK.out _ _ hc (fun _ => ?_)
                  clear hK K hst hz54 hPa
                  obtain ⟨a0, a1, af0, af1⟩ := ta.blk.c2
                  have tb1 : TB 36 ((z54.setCell ⟨Pa, 0, none⟩ (.int .i64 x.dev)).setCell ⟨Pa, 1, none⟩ (.int .i64 x.ino)) Pb [.int .i64 0, .int .i64 0] := (tb.other hab.symm _ _).other hab.symm _ _
                  obtain ⟨b0, b1, bf0, bf1⟩ := tb1.blk.c2
                  have ta1 : TB 36 ((z54.setCell ⟨Pa, 0, none⟩ (.int .i64 x.dev)).setCell ⟨Pa, 1, none⟩ (.int .i64 x.ino)) Pa [.int .i64 x.dev, .int .i64 x.ino] := (ta.set 0 (.int .i64 x.dev)).set 1 (.int .i64 x.ino)
                  have hs1 := (hs.setNew h0a hna 0 (.int .i64 x.dev)).setNew h0a hna 1 (.int .i64 x.ino)
                  have hs2 := (hs1.setNew h0b hnb 0 (.int .i64 y.dev)).setNew h0b hnb 1 (.int .i64 y.ino)
                  have hx1 := (hx.setNew hda 0 (.int .i64 x.dev)).setNew hda 1 (.int .i64 x.ino)
                  have hx2 := (hx1.setNew hdb 0 (.int .i64 y.dev)).setNew hdb 1 (.int .i64 y.ino)
                  have HFN := Lib.hid (And.intro (show k3 ≤ k' + 10 by omega) (And.intro (show TB 36 ((((z54.setCell ⟨Pa, 0, none⟩ (.int .i64 x.dev)).setCell ⟨Pa, 1, none⟩ (.int .i64 x.ino)).setCell ⟨Pb, 0, none⟩ (.int .i64 y.dev)).setCell ⟨Pb, 1, none⟩ (.int .i64 y.ino)) Pa [.int .i64 x.dev, .int .i64 x.ino] from (ta1.other hab _ _).other hab _ _) (And.intro (show TB 36 ((((z54.setCell ⟨Pa, 0, none⟩ (.int .i64 x.dev)).setCell ⟨Pa, 1, none⟩ (.int .i64 x.ino)).setCell ⟨Pb, 0, none⟩ (.int .i64 y.dev)).setCell ⟨Pb, 1, none⟩ (.int .i64 y.ino)) Pb [.int .i64 y.dev, .int .i64 y.ino] from (tb1.set 0 (.int .i64 y.dev)).set 1 (.int .i64 y.ino)) (And.intro hs2 hx2))))
                  have hc1 := (tD.beside hDb hx1).blk.c1.1
                  have hc2 := (tD.beside hDb hx2).blk.c1.1
                  clear ta tb tb1 ta1 hs1 hs2 hx1 hx2 hs hx
                  refine wpAnyH_ready (rs := [10]) (by kernel_rfl) (by simp) ?_
                  refine AllReadyH.cons rfl (fun K hK => ?_) AllReadyH.nil
                  go_simp
                  refine hK.out _ _ hc1 (fun _ => ?_)
                  clear hK K
                  refine wpAnyH_ready (rs := [11]) (by kernel_rfl) (by simp) ?_
                  refine AllReadyH.cons rfl (fun K hK => ?_) AllReadyH.nil
                  go_simp
                  refine hK.out _ _ hc1 (fun _ => ?_)
                  clear hK K
                  refine wpAnyH_ready (rs := [12]) (by kernel_rfl) (by simp) ?_
                  refine AllReadyH.cons rfl (fun K hK => ?_) AllReadyH.nil
                  go_simp
                  refine hK.out _ _ hc2 (fun _ => ?_)
                  clear hK K
                  refine wpAnyH_done (by kernel_rfl) ?_ _
                  go_simp
                  clear a0 a1 af0 af1 b0 b1 bf0 bf1 hc1 hc2
                  go_wp2_with fail
                  go_meet
                  exact ⟨_, _, x, nm, y, k3, rfl, rfl, rfl, HFN.out⟩
              · go_simp
                obtain ⟨z55, hz55⟩ : ∃ z55, z55 = z52.alloc (.cells #[.int .i64 0, .int .i64 0] 36) := ⟨_, rfl⟩
                have hst : Beside w.heap.size z52 z55 := by rw [hz55]; exact (Beside.refl _ _).alloc _
                obtain ⟨Pa, hPa⟩ : ∃ P, P = z52.heap.size := ⟨_, rfl⟩
                have ta : TB 36 z55 Pa [.int .i64 0, .int .i64 0] := by rw [hz55, hPa]; exact TB.new1 z52 _ _ _ rfl
                have hna : Pa ≠ w.heap.size := by have := hs.lt; omega
                have h0a : w.heap.size ≤ Pa := by have := hs.lt; omega
                have hda : wr.heap.size ≤ Pa := by have := hx.size; omega
                replace hs : SrcAt w z55 w.heap.size a len cap (k1 + 2) := by rw [hz55]; exact hs.alloc _
                replace hx := hx.trans hst
                replace tb := tb.beside hnb hst
                have hab : Pa ≠ Pb := by have := tltb; have := hPa; omega
                clear tltb
                rw [← hz55, ← hPa]
                have hc := (tD.beside hDb hx).blk.c1.1
                refine hK.out _ _ hc (fun _ => ?_)
                clear hK K hst hz55 hPa
                refine wpAnyH_ready (rs := [7]) (by kernel_rfl) (by simp) ?_
                refine (AllReadyH.cons rfl (fun K hK => ?_) AllReadyH.nil)
                · go_simp
                  go_at_call 15
                  refine (file_b w z55 w.heap.size a len cap (k1 + 2) hs (by omega) w1.heap.size (.slice fa F.length fc) F (HF.out z55 hx) HO.out).mono ?_
                  rintro e z56 ⟨y, k3, hk3, rfl, hs2, hst⟩
                  go_wp2_with fail
                  replace hs := hs2
                  replace ta := ta.beside hna hst
                  replace tb := tb.beside hnb hst
                  replace hx := hx.trans hst
                  have hc := (tD.beside hDb hx).blk.c1.1
                  refine hK.out _ _ hc (fun _ => ?_)
                  clear hK K hst hs2
                  obtain ⟨a0, a1, af0, af1⟩ := ta.blk.c2
                  have tb1 : TB 36 ((z56.setCell ⟨Pa, 0, none⟩ (.int .i64 x.dev)).setCell ⟨Pa, 1, none⟩ (.int .i64 x.ino)) Pb [.int .i64 0, .int .i64 0] := (tb.other hab.symm _ _).other hab.symm _ _
                  obtain ⟨b0, b1, bf0, bf1⟩ := tb1.blk.c2
                  have ta1 : TB 36 ((z56.setCell ⟨Pa, 0, none⟩ (.int .i64 x.dev)).setCell ⟨Pa, 1, none⟩ (.int .i64 x.ino)) Pa [.int .i64 x.dev, .int .i64 x.ino] := (ta.set 0 (.int .i64 x.dev)).set 1 (.int .i64 x.ino)
                  have hs1 := (hs.setNew h0a hna 0 (.int .i64 x.dev)).setNew h0a hna 1 (.int .i64 x.ino)
                  have hs2 := (hs1.setNew h0b hnb 0 (.int .i64 y.dev)).setNew h0b hnb 1 (.int .i64 y.ino)
                  have hx1 := (hx.setNew hda 0 (.int .i64 x.dev)).setNew hda 1 (.int .i64 x.ino)
                  have hx2 := (hx1.setNew hdb 0 (.int .i64 y.dev)).setNew hdb 1 (.int .i64 y.ino)
                  have HFN := Lib.hid (And.intro (show k3 ≤ k' + 10 by omega) (And.intro (show TB 36 ((((z56.setCell ⟨Pa, 0, none⟩ (.int .i64 x.dev)).setCell ⟨Pa, 1, none⟩ (.int .i64 x.ino)).setCell ⟨Pb, 0, none⟩ (.int .i64 y.dev)).setCell ⟨Pb, 1, none⟩ (.int .i64 y.ino)) Pa [.int .i64 x.dev, .int .i64 x.ino] from (ta1.other hab _ _).other hab _ _) (And.intro (show TB 36 ((((z56.setCell ⟨Pa, 0, none⟩ (.int .i64 x.dev)).setCell ⟨Pa, 1, none⟩ (.int .i64 x.ino)).setCell ⟨Pb, 0, none⟩ (.int .i64 y.dev)).setCell ⟨Pb, 1, none⟩ (.int .i64 y.ino)) Pb [.int .i64 y.dev, .int .i64 y.ino] from (tb1.set 0 (.int .i64 y.dev)).set 1 (.int .i64 y.ino)) (And.intro hs2 hx2))))
                  have hc1 := (tD.beside hDb hx1).blk.c1.1
                  have hc2 := (tD.beside hDb hx2).blk.c1.1
                  clear ta tb tb1 ta1 hs1 hs2 hx1 hx2 hs hx
                  refine wpAnyH_ready (rs := [10]) (by kernel_rfl) (by simp) ?_
                  refine AllReadyH.cons rfl (fun K hK => ?_) AllReadyH.nil
                  go_simp
                  refine hK.out _ _ hc1 (fun _ => ?_)
                  clear hK K
                  refine wpAnyH_ready (rs := [11]) (by kernel_rfl) (by simp) ?_
                  refine AllReadyH.cons rfl (fun K hK => ?_) AllReadyH.nil
                  go_simp
                  refine hK.out _ _ hc1 (fun _ => ?_)
                  clear hK K
                  refine wpAnyH_ready (rs := [12]) (by kernel_rfl) (by simp) ?_
                  refine AllReadyH.cons rfl (fun K hK => ?_) AllReadyH.nil
                  go_simp
                  refine hK.out _ _ hc2 (fun _ => ?_)
                  clear hK K
                  refine wpAnyH_done (by kernel_rfl) ?_ _
                  go_simp
                  clear a0 a1 af0 af1 b0 b1 bf0 bf1 hc1 hc2
                  go_wp2_with fail
                  go_meet
                  exact ⟨_, _, x, nm, y, k3, rfl, rfl, rfl, HFN.out⟩
            · go_simp
              obtain ⟨z57, hz57⟩ : ∃ z57, z57 = z51.alloc (.cells #[.int .i64 0, .int .i64 0] 36) := ⟨_, rfl⟩
              have hst : Beside w.heap.size z51 z57 := by rw [hz57]; exact (Beside.refl _ _).alloc _
              obtain ⟨Pa, hPa⟩ : ∃ P, P = z51.heap.size := ⟨_, rfl⟩
              have ta : TB 36 z57 Pa [.int .i64 0, .int .i64 0] := by rw [hz57, hPa]; exact TB.new1 z51 _ _ _ rfl
              have hna : Pa ≠ w.heap.size := by have := hs.lt; omega
              have h0a : w.heap.size ≤ Pa := by have := hs.lt; omega
              have hda : wr.heap.size ≤ Pa := by have := hx.size; omega
              replace hs : SrcAt w z57 w.heap.size a len cap k1 := by rw [hz57]; exact hs.alloc _
              replace hx := hx.trans hst
              replace tb := tb.beside hnb hst
              have hab : Pa ≠ Pb := by have := tltb; have := hPa; omega
              clear tltb
              rw [← hz57, ← hPa]
              have hc := (tD.beside hDb hx).blk.c1.1
              refine hK.out _ _ hc (fun _ => ?_)
              clear hK K hst hz57 hPa
              refine wpAnyH_ready (rs := [4]) (by kernel_rfl) (by simp) ?_
              refine (AllReadyH.cons rfl (fun K hK => ?_) AllReadyH.nil)
              · go_simp
                go_at_call 16
                refine (name_b w z57 w.heap.size a len cap k1 hs (by omega)).mono ?_
                rintro e z58 ⟨nm, -, rfl, hs2, hst⟩
                go_wp2_with fail
                replace hs := hs2
                replace ta := ta.beside hna hst
                replace tb := tb.beside hnb hst
                replace hx := hx.trans hst
                have hc := (tD.beside hDb hx).blk.c1.1
                refine hK.out _ _ hc (fun _ => ?_)
                clear hK K hst hs2
                refine wpAnyH_ready (rs := [7]) (by kernel_rfl) (by simp) ?_
                refine (AllReadyH.cons rfl (fun K hK => ?_) AllReadyH.nil)
                · go_simp
                  go_at_call 15
                  refine (file_b w z58 w.heap.size a len cap (k1 + 2) hs (by omega) w1.heap.size (.slice fa F.length fc) F (HF.out z58 hx) HO.out).mono ?_
                  rintro e z59 ⟨y, k3, hk3, rfl, hs2, hst⟩
                  go_wp2_with fail
                  replace hs := hs2
                  replace ta := ta.beside hna hst
                  replace tb := tb.beside hnb hst
                  replace hx := hx.trans hst
                  have hc := (tD.beside hDb hx).blk.c1.1
                  refine hK.out _ _ hc (fun _ => ?_)
                  clear hK K hst hs2
                  obtain ⟨a0, a1, af0, af1⟩ := ta.blk.c2
                  have tb1 : TB 36 ((z59.setCell ⟨Pa, 0, none⟩ (.int .i64 x.dev)).setCell ⟨Pa, 1, none⟩ (.int .i64 x.ino)) Pb [.int .i64 0, .int .i64 0] := (tb.other hab.symm _ _).other hab.symm _ _
                  obtain ⟨b0, b1, bf0, bf1⟩ := tb1.blk.c2
                  have ta1 : TB 36 ((z59.setCell ⟨Pa, 0, none⟩ (.int .i64 x.dev)).setCell ⟨Pa, 1, none⟩ (.int .i64 x.ino)) Pa [.int .i64 x.dev, .int .i64 x.ino] := (ta.set 0 (.int .i64 x.dev)).set 1 (.int .i64 x.ino)
                  have hs1 := (hs.setNew h0a hna 0 (.int .i64 x.dev)).setNew h0a hna 1 (.int .i64 x.ino)
                  have hs2 := (hs1.setNew h0b hnb 0 (.int .i64 y.dev)).setNew h0b hnb 1 (.int .i64 y.ino)
                  have hx1 := (hx.setNew hda 0 (.int .i64 x.dev)).setNew hda 1 (.int .i64 x.ino)
                  have hx2 := (hx1.setNew hdb 0 (.int .i64 y.dev)).setNew hdb 1 (.int .i64 y.ino)
                  have HFN := Lib.hid (And.intro (show k3 ≤ k' + 10 by omega) (And.intro (show TB 36 ((((z59.setCell ⟨Pa, 0, none⟩ (.int .i64 x.dev)).setCell ⟨Pa, 1, none⟩ (.int .i64 x.ino)).setCell ⟨Pb, 0, none⟩ (.int .i64 y.dev)).setCell ⟨Pb, 1, none⟩ (.int .i64 y.ino)) Pa [.int .i64 x.dev, .int .i64 x.ino] from (ta1.other hab _ _).other hab _ _) (And.intro (show TB 36 ((((z59.setCell ⟨Pa, 0, none⟩ (.int .i64 x.dev)).setCell ⟨Pa, 1, none⟩ (.int .i64 x.ino)).setCell ⟨Pb, 0, none⟩ (.int .i64 y.dev)).setCell ⟨Pb, 1, none⟩ (.int .i64 y.ino)) Pb [.int .i64 y.dev, .int .i64 y.ino] from (tb1.set 0 (.int .i64 y.dev)).set 1 (.int .i64 y.ino)) (And.intro hs2 hx2))))
                  have hc1 := (tD.beside hDb hx1).blk.c1.1
                  have hc2 := (tD.beside hDb hx2).blk.c1.1
                  clear ta tb tb1 ta1 hs1 hs2 hx1 hx2 hs hx
                  refine wpAnyH_ready (rs := [10]) (by kernel_rfl) (by simp) ?_
                  refine AllReadyH.cons rfl (fun K hK => ?_) AllReadyH.nil
                  go_simp
                  refine hK.out _ _ hc1 (fun _ => ?_)
                  clear hK K
                  refine wpAnyH_ready (rs := [11]) (by kernel_rfl) (by simp) ?_
                  refine AllReadyH.cons rfl (fun K hK => ?_) AllReadyH.nil
                  go_simp
                  refine hK.out _ _ hc1 (fun _ => ?_)
                  clear hK K
                  refine wpAnyH_ready (rs := [12]) (by kernel_rfl) (by simp) ?_
                  refine AllReadyH.cons rfl (fun K hK => ?_) AllReadyH.nil
                  go_simp
                  refine hK.out _ _ hc2 (fun _ => ?_)
                  clear hK K
                  refine wpAnyH_done (by kernel_rfl) ?_ _
                  go_simp
                  clear a0 a1 af0 af1 b0 b1 bf0 bf1 hc1 hc2
                  go_wp2_with fail
                  go_meet
                  exact ⟨_, _, x, nm, y, k3, rfl, rfl, rfl, HFN.out⟩
          · go_simp
            obtain ⟨z60, hz60⟩ : ∃ z60, z60 = z50.alloc (.cells #[.int .i64 0, .int .i64 0] 36) := ⟨_, rfl⟩
            have hst : Beside w.heap.size z50 z60 := by rw [hz60]; exact (Beside.refl _ _).alloc _
            obtain ⟨Pa, hPa⟩ : ∃ P, P = z50.heap.size := ⟨_, rfl⟩
            have ta : TB 36 z60 Pa [.int .i64 0, .int .i64 0] := by rw [hz60, hPa]; exact TB.new1 z50 _ _ _ rfl
            have hna : Pa ≠ w.heap.size := by have := hs.lt; omega
            have h0a : w.heap.size ≤ Pa := by have := hs.lt; omega
            have hda : wr.heap.size ≤ Pa := by have := hx.size; omega
            replace hs : SrcAt w z60 w.heap.size a len cap k' := by rw [hz60]; exact hs.alloc _
            replace hx := hx.trans hst
            replace tb := tb.beside hnb hst
            have hab : Pa ≠ Pb := by have := tltb; have := hPa; omega
            clear tltb
            rw [← hz60, ← hPa]
            have hc := (tD.beside hDb hx).blk.c1.1
            refine hK.out _ _ hc (fun _ => ?_)
            clear hK K hst hz60 hPa
            refine wpAnyH_ready (rs := [2]) (by kernel_rfl) (by simp) ?_
            refine (AllReadyH.cons rfl (fun K hK => ?_) AllReadyH.nil)
            · go_simp
              go_at_call 15
              refine (file_b w z60 w.heap.size a len cap k' hs (by omega) w1.heap.size (.slice fa F.length fc) F (HF.out z60 hx) HO.out).mono ?_
              rintro e z61 ⟨x, k1, hk1, rfl, hs2, hst⟩
              go_wp2_with fail
              replace hs := hs2
              replace ta := ta.beside hna hst
              replace tb := tb.beside hnb hst
              replace hx := hx.trans hst
              have hc := (tD.beside hDb hx).blk.c1.1
              refine hK.out _ _ hc (fun _ => ?_)
              clear hK K hst hs2
              refine wpAnyH_ready (rs := [4]) (by kernel_rfl) (by simp) ?_
              refine (AllReadyH.cons rfl (fun K hK => ?_) AllReadyH.nil)
              · go_simp
                go_at_call 16
                refine (name_b w z61 w.heap.size a len cap k1 hs (by omega)).mono ?_
                rintro e z62 ⟨nm, -, rfl, hs2, hst⟩
                go_wp2_with fail
                replace hs := hs2
                replace ta := ta.beside hna hst
                replace tb := tb.beside hnb hst
                replace hx := hx.trans hst
                have hc := (tD.beside hDb hx).blk.c1.1
                refine hK.out _ _ hc (fun _ => ?_)
                clear hK K hst hs2
                refine wpAnyH_ready (rs := [7]) (by kernel_rfl) (by simp) ?_
                refine (AllReadyH.cons rfl (fun K hK => ?_) AllReadyH.nil)
                · go_simp
                  go_at_call 15
                  refine (file_b w z62 w.heap.size a len cap (k1 + 2) hs (by omega) w1.heap.size (.slice fa F.length fc) F (HF.out z62 hx) HO.out).mono ?_
                  rintro e z63 ⟨y, k3, hk3, rfl, hs2, hst⟩
                  go_wp2_with fail
                  replace hs := hs2
                  replace ta := ta.beside hna hst
                  replace tb := tb.beside hnb hst
                  replace hx := hx.trans hst
                  have hc := (tD.beside hDb hx).blk.c1.1
                  refine hK.out _ _ hc (fun _ => ?_)
                  clear hK K hst hs2
                  obtain ⟨a0, a1, af0, af1⟩ := ta.blk.c2
                  have tb1 : TB 36 ((z63.setCell ⟨Pa, 0, none⟩ (.int .i64 x.dev)).setCell ⟨Pa, 1, none⟩ (.int .i64 x.ino)) Pb [.int .i64 0, .int .i64 0] := (tb.other hab.symm _ _).other hab.symm _ _
                  obtain ⟨b0, b1, bf0, bf1⟩ := tb1.blk.c2
                  have ta1 : TB 36 ((z63.setCell ⟨Pa, 0, none⟩ (.int .i64 x.dev)).setCell ⟨Pa, 1, none⟩ (.int .i64 x.ino)) Pa [.int .i64 x.dev, .int .i64 x.ino] := (ta.set 0 (.int .i64 x.dev)).set 1 (.int .i64 x.ino)
                  have hs1 := (hs.setNew h0a hna 0 (.int .i64 x.dev)).setNew h0a hna 1 (.int .i64 x.ino)
                  have hs2 := (hs1.setNew h0b hnb 0 (.int .i64 y.dev)).setNew h0b hnb 1 (.int .i64 y.ino)
                  have hx1 := (hx.setNew hda 0 (.int .i64 x.dev)).setNew hda 1 (.int .i64 x.ino)
                  have hx2 := (hx1.setNew hdb 0 (.int .i64 y.dev)).setNew hdb 1 (.int .i64 y.ino)
                  have HFN := Lib.hid (And.intro (show k3 ≤ k' + 10 by omega) (And.intro (show TB 36 ((((z63.setCell ⟨Pa, 0, none⟩ (.int .i64 x.dev)).setCell ⟨Pa, 1, none⟩ (.int .i64 x.ino)).setCell ⟨Pb, 0, none⟩ (.int .i64 y.dev)).setCell ⟨Pb, 1, none⟩ (.int .i64 y.ino)) Pa [.int .i64 x.dev, .int .i64 x.ino] from (ta1.other hab _ _).other hab _ _) (And.intro (show TB 36 ((((z63.setCell ⟨Pa, 0, none⟩ (.int .i64 x.dev)).setCell ⟨Pa, 1, none⟩ (.int .i64 x.ino)).setCell ⟨Pb, 0, none⟩ (.int .i64 y.dev)).setCell ⟨Pb, 1, none⟩ (.int .i64 y.ino)) Pb [.int .i64 y.dev, .int .i64 y.ino] from (tb1.set 0 (.int .i64 y.dev)).set 1 (.int .i64 y.ino)) (And.intro hs2 hx2))))
                  have hc1 := (tD.beside hDb hx1).blk.c1.1
                  have hc2 := (tD.beside hDb hx2).blk.c1.1
                  clear ta tb tb1 ta1 hs1 hs2 hx1 hx2 hs hx
                  refine wpAnyH_ready (rs := [10]) (by kernel_rfl) (by simp) ?_
                  refine AllReadyH.cons rfl (fun K hK => ?_) AllReadyH.nil
                  go_simp
                  refine hK.out _ _ hc1 (fun _ => ?_)
                  clear hK K
                  refine wpAnyH_ready (rs := [11]) (by kernel_rfl) (by simp) ?_
                  refine AllReadyH.cons rfl (fun K hK => ?_) AllReadyH.nil
                  go_simp
                  refine hK.out _ _ hc1 (fun _ => ?_)
                  clear hK K
                  refine wpAnyH_ready (rs := [12]) (by kernel_rfl) (by simp) ?_
                  refine AllReadyH.cons rfl (fun K hK => ?_) AllReadyH.nil
                  go_simp
                  refine hK.out _ _ hc2 (fun _ => ?_)
                  clear hK K
                  refine wpAnyH_done (by kernel_rfl) ?_ _
                  go_simp
                  clear a0 a1 af0 af1 b0 b1 bf0 bf1 hc1 hc2
                  go_wp2_with fail
                  go_meet
                  exact ⟨_, _, x, nm, y, k3, rfl, rfl, rfl, HFN.out⟩
      case rest =>
        rename World => u0
        obtain ⟨Pa, Pb, x, nm, y, k3, rfl, rfl, rfl, hk3, tP0, tQ0, hs6, hb6⟩ := hcut
        have tD0 := tD.beside hDb hb6
        have hou := HF.out u0 hb6
        have hb0 := Below.refl u0.heap.size u0
        have HFA : Hid (∀ W, Below u0.heap.size u0 W → FilesAt W fa F) := Lib.hid (fun W hb => by
          obtain ⟨a', c', hv, -, -, hF⟩ := (hou.stay hb).at_
          injection hv with hv _ _
          rw [hv]
          exact hF)
        have HEND := Lib.hid (fun W (hbb : Below u0.heap.size u0 W) => And.intro (hou.stay hbb) (And.intro (tD0.stay hbb) (And.intro (hs6.later hbb) ((hb.trans hb6).trans (.of_below hbb)))))
        clear HF hou hs6 hb6 hb tD hs hbd0 HTD
        obtain ⟨x0, -⟩ := tD0.blk.c1
        obtain ⟨x1, x2, -⟩ := tP0.blk.c2
        obtain ⟨y1, y2, -⟩ := tQ0.blk.c2
        have CC := Lib.hid (Link_any fa fc F x nm y u0 (HFA.out u0 hb0) HO.out)
        go_wp2_with fail
        refine CC.out.mono ?_
        rintro e v1 ⟨fv1, cv1, rfl, ho1, hc1, hbv⟩
        obtain ⟨ga1, gc1, rfl⟩ := outF_form ho1
        obtain ⟨u1, hu⟩ : ∃ u1, u1 = v1.alloc (.cells #[.slice ga1 (linkF F x nm y).files.length gc1] 24) := ⟨_, rfl⟩
        have hst : Below v1.heap.size v1 u1 := by rw [hu]; exact (Below.refl _ _).alloc (Nat.le_refl _) _
        have tA1 : TB 24 u1 v1.heap.size [.slice ga1 (linkF F x nm y).files.length gc1] := by rw [hu]; exact TB.new1 v1 _ _ _ rfl
        have hs1 : Below u0.heap.size u0 u1 := hbv.trans (hst.mono hbv.size)
        replace ho1 := ho1.stay hst
        replace hc1 := ownC_stay hc1 hst
        have hb1 : Below u0.heap.size u0 u1 := hb0.trans (hs1.mono hb0.size)
        have tD1 := tD0.stay hs1
        have tP1 := tP0.stay hs1
        have tQ1 := tQ0.stay hs1
        have HU := Lib.hid hu
        clear hu hst hbv CC x0 x1 x2 y1 y2 tD0 tP0 tQ0
        go_upto_region 8 with fail
        rw [← HU.out]
        clear HU
        obtain ⟨x0, -⟩ := tD1.blk.c1
        obtain ⟨x1, x2, -⟩ := tP1.blk.c2
        obtain ⟨y1, y2, -⟩ := tQ1.blk.c2
        have CC := Lib.hid (rLink_any fa fc F x nm y u1 (HFA.out u1 hb1) HO.out)
        go_wp2_with fail
        refine CC.out.mono ?_
        rintro e v2 ⟨fv2, cv2, rfl, ho2, hc2, hbv⟩
        obtain ⟨ga2, gc2, rfl⟩ := outF_form ho2
        obtain ⟨u2, hu⟩ : ∃ u2, u2 = v2.alloc (.cells #[.slice ga2 (linkF F x nm y).files.length gc2] 24) := ⟨_, rfl⟩
        have hst : Below v2.heap.size v2 u2 := by rw [hu]; exact (Below.refl _ _).alloc (Nat.le_refl _) _
        have tA2 : TB 24 u2 v2.heap.size [.slice ga2 (linkF F x nm y).files.length gc2] := by rw [hu]; exact TB.new1 v2 _ _ _ rfl
        have hs2 : Below u1.heap.size u1 u2 := hbv.trans (hst.mono hbv.size)
        replace ho2 := ho2.stay hst
        replace hc2 := ownC_stay hc2 hst
        have hb2 : Below u0.heap.size u0 u2 := hb1.trans (hs2.mono hb1.size)
        have tD2 := tD1.stay hs2
        have tP2 := tP1.stay hs2
        have tQ2 := tQ1.stay hs2
        have HU := Lib.hid hu
        clear hu hst hbv CC x0 x1 x2 y1 y2 tD1 tP1 tQ1
        replace ho1 := ho1.stay hs2
        replace hc1 := ownC_stay hc1 hs2
        replace tA1 := tA1.stay hs2
        go_upto_region 9 with fail
        rw [← HU.out]
        clear HU
        have CB := Lib.hid (bad_no _ _ _ _ (linkF F x nm y) _ _ _ _ u2 ho1 hc1 ho2 hc2 (link_sml HO.out x nm y).1 (link_sml HO.out x nm y).2)
        obtain ⟨a1, -⟩ := tA1.blk.c1
        obtain ⟨a2, -⟩ := tA2.blk.c1
        clear ho1 ho2 hc1 hc2 tA1 tA2 tD2 tP2 tQ2
        go_wp2_with fail
        refine CB.out.mono ?_
        rintro e u5 ⟨rfl, hb5⟩
        have hfin := HEND.out u5 (hb2.trans (hb5.mono hb2.size))
        clear CB a1 a2 hb5 hb2 hb1 hb0 HEND
        go_wp2_with fail
        exact ⟨⟨q + 1, k3, by omega, by go_num, by omega, hfin⟩, by simp [intOf]; omega⟩
    · have hqq : ¬ (q : Int) < 5 := by omega
      have CA2 := Lib.hid (CA.out wr)
      have hbw : Below w.heap.size w wr := hb.below (Nat.le_refl _) (Nat.le_refl _)
      clear CA hs ho tD hb
      go_wp2_with fail
      refine CA2.out.mono ?_
      rintro e w4 ⟨rfl, hb4⟩
      have hbf := hbw.trans (hb4.mono hbw.size)
      clear hb4 hbw CA2
      go_wp2_with fail
      go_ret
      exact ⟨rfl, hbf⟩
end Go.Proofs.Ytafnbpkdenjipaa.fl
namespace Go.Proofs.Ytafnbpkdenjipaa.filesLinks
open Go.RowKit Go.Proofs.Ytafnbpkdenjipaa.fl
theorem walk (a : Option Addr) (len cap : Nat) (zs : List Int) (w : World) (hr : IsRow .i64 w a len cap zs) (_ : laidMetH Try.prog Rows.filesLinksRow.laid w) (_ : w.ShapedOpen Try.prog) : Calls Try.prog 6 #[.slice a len cap] w fun e w' => e = .returned (.bool true) ∧ Below w.heap.size w w' := filesLinks_any a len cap w (cm.nums_of_row hr)
end Go.Proofs.Ytafnbpkdenjipaa.filesLinks
