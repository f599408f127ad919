/-
  dropLost of package files: the walk.
-/
import Derived.Test.YtafnbpkdenjipaaFDp
import Derived.Test.YtafnbpkdenjipaaFGr
namespace Go.Proofs.Ytafnbpkdenjipaa.fl
open Go.RowKit Go.Proofs.Ytafnbpkdenjipaa.cm


theorem nodeAtO_none (B : Nat) (a : Option Addr) (cap : Nat) (F : FilP) (x : At) (w : World) (vn : Nat → Value) (ev : Nat → Nat → Value) (h : FilesO B w (.slice a F.length cap) F vn ev) (hS : Sml F) (hn : nodeF F x = none) :
    Calls Try.prog 39 #[.agg #[.slice a F.length cap], .agg #[.int .i64 x.dev, .int .i64 x.ino]] w fun e w' => e = .returned (.pointer none) ∧ Below w.heap.size w w' := by
  refine (nodeAtO_any B a cap F x w vn ev h hS).mono ?_
  rintro e w' ⟨hb, ⟨-, he⟩ | ⟨j, k, d, n, g, -, -, -, -, h5, -⟩⟩
  · exact ⟨he, hb⟩
  · rw [hn] at h5; cases h5

/-- what dropLost leaves -/
def DropR (B E : Nat) (fa : Option Addr) (fc : Nat) (cv : Value) (F : FilP) (l : List ChgP) (w : World) (e : Ending) (w' : World) : Prop :=
  e = .returned (.tuple #[]) ∧ TB 100 w' E [.slice fa F.length fc, cv] ∧ OutF B w' (.slice fa F.length fc) (dropsF F l) ∧ OwnC B w' cv l ∧ SameB E w w' ∧ Below B w w'

set_option maxRecDepth 100000 in
set_option maxHeartbeats 4000000 in
theorem dropLost_any (B E : Nat) (fa : Option Addr) (fc : Nat) (cv : Value) (F : FilP) (l : List ChgP) (w : World)
    (hF : OutF B w (.slice fa F.length fc) F) (hE : TB 100 w E [.slice fa F.length fc, cv]) (hC : OwnC B w cv l) (hS : Sml F) (hA : AscF F) (hl : l.length ≤ 1000) (hB : B ≤ w.heap.size) :
    Calls Try.prog 70 #[.pointer (some ⟨E, 0, none⟩)] w (DropR B E fa fc cv F l w) := by
  obtain ⟨vn, ev, hF⟩ := hF
  have D0 := Lib.hid (show DrS B E w w (.slice fa F.length fc) cv F l vn ev from ⟨hF, hE, hC, .refl _ _, .refl _ _⟩)
  obtain ⟨r0, r1, -⟩ := hE.blk.c2
  obtain ⟨co, cc, rfl⟩ : ∃ co cc, cv = .slice co l.length cc := by
    obtain ⟨a, c, h, -⟩ := own_slice hC
    exact ⟨a, c, h⟩
  have HK := Lib.hid (fun m : List ChgP => drops_keep hS hA m)
  have HB := Lib.hid hB
  clear hF hE hC hS hA hB
  go_enter Try.func70, Try.ntmps70
  go_wp2_with fail
  go_loopw [11] (fun i wr => ∃ (k : Nat) (vn : Nat → Value) (ev : Nat → Nat → Value), k ≤ l.length ∧ i = .int .i64 k ∧ DrS B E w wr (.slice fa F.length fc) (.slice co l.length cc) (dropsF F (l.take k)) l vn ev ∧ B ≤ wr.heap.size) (fun i _ => l.length - (intOf i).toNat)
  case atStart => exact ⟨0, _, _, Nat.zero_le _, rfl, D0.out, HB.out⟩
  case round =>
    obtain ⟨k, vn, ev, hk, rfl, hD, hB⟩ := hrel
    clear D0 HB r0 r1
    by_cases hlt : k < l.length
    · have hkk : (k : Int) < (l.length : Int) := by omega
      obtain ⟨a', c', hv, -, -, hch⟩ := hD.own.at_
      injection hv with hv hv2 hv3
      clear hv2
      subst hv
      subst hv3
      obtain ⟨b, o, rfl, hp⟩ := hch.get hlt
      have HNX : Hid (dropsF F (l.take (k + 1)) = dropF1 (dropsF F (l.take k)) (l[k]'hlt)) := Lib.hid (dropsF_take (List.getElem?_eq_getElem hlt))
      obtain ⟨hlen, hS, hA⟩ := HK.out (l.take k)
      generalize dropsF F (l.take k) = Fk at *
      have HLEN := Lib.hid hlen
      clear hlen
      generalize l[k] = c at *
      obtain ⟨⟨cd, ci⟩, nm, ⟨dv, ino⟩, ⟨nd, ni⟩⟩ := c
      obtain ⟨c0, c1, c2, c3, c4, c5, c6⟩ := hp
      obtain ⟨wK, hwK⟩ : ∃ wK, wK = wr.alloc (.cells #[.int .i64 cd, .int .i64 ci, .string nm, .int .i64 dv, .int .i64 ino, .int .i64 nd, .int .i64 ni] 66) := ⟨_, rfl⟩
      have hbK : Below wr.heap.size wr wK := by rw [hwK]; exact (Below.refl _ _).alloc (Nat.le_refl _) _
      have DK := hD.stay hbK hB
      have HBK := Nat.le_trans hB hbK.size
      have tK : TB 66 wK wr.heap.size [.int .i64 cd, .int .i64 ci, .string nm, .int .i64 dv, .int .i64 ino, .int .i64 nd, .int .i64 ni] := by rw [hwK]; exact TB.new1 wr _ _ _ rfl
      obtain ⟨⟨x0, x1, x2, x3, x4, x5, x6⟩, -⟩ := tK.blk.c7
      obtain ⟨r0, r1, -⟩ := DK.ed.blk.c2
      have hEl := DK.ed.lt
      have hKl := tK.lt
      have HWK := Lib.hid hwK
      have hbd := (Below.refl wK.heap.size wK).drew
      clear hwK hD hbK hch HK
      cases hn : nodeF Fk ⟨dv, ino⟩ with
      | none =>
        have CN := Lib.hid (fun W (hw : Below wK.heap.size wK W) => nodeAtO_none B fa fc Fk ⟨dv, ino⟩ W vn ev (by rw [HLEN.out]; exact DK.fil.stay hw) hS hn)
        rw [HLEN.out] at CN
        have HNF := Lib.hid hn
        have DKH := Lib.hid DK
        clear hn DK
        go_wp2_with fail
        rw [← HWK.out]
        clear HWK c0 c1 c2 c3 c4 c5 c6
        refine wp_region_any (by kernel_rfl) ?_
        try (change wpAny _ _ _ _ _ _ _ (World.drew _))
        refine wpAny_take (i := 0) (v := ?_) rfl (by kernel_rfl) (by kernel_rfl) (by kernel_rfl) (fun _ _ _ h => h) (Or.inl ⟨by kernel_rfl, ?_⟩) ?_
        rotate_left
        · (intro _; first | (go_simp; done) | (go_simp; with_reducible rfl))
        refine wpAny_take (i := 1) (v := ?_) rfl (by kernel_rfl) (by kernel_rfl) (by kernel_rfl) (fun _ _ _ h => h) (Or.inl ⟨by kernel_rfl, ?_⟩) ?_
        rotate_left
        · (intro _; first | (go_simp; done) | (go_simp; with_reducible rfl))
        refine wpAny_take (i := 2) (v := ?_) rfl (by kernel_rfl) (by kernel_rfl) (by kernel_rfl) (fun _ _ _ h => h) (Or.inl ⟨by kernel_rfl, ?_⟩) ?_
        rotate_left
        · (intro _; first | (go_simp; done) | (go_simp; with_reducible rfl))
        refine wpAny_take (i := 4) (v := ?_) rfl (by kernel_rfl) (by kernel_rfl) (by kernel_rfl) (fun _ _ _ h => h) (Or.inl ⟨by kernel_rfl, ?_⟩) ?_
        rotate_left
        · (intro _; first | (go_simp; done) | (go_simp; with_reducible rfl))
        refine wpAny_ready (rs := [3, 5]) (by kernel_rfl) (by simp) ?_
        refine AllReady.cons rfl (fun K hK => ?_) (AllReady.cons rfl (fun K hK => ?_) AllReady.nil)
        all_goals (go_simp; refine hK _ _ ?_; clear hK K)
        refine wpAny_ready (rs := [5]) (by kernel_rfl) (by simp) ?_
        refine AllReady.cons rfl (fun K hK => ?_) AllReady.nil
        go_simp
        refine hK _ _ ?_
        clear hK K
        rotate_left
        refine wpAny_ready (rs := [3]) (by kernel_rfl) (by simp) ?_
        refine AllReady.cons rfl (fun K hK => ?_) AllReady.nil
        go_simp
        refine hK _ _ ?_
        clear hK K
        all_goals
          refine wpAny_ready (rs := [6]) (by kernel_rfl) (by simp) ?_
          refine AllReady.cons rfl (fun K hK => ?_) AllReady.nil
          go_simp
          go_wp2_with ((go_at_call 39; (with_reducible refine (CN.out _ hbd).mono ?_); rintro e w1 ⟨rfl, hb30⟩))
          have hb3 : Below wK.heap.size wK w1 := hbd.trans hb30
          try (refine hK _ _ ?_; clear hK K)
          refine wpAny_take (i := 7) (v := ?_) rfl (by kernel_rfl) (by kernel_rfl) (by kernel_rfl) (fun _ _ _ h => h) (Or.inl ⟨by kernel_rfl, ?_⟩) ?_
          rotate_left
          · (intro _; first | (go_simp; done) | (go_simp; with_reducible rfl))
          refine wpAny_take (i := 8) (v := ?_) rfl (by kernel_rfl) (by kernel_rfl) (by kernel_rfl) (fun _ _ _ h => h) (Or.inl ⟨by kernel_rfl, ?_⟩) ?_
          rotate_left
          · (intro _; first | (go_simp; done) | (go_simp; with_reducible rfl))
          refine wpAny_take (i := 9) (v := undef) rfl (by kernel_rfl) (by kernel_rfl) (by kernel_rfl) (fun _ _ _ h => h) (Or.inr ⟨by kernel_rfl, rfl⟩) ?_
          refine wpAny_take (i := 10) (v := undef) rfl (by kernel_rfl) (by kernel_rfl) (by kernel_rfl) (fun _ _ _ h => h) (Or.inr ⟨by kernel_rfl, rfl⟩) ?_
          refine wpAny_take (i := 11) (v := undef) rfl (by kernel_rfl) (by kernel_rfl) (by kernel_rfl) (fun _ _ _ h => h) (Or.inr ⟨by kernel_rfl, rfl⟩) ?_
          refine wpAny_take (i := 13) (v := undef) rfl (by kernel_rfl) (by kernel_rfl) (by kernel_rfl) (fun _ _ _ h => h) (Or.inr ⟨by kernel_rfl, rfl⟩) ?_
          refine wpAny_take (i := 12) (v := undef) rfl (by kernel_rfl) (by kernel_rfl) (by kernel_rfl) (fun _ _ _ h => h) (Or.inr ⟨by kernel_rfl, rfl⟩) ?_
          refine wpAny_take (i := 14) (v := undef) rfl (by kernel_rfl) (by kernel_rfl) (by kernel_rfl) (fun _ _ _ h => h) (Or.inr ⟨by kernel_rfl, rfl⟩) ?_
          refine wpAny_take (i := 15) (v := undef) rfl (by kernel_rfl) (by kernel_rfl) (by kernel_rfl) (fun _ _ _ h => h) (Or.inr ⟨by kernel_rfl, rfl⟩) ?_
          refine wpAny_take (i := 16) (v := undef) rfl (by kernel_rfl) (by kernel_rfl) (by kernel_rfl) (fun _ _ _ h => h) (Or.inr ⟨by kernel_rfl, rfl⟩) ?_
          refine wpAny_take (i := 17) (v := ?_) rfl (by kernel_rfl) (by kernel_rfl) (by kernel_rfl) (fun _ _ _ h => h) (Or.inl ⟨by kernel_rfl, ?_⟩) ?_
          rotate_left
          · (intro _; first | (go_simp; done) | (go_simp; with_reducible rfl))
          refine wpAny_done (by kernel_rfl) ?_ _
          go_simp
        all_goals
          have HD := Lib.hid (DKH.out.stay hb3 HBK)
          have HB := Lib.hid (Nat.le_trans HBK hb3.size)
          have HX : Hid (dropsF F (l.take (k + 1)) = Fk) := Lib.hid (by rw [HNX.out]; unfold dropF1; rw [if_neg (fun h => by rw [HNF.out] at h; cases h.1)])
          clear DKH hb3 hb30 HBK r0 r1 x0 x1 x2 x3 x4 x5 x6
          go_wp2_with fail
          exact ⟨⟨k + 1, _, _, by omega, by go_num, by rw [HX.out]; exact HD.out, HB.out⟩, by simp [intOf]; omega⟩
      | some n =>
        obtain ⟨j, k0, d, hj, hd, hi, hk0⟩ := node_where hn
        obtain rfl : dv = (j : Int) := hj
        obtain ⟨gd, cD, hfv, hgd, -, -⟩ := DK.fil.gD hd
        injection hfv with hfa hf2 hf3
        clear hf2
        subst hfa
        subst hf3
        obtain ⟨g, cap, hgv, hgn, -, -⟩ := DK.fil.gN hd hk0
        obtain ⟨n', hk1, hk2, -, hkl⟩ := idxL_node hi
        have CN := Lib.hid (fun W (hw : Below wK.heap.size wK W) => nodeAtO_some B (some ⟨gd, 0, none⟩) fc Fk ⟨(j : Int), ino⟩ W vn ev (by rw [HLEN.out]; exact DK.fil.stay hw) hS rfl hd hi hgn)
        have CL := Lib.hid (fun W (hw : Below wK.heap.size wK W) => Links_any (some ⟨gd, 0, none⟩) fc Fk ⟨(j : Int), ino⟩ W (by
          obtain ⟨a', c', hv, -, -, hF⟩ := (DK.fil.stay hw).at_
          injection hv with hv _ _
          subst hv
          exact hF) hS)
        rw [HLEN.out] at CN CL
        have HNF := Lib.hid hn
        have DKH := Lib.hid DK
        have HNX2 : Hid (dropsF F (l.take (k + 1)) = if linksF Fk ⟨(j : Int), ino⟩ = 0 then onF Fk (j : Int) (fun d => dropD d ino) else Fk) := Lib.hid (by
          rw [HNX.out]
          unfold dropF1
          by_cases hz : linksF Fk ⟨(j : Int), ino⟩ = 0
          · rw [if_pos ⟨by show (nodeF Fk ⟨(j : Int), ino⟩).isSome = true; rw [HNF.out]; rfl, hz⟩, if_pos hz]
          · rw [if_neg (fun h => hz h.2), if_neg hz])
        clear hn DK HNX
        obtain ⟨L, hL⟩ : ∃ L, L = linksF Fk ⟨(j : Int), ino⟩ := ⟨_, rfl⟩
        rw [← hL] at CL HNX2
        clear hL
        by_cases hz : L = 0
        · subst hz
          have HX : Hid (dropsF F (l.take (k + 1)) = onF Fk (j : Int) (fun d => dropD d ino)) := Lib.hid (by rw [HNX2.out, if_pos rfl])
          have HJ : (j : Int) < (F.length : Int) := by
            have := (List.getElem?_eq_some_iff.1 hd).1
            have := HLEN.out
            omega
          have hcd := DKH.out.cellD hd hgd
          have hgdl : gd < wK.heap.size := World.block_lt_of_cell? _ _ hcd
          have hNl : d.nodes.length ≤ 1000 := hS.nodes d (List.mem_of_getElem? hd)
          have hkl' : (k0 : Int) < (d.nodes.length : Int) := by omega
          have HGV := Lib.hid hgv
          rw [hgv] at hcd
          have HDN := Lib.hid (fun W (hw : Below wK.heap.size wK W) => DKH.out.stay hw HBK)
          have CX := Lib.hid (fun W (hw : Below wK.heap.size wK W) => indexOf_any (some ⟨g, 0, none⟩) cap d.nodes ino W (by
            obtain ⟨a', c', hv, -, -, hN⟩ := ((HDN.out W hw).fil.nodes j d hd).at_ (fun k n hk => (HDN.out W hw).fil.ents j d k n hd hk)
            rw [HGV.out] at hv
            injection hv with hv _ _
            subst hv
            exact hN) (by omega))
          rw [idxI_some hi] at CX
          have CD := Lib.hid (fun W (hw : Below wK.heap.size wK W) => deleteN_any B W g cap d.nodes.length k0 (nrow (ev j) 0 d.nodes) (by have := (HDN.out W hw).fil.nodes j d hd; rw [HGV.out] at this; exact this) hkl hNl (DKH.out.one hd))
          have HDH := Lib.hid hd
          have HIH := Lib.hid hi
          have HAH := Lib.hid hA
          clear hgv hd hi hk0 hk1 hk2 hS hA hgn
          go_wp2_with fail
          rw [← HWK.out]
          clear HWK c0 c1 c2 c3 c4 c5 c6
          go_region_held3 (fun W => W.cell? ⟨wr.heap.size, 3, none⟩ = some (.int .i64 (j : Int)) ∧ W.cell? ⟨wr.heap.size, 4, none⟩ = some (.int .i64 ino) ∧ W.cell? ⟨E, 0, none⟩ = some (.slice (some ⟨gd, 0, none⟩) F.length fc))
            (first
              | go_keep
              | (with_reducible exact ⟨(hb3.cell (p := ⟨wr.heap.size, 3, none⟩) hKl).trans x3, (hb3.cell (p := ⟨wr.heap.size, 4, none⟩) hKl).trans x4, (hb3.cell (p := ⟨E, 0, none⟩) hEl).trans r0⟩)
              | (with_reducible exact ⟨(hb4.cell (p := ⟨wr.heap.size, 3, none⟩) hKl).trans x3, (hb4.cell (p := ⟨wr.heap.size, 4, none⟩) hKl).trans x4, (hb4.cell (p := ⟨E, 0, none⟩) hEl).trans r0⟩))
            ((first
              | (go_at_call 39; (with_reducible refine (CN.out _ hbd).mono ?_); rintro e w1 ⟨rfl, hb30⟩; have hb3 : Below wK.heap.size wK w1 := hbd.trans hb30)
              | (go_at_call 22; (with_reducible refine (CL.out _ hb3).mono ?_); rintro e w2 ⟨rfl, hb40⟩; have hb4 : Below wK.heap.size wK w2 := hb3.trans (hb40.mono hb3.size))))
          have hc2 := (hb4.cell (p := ⟨gd, j * 2 + 1, none⟩) hgdl).trans hcd
          have y3 := (hb4.cell (p := ⟨wr.heap.size, 3, none⟩) hKl).trans x3
          have y4 := (hb4.cell (p := ⟨wr.heap.size, 4, none⟩) hKl).trans x4
          have y0 := (hb4.cell (p := ⟨E, 0, none⟩) hEl).trans r0
          clear r0 r1 x0 x1 x2 x3 x5 x6 CN CL hb30 hb40 hb3
          go_wp2_with fail
          go_region
          go_wp2_with fail
          have hb4d : Below wK.heap.size wK w2.drew.drew := hb4.drew.drew
          go_region_held3 (fun W => W.cell? ⟨wr.heap.size, 4, none⟩ = some (.int .i64 ino) ∧ W.cell? ⟨gd, j * 2 + 1, none⟩ = some (.slice (some ⟨g, 0, none⟩) d.nodes.length cap))
            (first
              | go_keep
              | (with_reducible exact ⟨(hb5.cell (p := ⟨wr.heap.size, 4, none⟩) hKl).trans x4, (hb5.cell (p := ⟨gd, j * 2 + 1, none⟩) hgdl).trans hcd⟩))
            ((go_at_call 64; (with_reducible refine (CX.out _ hb4d).mono ?_); rintro e w3 ⟨rfl, hb50⟩; have hb5 : Below wK.heap.size wK w3 := hb4d.trans (hb50.mono hb4d.size)))
          have D3 := HDN.out _ hb5
          have HB3 := Lib.hid (Nat.le_trans HBK hb5.size)
          have CD3 := Lib.hid (CD.out _ hb5)
          have z2 := (hb5.cell (p := ⟨gd, j * 2 + 1, none⟩) hgdl).trans hcd
          have HG := Lib.hid (fun wD hg => D3.cellG HDH.out hgd (w' := wD) hg)
          have D3 := Lib.hid D3
          clear hc2 y3 y4 y0 x4 hcd CX CD HDN hb4d hb50 hb4
          go_wp2_with fail
          refine CD3.out.mono ?_
          rintro e wD ⟨rfl, hown, hgrow⟩
          obtain ⟨s7, f7⟩ := HG.out wD (by rw [HGV.out]; exact hgrow)
          rw [HGV.out] at s7
          obtain ⟨vn', ev', D4⟩ := D3.out.drop HAH.out (x := ⟨(j : Int), ino⟩) rfl HDH.out HIH.out HB3.out HGV.out hgrow hown hgd
          have HD := Lib.hid D4
          have HB := Lib.hid (show B ≤ (wD.setCell ⟨gd, j * 2 + 1, none⟩ (.slice (some ⟨g, 0, none⟩) (d.nodes.length - 1) cap)).heap.size by rw [size_set]; exact Nat.le_trans HB3.out hgrow.size)
          clear D4 hown hgrow z2 D3 hgd
          go_wp2_with fail
          exact ⟨⟨k + 1, _, _, by omega, by go_num, by rw [HX.out]; exact HD.out, HB.out⟩, by simp [intOf]; omega⟩
        · have HX : Hid (dropsF F (l.take (k + 1)) = Fk) := Lib.hid (by rw [HNX2.out, if_neg hz])
          have hpos : (0 : Int) < (L : Int) := by omega
          clear hz HNX2 hd hi hk0 hk1 hk2 hgn hgv hgd hS hA
          go_wp2_with fail
          rw [← HWK.out]
          clear HWK c0 c1 c2 c3 c4 c5 c6
          go_region_held3 (fun W => W.cell? ⟨wr.heap.size, 3, none⟩ = some (.int .i64 (j : Int)) ∧ W.cell? ⟨wr.heap.size, 4, none⟩ = some (.int .i64 ino) ∧ W.cell? ⟨E, 0, none⟩ = some (.slice (some ⟨gd, 0, none⟩) F.length fc))
            (first
              | go_keep
              | (with_reducible exact ⟨(hb3.cell (p := ⟨wr.heap.size, 3, none⟩) hKl).trans x3, (hb3.cell (p := ⟨wr.heap.size, 4, none⟩) hKl).trans x4, (hb3.cell (p := ⟨E, 0, none⟩) hEl).trans r0⟩)
              | (with_reducible exact ⟨(hb4.cell (p := ⟨wr.heap.size, 3, none⟩) hKl).trans x3, (hb4.cell (p := ⟨wr.heap.size, 4, none⟩) hKl).trans x4, (hb4.cell (p := ⟨E, 0, none⟩) hEl).trans r0⟩))
            ((first
              | (go_at_call 39; (with_reducible refine (CN.out _ hbd).mono ?_); rintro e w1 ⟨rfl, hb30⟩; have hb3 : Below wK.heap.size wK w1 := hbd.trans hb30)
              | (go_at_call 22; (with_reducible refine (CL.out _ hb3).mono ?_); rintro e w2 ⟨rfl, hb40⟩; have hb4 : Below wK.heap.size wK w2 := hb3.trans (hb40.mono hb3.size))))
          have HD := Lib.hid (DKH.out.stay hb4 HBK)
          have HB := Lib.hid (Nat.le_trans HBK hb4.size)
          clear DKH hb3 hb30 hb4 hb40 HBK r0 r1 x0 x1 x2 x3 x4 x5 x6
          go_wp2_with fail
          exact ⟨⟨k + 1, _, _, by omega, by go_num, by rw [HX.out]; exact HD.out, HB.out⟩, by simp [intOf]; omega⟩
    · have hkk : ¬ (k : Int) < (l.length : Int) := by omega
      obtain rfl : k = l.length := by omega
      have HD := Lib.hid hD
      clear hD hk hlt
      have HFIN : Hid (DropR B E fa fc (.slice co l.length cc) F l w (.returned (.tuple #[])) wr) := Lib.hid (by
        obtain ⟨h1, h2, h3, h4, h5⟩ := HD.out
        rw [List.take_length] at h1
        exact ⟨rfl, h2, ⟨_, _, h1⟩, h3, h4, h5⟩)
      clear HD HK
      go_wp2_with fail
      exact bodyPost_end (v := .tuple #[]) (by simp [results, Try.f70, go_sem]) rfl HFIN.out
end Go.Proofs.Ytafnbpkdenjipaa.fl
