/-
  The law RecordDiffer: its walk.
-/
import Derived.Test.YtiappccnjblcmaaDoorRAgree
import Derived.Test.YtiappccnjblcmaaDoorRLaid
import Derived.Test.YtiappccnjblcmaaDoorRSrc
import Derived.Test.YtiappccnjblcmaaDoorRow
import Derived.Deep.DeepCutAuto
import Derived.Deep.CutBlock
import Derived.Deep.AppendLies
import Derived.Deep.DrawnRows
import Derived.Laws.AppendOwnNone
namespace Go.Proofs.YtiappccnjblcmaaDoor
open Go.RowKit Go.Proofs.YtiappccnjblcmaaDoor.cm Go.Proofs.YtiappccnjblcmaaDoor.vl Go.Proofs.YtiappccnjblcmaaDoor.rd Go.Proofs.YtiappccnjblcmaaDoor.sr
attribute [local go_sem ↓] Go.wp_at_zero Go.wp_at_succ

namespace recordDiffer
theorem line_inj {t tm sr t' tm' sr' : Int} {ps qs : List PairP} (h1 : ckR t tm sr ps = 0) (h2 : ckR t' tm' sr' qs = 0) (i1 : ∀ p ∈ ps, isInt p.num) (i2 : ∀ p ∈ qs, isInt p.num) (h : fR t tm sr ps = fR t' tm' sr' qs) : t = t' ∧ tm = tm' ∧ sr = sr' ∧ ps = qs := by
  unfold fR at h
  rw [if_pos h1, if_pos h2] at h
  have h := congrArg (fun b : ByteArray => b.data.toList) h
  simp only [bs_data] at h
  have a1 : fmtR ⟨t, tm, sr, ps⟩ = some (lineL ⟨t, tm, sr, ps⟩) := by unfold fmtR; rw [if_pos (show checkR ⟨t, tm, sr, ps⟩ = 0 from h1)]
  have a2 : fmtR ⟨t', tm', sr', qs⟩ = some (lineL ⟨t', tm', sr', qs⟩) := by unfold fmtR; rw [if_pos (show checkR ⟨t', tm', sr', qs⟩ = 0 from h2)]
  have b1 := parR_fmtR a1 i1
  have b2 := parR_fmtR a2 i2
  rw [h, b2] at b1
  injection b1 with b1
  injection b1 with c1 c2 c3 c4
  exact ⟨c1.symm, c2.symm, c3.symm, c4.symm⟩
theorem line_same {t tm sr t' tm' sr' : Int} {ps qs : List PairP} (h1 : ckR t tm sr ps = 0) (h2 : ckR t' tm' sr' qs = 0) (i1 : ∀ p ∈ ps, isInt p.num) (i2 : ∀ p ∈ qs, isInt p.num) :
    ((fR t tm sr ps).toList == (fR t' tm' sr' qs).toList) = sameR t tm sr t' tm' sr' ps qs := by
  rw [Bool.eq_iff_iff, sameR_iff, beq_iff_eq, ByteArray.toList_eq, ByteArray.toList_eq]
  constructor
  · intro h
    exact line_inj h1 h2 i1 i2 (ByteArray.ext (Array.toList_inj.1 h))
  · rintro ⟨rfl, rfl, rfl, rfl⟩
    rfl

theorem psc_one : ∀ ps : List PairP, ∀ u ∈ psc ps, u.oneCell' = true
  | [], u, h => by simp [psc] at h
  | p :: r, u, h => by
    rw [psc] at h
    rcases List.mem_append.1 h with h | h
    · simp [pcs] at h
      rcases h with rfl | rfl | rfl | rfl <;> rfl
    · exact psc_one r u h
theorem pairs_news {w : World} {ad : Addr} {ps : List PairP} (h : PairsAt w (some ad) ps) : ∀ j u, (psc ps)[j]? = some u → w.cell? (ad.add j) = some u := by
  intro j u hj
  rcases h.at_ with h0 | ⟨b, o, hab, hc⟩
  · rw [h0] at hj; simp [psc] at hj
  · injection hab with hab
    subst hab
    have hl := (List.getElem?_eq_some_iff.1 hj).1
    rw [psc_len] at hl
    have hq : j / 4 < ps.length := by omega
    have hp := hc (j / 4) ps[j / 4] (List.getElem?_eq_getElem hq)
    have hx := psc_at ps (j / 4) ps[j / 4] (List.getElem?_eq_getElem hq) (j % 4) (Nat.mod_lt _ (by omega))
    rw [show j / 4 * 4 + j % 4 = j by omega, hj] at hx
    rw [Addr.add_mid]
    have hi : j % 4 = 0 ∨ j % 4 = 1 ∨ j % 4 = 2 ∨ j % 4 = 3 := by omega
    rcases hi with e | e | e | e
    · rw [show o + j = o + j / 4 * 4 by omega, hp.c0, hx, e]; rfl
    · rw [show o + j = o + j / 4 * 4 + 1 by omega, hp.c1, hx, e]; rfl
    · rw [show o + j = o + j / 4 * 4 + 2 by omega, hp.c2, hx, e]; rfl
    · rw [show o + j = o + j / 4 * 4 + 3 by omega, hp.c3, hx, e]; rfl
theorem pairs_set {w : World} {B i : Nat} {v : Option Addr} {ps : List PairP} (h : PairsAt w v ps) (hn : ∀ g o, v = some ⟨g, o, none⟩ → g ≠ B) (u : Value) : PairsAt (w.setCell ⟨B, i, none⟩ u) v ps := by
  refine ⟨h.ok, ?_⟩
  rcases h.at_ with h0 | ⟨g, o, rfl, hc⟩
  · exact .inl h0
  · refine .inr ⟨g, o, rfl, fun j p hj => ?_⟩
    have hp := hc j p hj
    have hx : ∀ q, (w.setCell ⟨B, i, none⟩ u).cell? ⟨g, q, none⟩ = w.cell? ⟨g, q, none⟩ := fun q => World.cell?_of_block (w := w) (Below.heap_setCell w ⟨B, i, none⟩ u g (hn g o rfl))
    exact ⟨(hx _).trans hp.c0, (hx _).trans hp.c1, (hx _).trans hp.c2, (hx _).trans hp.c3⟩

theorem four_at1 {w : World} {B : Nat} {a b c d : Value} (h : Four w B a b c d) (x : Value) : Four (w.setCell ⟨B, 1, none⟩ x) B a x c d := by
  obtain ⟨c0, c1, c2, c3, f0, f1, f2, f3⟩ := h
  constructor <;> simp [go_sem, c0, c1, c2, c3, f0, f1, f2, f3]

/-- two records in their blocks -/
structure DW (w : World) (gA gB : Nat) (t tm sr : Int) (va : Option Addr) (cpa : Nat) (pa : List PairP) (t' tm' sr' : Int) (vb : Option Addr) (cpb : Nat) (pb : List PairP) (W : World) : Prop where
  bel : Below w.heap.size w W
  A : Quad W gA (.int .i64 t) (.int .i64 tm) (.int .i64 sr) (.slice va pa.length cpa)
  B : Quad W gB (.int .i64 t') (.int .i64 tm') (.int .i64 sr') (.slice vb pb.length cpb)
  PA : PairsAt W va pa
  PB : PairsAt W vb pb
  la : pa.length ≤ cpa ∧ pa.length ≤ 100
  lb : pb.length ≤ cpb ∧ pb.length ≤ 100
theorem DW.step {w W W' : World} {gA gB : Nat} {t tm sr t' tm' sr' : Int} {va vb : Option Addr} {cpa cpb : Nat} {pa pb : List PairP} (h : DW w gA gB t tm sr va cpa pa t' tm' sr' vb cpb pb W) (hb : Below W.heap.size W W') : DW w gA gB t tm sr va cpa pa t' tm' sr' vb cpb pb W' :=
  ⟨h.bel.trans (hb.mono h.bel.size), h.A.below hb, h.B.below hb, h.PA.below hb, h.PB.below hb, h.la, h.lb⟩

set_option maxRecDepth 100000 in
set_option maxHeartbeats 16000000 in
theorem walk (la : Option Addr) (llen lcap : Nat) (zs : List Int) (w : World) (hr : IsRow .i64 w la llen lcap zs) (hL : laidMetH Tryd.prog Rows.recordDifferRow.laid w) (_ : w.ShapedOpen Tryd.prog) :
    Calls Tryd.prog 6 #[.slice la llen lcap] w fun e w' => e = .returned (.bool true) ∧ Below w.heap.size w w' := by
  have hT : HexT w := hex_of hL (by rfl)
  have hE : EnvR w := ⟨⟨hT, pow_of hL (by rfl), pos_of hT⟩, rec_of hL (by rfl)⟩
  have HE := Lib.hid (fun W (h : Below w.heap.size w W) => hE.below h)
  have CW := Lib.hid (fun W (h : Below w.heap.size w W) => rd.awake_any W (hE.below h))
  have CN := Lib.hid (new_any la llen lcap w)
  have hs0 := src_new w la llen lcap (nums_of_row hr)
  clear hT hE hL hr
  go_enter Tryd.func6, Tryd.ntmps6
  go_wp2_with fail
  refine CN.out.mono ?_
  rintro e w1 ⟨rfl, hw1⟩
  rw [← hw1] at hs0
  have hbe1 : Beside w.heap.size w w1 := by rw [hw1]; exact (Beside.refl _ w).alloc _
  clear hw1
  have CR := Lib.hid (record_b w w1 w.heap.size la llen lcap 0 hs0 (by omega))
  have hl1 := hs0.lt
  clear hs0
  go_wp2_with fail
  refine CR.out.mono ?_
  rintro e w2 ⟨t, tm, sr, va, cpa, pa, k1, rfl, ⟨-, ht2, -⟩, ⟨hp1, hp2, hp3⟩, hPA, hVA, hk1, hs2, hb2⟩
  have hbe2 := hbe1.trans hb2
  have hl2 := hs2.lt
  have hwl2 : w.heap.size < w2.heap.size := hl2
  have qA := Four.new w2 31 (.int .i64 t) (.int .i64 tm) (.int .i64 sr) (.slice va pa.length cpa)
  have ha := heap_alloc w2 (.cells #[.int .i64 t, .int .i64 tm, .int .i64 sr, .slice va pa.length cpa] 31)
  have qB := Four.new (w2.alloc (.cells #[.int .i64 t, .int .i64 tm, .int .i64 sr, .slice va pa.length cpa] 31)) 31 (.int .i64 t) (.int .i64 tm) (.int .i64 sr) (.slice va pa.length cpa)
  rw [ha] at qB
  have hbx := ((Beside.refl w.heap.size w2).alloc (.cells #[.int .i64 t, .int .i64 tm, .int .i64 sr, .slice va pa.length cpa] 31)).alloc (.cells #[.int .i64 t, .int .i64 tm, .int .i64 sr, .slice va pa.length cpa] 31)
  have hs3 := (hs2.alloc (.cells #[.int .i64 t, .int .i64 tm, .int .i64 sr, .slice va pa.length cpa] 31)).alloc (.cells #[.int .i64 t, .int .i64 tm, .int .i64 sr, .slice va pa.length cpa] 31)
  have qA := qA.beside ((Beside.refl w.heap.size _).alloc (.cells #[.int .i64 t, .int .i64 tm, .int .i64 sr, .slice va pa.length cpa] 31)) (by omega)
  have CX := Lib.hid (n_b w _ w.heap.size la llen lcap k1 4 hs3 (by omega) (by omega) (by omega))
  have hVA' : ∀ g o, va = some ⟨g, o, none⟩ → g ≠ w.heap.size := fun g o hg => by have := hVA g o hg; omega
  have HVA := Lib.hid hVA'
  clear hs3 hs2 hb2 hbe1 ha hVA hVA'
  go_wp2_with fail
  refine CX.out.mono ?_
  rintro e w3 ⟨x, hx, rfl, hs3, hb3⟩
  have hb23 := hbx.trans hb3
  have qA := qA.beside hb3 (by omega)
  have qB := qB.beside hb3 (by omega)
  have hz3 : w2.heap.size + 1 < w3.heap.size := qB.lt
  clear hbx hb3 CX
  go_upto_block 0 with fail
  go_cut [] (fun wx => ∃ (t' tm' sr' : Int) (vb : Option Addr) (cpb : Nat) (pb : List PairP), DW w w2.heap.size (w2.heap.size + 1) t tm sr va cpa pa t' tm' sr' vb cpb pb wx)
  case first =>
    have hbw3 := hbe2.trans hb23
    have hx4 : x = 0 ∨ x = 1 ∨ x = 2 ∨ x = 3 := by omega
    rcases hx4 with rfl | rfl | rfl | rfl
    · have CR := Lib.hid (record_b w w3 w.heap.size la llen lcap (k1 + 1) hs3 (by omega))
      go_wp2_with fail
      refine CR.out.mono ?_
      rintro e w4 ⟨t', tm', sr', vb, cpb, pb, k2, rfl, -, ⟨hq1, hq2, -⟩, hPB, hVB, hk2, hs4, hb4⟩
      have qA4 := qA.beside hb4 (by omega)
      have qB4 := qB.beside hb4 (by omega)
      have hb24 := hb23.trans hb4
      have hbw4 := hbw3.trans hb4
      have hset := below_set4 (hbw4.below (Nat.le_refl _) (Nat.le_refl _)) (show w.heap.size ≤ w2.heap.size + 1 by omega) (.int .i64 t') (.int .i64 tm') (.int .i64 sr') (.slice vb pb.length cpb)
      have qB5 := qB4.all (.int .i64 t') (.int .i64 tm') (.int .i64 sr') (.slice vb pb.length cpb)
      have qA5 := (((qA4.other (C := w2.heap.size + 1) (o := 0) (by omega) (.int .i64 t')).other (C := w2.heap.size + 1) (o := 1) (by omega) (.int .i64 tm')).other (C := w2.heap.size + 1) (o := 2) (by omega) (.int .i64 sr')).other (C := w2.heap.size + 1) (o := 3) (by omega) (.slice vb pb.length cpb)
      have hn : ∀ g o, vb = some ⟨g, o, none⟩ → g ≠ w2.heap.size + 1 := fun g o hg => by have := hVB g o hg; omega
      have hPB5 := pairs_set (i := 3) (pairs_set (i := 2) (pairs_set (i := 1) (pairs_set (i := 0) hPB hn (.int .i64 t')) hn (.int .i64 tm')) hn (.int .i64 sr')) hn (.slice vb pb.length cpb)
      have hb25 := (((hb24.setNew (c := w2.heap.size + 1) (by omega) 0 (.int .i64 t')).setNew (c := w2.heap.size + 1) (by omega) 1 (.int .i64 tm')).setNew (c := w2.heap.size + 1) (by omega) 2 (.int .i64 sr')).setNew (c := w2.heap.size + 1) (by omega) 3 (.slice vb pb.length cpb)
      have hPA5 := pairs_beside hPA hb25 HVA.out
      have hD : DW w w2.heap.size (w2.heap.size + 1) t tm sr va cpa pa t' tm' sr' vb cpb pb _ := ⟨hset, ⟨qA5.c0, qA5.c1, qA5.c2, qA5.c3, qA5.f0, qA5.f1, qA5.f2, qA5.f3⟩, ⟨qB5.c0, qB5.c1, qB5.c2, qB5.c3, qB5.f0, qB5.f1, qB5.f2, qB5.f3⟩, hPA5, hPB5, ⟨hp2, by omega⟩, ⟨hq2, by omega⟩⟩
      obtain ⟨b0, b1, b2, b3, g0, g1, g2, g3⟩ := qB4
      clear hset qB5 qA5 hPB5 hb25 hPA5 qA4 hPB hPA qA qB
      go_wp2_with fail
      go_meet
      exact ⟨_, _, _, _, _, _, hD⟩
    · have hsd : SrcAt w w3.drew w.heap.size la llen lcap (k1 + 1) := hs3.later (Below.refl w3.heap.size w3).drew
      have CQ := Lib.hid (fun W (hs : SrcAt w W w.heap.size la llen lcap (k1 + 1)) => n_b w W w.heap.size la llen lcap (k1 + 1) 2 hs (by omega) (by omega) (by omega))
      have qBd : Four w3.drew (w2.heap.size + 1) (.int .i64 t) (.int .i64 tm) (.int .i64 sr) (.slice va pa.length cpa) := qB.far rfl
      have qAd : Four w3.drew w2.heap.size (.int .i64 t) (.int .i64 tm) (.int .i64 sr) (.slice va pa.length cpa) := qA.far rfl
      have hb3d : Beside w.heap.size w2 w3.drew := hb23.trans ⟨rfl, rfl, rfl, Nat.le_refl _, fun _ _ _ => rfl⟩
      have hbwd : Beside w.heap.size w w3.drew := hbe2.trans hb3d
      have b1 := qB.c1
      have g1 := qB.f1
      have hw : ∀ y : Nat, y < 2 → IntKind.i64.wrap (tm + (y : Int)) = tm + (y : Int) := fun y hy => IntWalk.i64_in _ (by omega)
      go_wp2_with fail
      go_region_law (first | (go_simp; go_wp2_with ((go_at_call 23; refine (CQ.out _ hsd).mono ?_; rintro e wP ⟨y, hy, rfl, hsP, hbP⟩; have qBP := qBd.beside hbP (by omega); have qAP := qAd.beside hbP (by omega); have hb2P := hb3d.trans hbP; have hbwP := hbwd.trans hbP; have p1 := qBP.c1; have q1 := qBP.f1; have hwy := hw y hy))))
      all_goals
        have hset := (hbwP.setNew (c := w2.heap.size + 1) (by omega) 1 (.int .i64 (tm + (y : Int)))).below (Nat.le_refl _) (Nat.le_refl _)
        have qA7 := qAP.other (C := w2.heap.size + 1) (o := 1) (by omega) (.int .i64 (tm + (y : Int)))
        have qB7 := four_at1 qBP (.int .i64 (tm + (y : Int)))
        have hP7 := pairs_beside hPA (hb2P.setNew (c := w2.heap.size + 1) (by omega) 1 (.int .i64 (tm + (y : Int)))) HVA.out
        have hD : DW w w2.heap.size (w2.heap.size + 1) t tm sr va cpa pa t (tm + (y : Int)) sr va cpa pa _ := ⟨hset, ⟨qA7.c0, qA7.c1, qA7.c2, qA7.c3, qA7.f0, qA7.f1, qA7.f2, qA7.f3⟩, ⟨qB7.c0, qB7.c1, qB7.c2, qB7.c3, qB7.f0, qB7.f1, qB7.f2, qB7.f3⟩, hP7, hP7, ⟨hp2, by omega⟩, ⟨hp2, by omega⟩⟩
        clear hset qA7 qB7 hP7 qA qB hPA qBd qAd qBP qAP
        go_wp2_with fail
        go_meet
        exact ⟨_, _, _, _, _, _, hD⟩
    · obtain ⟨i0, hi, hz0, hz1, hz2⟩ := info_parts infoPair
      have hPA3 := pairs_beside hPA hb23 HVA.out
      have nil0 := World.ownsRow_nil w3 w3.heap.size 38 4
      have qA3 := qA.c3
      rcases va with _ | ad
      · have hp0 : pa = [] := by
          rcases hPA.at_ with h0 | ⟨g, o, h0, -⟩
          · exact h0
          · cases h0
        subst hp0
        obtain rfl := hp3 rfl
        go_wp2_with (first
          | (at_builtin; refine wpList_append_own_none rfl _ _ 29 rfl w3.heap.size 38 i0 4 Tryd.underlying29 hi _ 0 [] rfl nil0 rfl ?_)
          | fail)
        have hs4 := hs3
        have hb34 : Beside w.heap.size w3 w3 := Beside.refl _ _
        have CQ := Lib.hid (pair_b w w3 w.heap.size la llen lcap (k1 + 1) hs4 (by omega))
        go_wp2_with fail
        refine CQ.out.mono ?_
        rintro e w5 ⟨nm, kd, nu, tx, k2, rfl, h1, h2, h3, h4, h5, hs5, hb5⟩
        obtain ⟨nmL, rfl⟩ : ∃ l, nm = bs l := ⟨nm.data.toList, (bs_of nm).symm⟩
        obtain ⟨txL, rfl⟩ : ∃ l, tx = bs l := ⟨tx.data.toList, (bs_of tx).symm⟩
        have own5 := own_beside nil0 hb5 (by omega)
        have hb35 := hb34.trans hb5
        clear CQ hs4 hb34 nil0 hb5
        have nw : Hid (∀ j u, ([.string (bs nmL), .int .i64 kd, .int .i64 nu, .string (bs txL)] : List Value)[j]? = some u → (w5.alloc (.cells #[.string (bs nmL), .int .i64 kd, .int .i64 nu, .string (bs txL)] 38)).cell? ((⟨w5.heap.size, 0, none⟩ : Addr).add j) = some u) := Lib.hid (World.news_of_block (cs := #[.string (bs nmL), .int .i64 kd, .int .i64 nu, .string (bs txL)]) (t := 38) (fr := (0, 0)) (heap_alloc_new w5 _))
        go_wp2_with (first
          | (at_builtin; refine wpList_append_own _ rfl _ _ 29 rfl w3.heap.size 38 i0 _ 4 48 Tryd.underlying29 hi hz0 hz1 hz2 rfl (by omega) _ 0 _ rfl (own5.alloc _) ⟨w5.heap.size, 0, none⟩ 1 1 [.string (bs nmL), .int .i64 kd, .int .i64 nu, .string (bs txL)] rfl rfl nw.out ?c5 ?c6 ?c7 ?c8 ?_)
          | fail)
        case c5 => simp [Value.oneCell']
        case c6 => unfold maxLen; omega
        case c7 => omega
        case c8 =>
          have := hb35.size
          simp
          omega
        intro v6 w6 own6 hgrow6 _
        have hge : ∀ g, Value.ownBlock (.slice none 0 0) = some g → w3.heap.size ≤ g := fun g hg => (own5.lt g hg).1
        have hb36 := (hb35.alloc (.cells #[.string (bs nmL), .int .i64 kd, .int .i64 nu, .string (bs txL)] 38)).grown hgrow6 hge
        have own6' : OwnPairs w3.heap.size w6 v6 ([] ++ [(⟨nmL, kd, nu, txL⟩ : PairP)]) := by
          unfold OwnPairs
          rw [psc_append, List.length_append]
          exact own6
        have hok6 : ∀ p ∈ [] ++ [(⟨nmL, kd, nu, txL⟩ : PairP)], POk p := fun p hp => by
          rcases List.mem_append.1 hp with hp | hp
          · exact hPA.ok p hp
          · simp at hp
            subst hp
            rw [bs_size] at h1 h4
            exact ⟨by show nmL.length ≤ _; omega, by show txL.length ≤ _; omega, h3⟩
        obtain ⟨vb, cpb, rfl, hPB6, hcp⟩ := own_pairs own6' hok6
        have hVB := own_from own6' _ _ _ rfl
        have hlen : ([] ++ [(⟨nmL, kd, nu, txL⟩ : PairP)]).length ≤ 100 := by rw [List.length_append]; show 0 + 1 ≤ 100; omega
        have hlen2 : ([] ++ [(⟨nmL, kd, nu, txL⟩ : PairP)]).length = 0 + 1 := by rw [List.length_append]; rfl
        generalize [] ++ [(⟨nmL, kd, nu, txL⟩ : PairP)] = pb at *
        have qA6 := qA.beside hb36 (by omega)
        have qB6 := qB.beside hb36 (by omega)
        have hb26 := hb23.trans hb36
        have hn : ∀ g o, vb = some ⟨g, o, none⟩ → g ≠ w2.heap.size + 1 := fun g o hg => by have := hVB g o hg; omega
        have hPA6 := pairs_beside hPA (hb26.setNew (c := w2.heap.size + 1) (by omega) 3 (.slice vb pb.length cpb)) HVA.out
        have hPB7 := pairs_set (i := 3) hPB6 hn (.slice vb pb.length cpb)
        have hset := ((hbw3.trans hb36).setNew (c := w2.heap.size + 1) (by omega) 3 (.slice vb pb.length cpb)).below (Nat.le_refl _) (Nat.le_refl _)
        have qA7 := qA6.other (C := w2.heap.size + 1) (o := 3) (by omega) (.slice vb pb.length cpb)
        have qB7 := qB6.at3 (.slice vb pb.length cpb)
        have hD : DW w w2.heap.size (w2.heap.size + 1) t tm sr none 0 [] t tm sr vb cpb pb _ := ⟨hset, ⟨qA7.c0, qA7.c1, qA7.c2, qA7.c3, qA7.f0, qA7.f1, qA7.f2, qA7.f3⟩, ⟨qB7.c0, qB7.c1, qB7.c2, qB7.c3, qB7.f0, qB7.f1, qB7.f2, qB7.f3⟩, hPA6, hPB7, ⟨hp2, by omega⟩, ⟨hcp, hlen⟩⟩
        obtain ⟨b0, b1, b2, b3, g0, g1, g2, g3⟩ := qB6
        rw [hlen2] at *
        clear hset qA6 qA7 qB7 hPA6 hPB7 hPB6 hVB hn hb36 hb26 own6 own6' hgrow6 hge nw own5 hb35 hs5 qA qB
        go_wp2_with fail
        go_meet
        exact ⟨_, _, _, _, _, _, hD⟩
      · have hnw := Lib.hid (pairs_news hPA3)
        have h1c := Lib.hid (psc_one pa)
        have hl := Lib.hid (psc_len pa)
        go_wp2_with (first
          | (at_builtin; refine wpList_append_own _ rfl _ _ 29 rfl w3.heap.size 38 i0 _ 4 48 Tryd.underlying29 hi hz0 hz1 hz2 rfl (by omega) _ 0 [] rfl nil0 ad pa.length cpa (psc pa) rfl ?d4 hnw.out h1c.out ?d6 ?d7 ?d8 ?_)
          | fail)
        case d4 => rw [hl.out]
        case d6 => unfold maxLen; omega
        case d7 => omega
        case d8 => exact Nat.le_refl _
        intro v4 w4 own4 hgrow4 _
        have hb34 : Beside w.heap.size w3 w4 := (Beside.refl _ _).grown hgrow4 (fun g hg => by simp [Value.ownBlock] at hg)
        have HS4 : SrcAt w w4 w.heap.size la llen lcap (k1 + 1) := hs3.later ((Below.refl w3.heap.size w3).grown hgrow4 (Nat.le_refl _) (fun g hg => by simp [Value.ownBlock] at hg))
        clear hgrow4 hnw h1c hl nil0 qA3

        have hs4 : SrcAt w w4 w.heap.size la llen lcap (k1 + 1) := HS4
        have CQ := Lib.hid (pair_b w w4 w.heap.size la llen lcap (k1 + 1) hs4 (by omega))
        go_wp2_with fail
        refine CQ.out.mono ?_
        rintro e w5 ⟨nm, kd, nu, tx, k2, rfl, h1, h2, h3, h4, h5, hs5, hb5⟩
        obtain ⟨nmL, rfl⟩ : ∃ l, nm = bs l := ⟨nm.data.toList, (bs_of nm).symm⟩
        obtain ⟨txL, rfl⟩ : ∃ l, tx = bs l := ⟨tx.data.toList, (bs_of tx).symm⟩
        have own5 := own_beside own4 hb5 (by omega)
        have hb35 := hb34.trans hb5
        clear CQ hs4 hb34 own4 hb5 HS4
        have nw : Hid (∀ j u, ([.string (bs nmL), .int .i64 kd, .int .i64 nu, .string (bs txL)] : List Value)[j]? = some u → (w5.alloc (.cells #[.string (bs nmL), .int .i64 kd, .int .i64 nu, .string (bs txL)] 38)).cell? ((⟨w5.heap.size, 0, none⟩ : Addr).add j) = some u) := Lib.hid (World.news_of_block (cs := #[.string (bs nmL), .int .i64 kd, .int .i64 nu, .string (bs txL)]) (t := 38) (fr := (0, 0)) (heap_alloc_new w5 _))
        go_wp2_with (first
          | (at_builtin; refine wpList_append_own _ rfl _ _ 29 rfl w3.heap.size 38 i0 _ 4 48 Tryd.underlying29 hi hz0 hz1 hz2 rfl (by omega) _ pa.length _ rfl (own5.alloc _) ⟨w5.heap.size, 0, none⟩ 1 1 [.string (bs nmL), .int .i64 kd, .int .i64 nu, .string (bs txL)] rfl rfl nw.out ?c5 ?c6 ?c7 ?c8 ?_)
          | fail)
        case c5 => simp [Value.oneCell']
        case c6 => unfold maxLen; omega
        case c7 => omega
        case c8 =>
          have := hb35.size
          simp
          omega
        intro v6 w6 own6 hgrow6 _
        have hge : ∀ g, Value.ownBlock v4 = some g → w3.heap.size ≤ g := fun g hg => (own5.lt g hg).1
        have hb36 := (hb35.alloc (.cells #[.string (bs nmL), .int .i64 kd, .int .i64 nu, .string (bs txL)] 38)).grown hgrow6 hge
        have own6' : OwnPairs w3.heap.size w6 v6 (pa ++ [(⟨nmL, kd, nu, txL⟩ : PairP)]) := by
          unfold OwnPairs
          rw [psc_append, List.length_append]
          exact own6
        have hok6 : ∀ p ∈ pa ++ [(⟨nmL, kd, nu, txL⟩ : PairP)], POk p := fun p hp => by
          rcases List.mem_append.1 hp with hp | hp
          · exact hPA.ok p hp
          · simp at hp
            subst hp
            rw [bs_size] at h1 h4
            exact ⟨by show nmL.length ≤ _; omega, by show txL.length ≤ _; omega, h3⟩
        obtain ⟨vb, cpb, rfl, hPB6, hcp⟩ := own_pairs own6' hok6
        have hVB := own_from own6' _ _ _ rfl
        have hlen : (pa ++ [(⟨nmL, kd, nu, txL⟩ : PairP)]).length ≤ 100 := by rw [List.length_append]; show pa.length + 1 ≤ 100; omega
        have hlen2 : (pa ++ [(⟨nmL, kd, nu, txL⟩ : PairP)]).length = pa.length + 1 := by rw [List.length_append]; rfl
        generalize pa ++ [(⟨nmL, kd, nu, txL⟩ : PairP)] = pb at *
        have qA6 := qA.beside hb36 (by omega)
        have qB6 := qB.beside hb36 (by omega)
        have hb26 := hb23.trans hb36
        have hn : ∀ g o, vb = some ⟨g, o, none⟩ → g ≠ w2.heap.size + 1 := fun g o hg => by have := hVB g o hg; omega
        have hPA6 := pairs_beside hPA (hb26.setNew (c := w2.heap.size + 1) (by omega) 3 (.slice vb pb.length cpb)) HVA.out
        have hPB7 := pairs_set (i := 3) hPB6 hn (.slice vb pb.length cpb)
        have hset := ((hbw3.trans hb36).setNew (c := w2.heap.size + 1) (by omega) 3 (.slice vb pb.length cpb)).below (Nat.le_refl _) (Nat.le_refl _)
        have qA7 := qA6.other (C := w2.heap.size + 1) (o := 3) (by omega) (.slice vb pb.length cpb)
        have qB7 := qB6.at3 (.slice vb pb.length cpb)
        have hD : DW w w2.heap.size (w2.heap.size + 1) t tm sr (some ad) cpa pa t tm sr vb cpb pb _ := ⟨hset, ⟨qA7.c0, qA7.c1, qA7.c2, qA7.c3, qA7.f0, qA7.f1, qA7.f2, qA7.f3⟩, ⟨qB7.c0, qB7.c1, qB7.c2, qB7.c3, qB7.f0, qB7.f1, qB7.f2, qB7.f3⟩, hPA6, hPB7, ⟨hp2, by omega⟩, ⟨hcp, hlen⟩⟩
        obtain ⟨b0, b1, b2, b3, g0, g1, g2, g3⟩ := qB6
        rw [hlen2] at *
        clear hset qA6 qA7 qB7 hPA6 hPB7 hPB6 hVB hn hb36 hb26 own6 own6' hgrow6 hge nw own5 hb35 hs5 qA qB
        go_wp2_with fail
        go_meet
        exact ⟨_, _, _, _, _, _, hD⟩
    · have hD : DW w w2.heap.size (w2.heap.size + 1) t tm sr va cpa pa t tm sr va cpa pa w3 := ⟨hbw3.below (Nat.le_refl _) (Nat.le_refl _), ⟨qA.c0, qA.c1, qA.c2, qA.c3, qA.f0, qA.f1, qA.f2, qA.f3⟩, ⟨qB.c0, qB.c1, qB.c2, qB.c3, qB.f0, qB.f1, qB.f2, qB.f3⟩, pairs_beside hPA hb23 HVA.out, pairs_beside hPA hb23 HVA.out, ⟨hp2, by omega⟩, ⟨hp2, by omega⟩⟩
      clear qA qB hPA
      go_wp2_with fail
      go_meet
      exact ⟨_, _, _, _, _, _, hD⟩
  case rest =>
    obtain ⟨t', tm', sr', vb, cpb, pb, hD⟩ := hcut
    clear qA qB hPA hs3 hb23 hbe2
    have hA := hD.A
    have hB := hD.B
    have C1 := Lib.hid (Format_any t tm sr va cpa pa wc hD.PA (by have := hD.la; omega) hD.la.1 (HE.out _ hD.bel))
    have C2 := Lib.hid (fun W (h : DW w w2.heap.size (w2.heap.size + 1) t tm sr va cpa pa t' tm' sr' vb cpb pb W) => Format_any t' tm' sr' vb cpb pb W h.PB (by have := hD.lb; omega) hD.lb.1 (HE.out _ h.bel))
    have C3 := Lib.hid (fun W (h : DW w w2.heap.size (w2.heap.size + 1) t tm sr va cpa pa t' tm' sr' vb cpb pb W) => Same_any t tm sr t' tm' sr' va vb cpa cpb pa pb W h.PA h.PB (by have := hD.la; omega))
    have HS : Hid (ckR t tm sr pa = 0 → ckR t' tm' sr' pb = 0 → ((fR t tm sr pa).toList == (fR t' tm' sr' pb).toList) = sameR t tm sr t' tm' sr' pa pb) := Lib.hid (fun h1 h2 => line_same h1 h2 (fun p hp => (hD.PA.ok p hp).num) (fun p hp => (hD.PB.ok p hp).num))
    generalize fR t tm sr pa = X at *
    generalize fR t' tm' sr' pb = Y at *
    generalize ckR t tm sr pa = e1 at *
    generalize ckR t' tm' sr' pb = e2 at *
    generalize sameR t tm sr t' tm' sr' pa pb = S at *
    obtain ⟨a0, a1, a2, a3, _, _, _, _⟩ := hA
    obtain ⟨b0, b1, b2, b3, _, _, _, _⟩ := hB
    go_wp2_with fail
    refine C1.out.mono ?_
    rintro e w5 ⟨rfl, hb5⟩
    have hD5 := hD.step hb5
    clear hD a0 a1 a2 a3 b0 b1 b2 b3 hb5
    obtain ⟨b0, b1, b2, b3, _, _, _, _⟩ := hD5.B
    go_wp2_with fail
    refine (C2.out _ hD5).mono ?_
    rintro e w6 ⟨rfl, hb6⟩
    have hD6 := hD5.step hb6
    clear hD5 b0 b1 b2 b3 hb6
    obtain ⟨a0, a1, a2, a3, _, _, _, _⟩ := hD6.A
    obtain ⟨b0, b1, b2, b3, _, _, _, _⟩ := hD6.B
    have hbw6 := hD6.bel
    by_cases z1 : e1 = 0
    · by_cases z2 : e2 = 0
      · have hs := HS.out z1 z2
        subst z1
        subst z2
        go_wp2_with fail
        refine (C3.out _ hD6).mono ?_
        rintro e w7 ⟨rfl, hb7⟩
        have hbw7 := hbw6.trans (hb7.mono hbw6.size)
        clear hb7 a0 a1 a2 a3 b0 b1 b2 b3 hs
        go_wp2_with fail
        refine (CW.out _ hbw7).mono ?_
        rintro e w8 ⟨rfl, hb8⟩
        go_wp2_with fail
        go_ret
        exact ⟨rfl, hbw7.trans (hb8.mono hbw7.size)⟩
      · have y2 : (e2 != 0) = true := by simp [z2]
        subst z1
        clear z2
        go_wp2_with fail
        refine (CW.out _ hbw6).mono ?_
        rintro e w8 ⟨rfl, hb8⟩
        go_wp2_with fail
        go_ret
        exact ⟨rfl, hbw6.trans (hb8.mono hbw6.size)⟩
    · have y1 : (e1 != 0) = true := by simp [z1]
      clear z1
      go_wp2_with fail
      refine (CW.out _ hbw6).mono ?_
      rintro e w8 ⟨rfl, hb8⟩
      go_wp2_with fail
      go_ret
      exact ⟨rfl, hbw6.trans (hb8.mono hbw6.size)⟩
end recordDiffer
end Go.Proofs.YtiappccnjblcmaaDoor
