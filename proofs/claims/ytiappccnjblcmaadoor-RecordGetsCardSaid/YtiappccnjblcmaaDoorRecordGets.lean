/-
  The law RecordGets: its walk.
-/
import Derived.Test.YtiappccnjblcmaaDoorRAgree
import Derived.Test.YtiappccnjblcmaaDoorRLaid
import Derived.Test.YtiappccnjblcmaaDoorRSrc
import Derived.Test.YtiappccnjblcmaaDoorRow
import Derived.Deep.DeepCutAuto
namespace Go.Proofs.YtiappccnjblcmaaDoor
open Go.RowKit Go.Proofs.YtiappccnjblcmaaDoor.cm Go.Proofs.YtiappccnjblcmaaDoor.vl Go.Proofs.YtiappccnjblcmaaDoor.rd Go.Proofs.YtiappccnjblcmaaDoor.sr
attribute [local go_sem ↓] Go.wp_at_zero Go.wp_at_succ

namespace recordGets
/-- the names that are asked for -/
def names (nm : ByteArray) (j : Nat) : ByteArray := match j with
  | 0 => nm
  | 1 => ⟨#[97]⟩
  | 2 => ⟨#[117, 105, 100]⟩
  | _ => ⟨#[120, 95, 49]⟩

/-- the two records and the names in memory -/
structure GW (w : World) (gq gn : Nat) (nm : ByteArray) (rt rtm rsr : Int) (rs : Value) (t tm sr : Int) (s : Value) (wq W : World) : Prop where
  bel : Below w.heap.size w W
  belq : Below wq.heap.size wq W
  r : Quad W w.heap.size (.int .i64 rt) (.int .i64 rtm) (.int .i64 rsr) rs
  q : Quad W gq (.int .i64 t) (.int .i64 tm) (.int .i64 sr) s
  nms : ∀ j, j < 4 → W.cell? ⟨gn, j, none⟩ = some (.string (names nm j))
theorem GW.below {w wq W W' : World} {gq gn : Nat} {nm : ByteArray} {rt rtm rsr t tm sr : Int} {rs s : Value} (h : GW w gq gn nm rt rtm rsr rs t tm sr s wq W) (hb : Below W.heap.size W W') : GW w gq gn nm rt rtm rsr rs t tm sr s wq W' :=
  ⟨h.bel.trans (hb.mono h.bel.size), h.belq.trans (hb.mono h.belq.size), h.r.below hb, h.q.below hb, fun j hj => (hb.cell (p := ⟨gn, j, none⟩) (World.block_lt_of_cell? W ⟨gn, j, none⟩ (h.nms j hj))).trans (h.nms j hj)⟩

theorem keep5 {V W : World} {p0 p1 p2 p3 p4 : Addr} {v0 v1 v2 v3 v4 : Value} (hb : Below V.heap.size V W) (h0 : V.cell? p0 = some v0) (h1 : V.cell? p1 = some v1) (h2 : V.cell? p2 = some v2) (h3 : V.cell? p3 = some v3) (h4 : V.cell? p4 = some v4) :
    W.cell? p0 = some v0 ∧ W.cell? p1 = some v1 ∧ W.cell? p2 = some v2 ∧ W.cell? p3 = some v3 ∧ W.cell? p4 = some v4 :=
  ⟨(hb.cell (World.block_lt_of_cell? V p0 h0)).trans h0, (hb.cell (World.block_lt_of_cell? V p1 h1)).trans h1, (hb.cell (World.block_lt_of_cell? V p2 h2)).trans h2, (hb.cell (World.block_lt_of_cell? V p3 h3)).trans h3, (hb.cell (World.block_lt_of_cell? V p4 h4)).trans h4⟩

theorem found_def (ps : List PairP) (nm : ByteArray) (w : World) : rd.Found ps nm w = fun e w' => e = .returned (.tuple #[.agg #[.string (bs (getP ps nm).name), .int .i64 (getP ps nm).kind, .int .i64 (getP ps nm).num, .string (bs (getP ps nm).text)], .bool (hasP ps nm)]) ∧ Below w.heap.size w w' := rfl

set_option maxRecDepth 100000 in
set_option maxHeartbeats 16000000 in
theorem walk (t tm sr : Int) (a : Option Addr) (cap : Nat) (ps : List PairP) (nm : ByteArray) (la : Option Addr) (llen lcap : Nat) (zs : List Int) (w : World) (hP : PairsAt w a ps) (_ : ps.length ≤ cap) (hl : ps.length ≤ 9223372036854775807) (_ : nm.size ≤ maxLen) (hr : IsRow .i64 w la llen lcap zs)
    (hL : laidMetH Tryd.prog Rows.recordGetsRow.laid w) (_ : w.ShapedOpen Tryd.prog) :
    Calls Tryd.prog 5 #[.agg #[.int .i64 t, .int .i64 tm, .int .i64 sr, .slice a ps.length cap], .string nm, .slice la llen lcap] w fun e w' => e = .returned (.bool true) ∧ Below w.heap.size w w' := by
  have hT : HexT w := hex_of hL (by rfl)
  have hE : EnvR w := ⟨⟨hT, pow_of hL (by rfl), pos_of hT⟩, rec_of hL (by rfl)⟩
  have HE := Lib.hid (fun W (h : Below w.heap.size w W) => hE.below h)
  have CW := Lib.hid (fun W (h : Below w.heap.size w W) => rd.awake_any W (hE.below h))
  have CN := Lib.hid (fun W => new_any la llen lcap W)
  have HNR := Lib.hid (nums_of_row hr)
  have h0 := HW.new w 31 t tm sr (.slice a ps.length cap)
  have CL := Lib.hid (light_any t tm sr a cap ps _ (hP.below h0.bel) hl)
  have CG0 := Lib.hid (fun X W (h : Below w.heap.size w W) => Get_any t tm sr a cap ps X W (hP.below h) hl)
  have CH0 := Lib.hid (fun X W (h : Below w.heap.size w W) => rGet_any t tm sr a cap ps X W (hP.below h) hl)
  clear hT hE hL hP hr
  obtain ⟨c0, c1, c2, c3, f0, f1, f2, f3⟩ := h0.box
  go_enter Tryd.func5, Tryd.ntmps5
  go_wp2_with fail
  refine CL.out.mono ?_
  rintro e w1 ⟨b, rfl, hb⟩
  have h1 := h0.step hb
  clear h0 c0 c1 c2 c3 f0 f1 f2 f3 hb
  obtain ⟨c0, c1, c2, c3, f0, f1, f2, f3⟩ := h1.box
  have hbl := h1.bel
  cases b
  · go_wp2_with fail
    refine (CW.out _ hbl).mono ?_
    rintro e w2 ⟨rfl, hb⟩
    go_wp2_with fail
    go_ret
    exact ⟨rfl, hbl.trans (hb.mono hbl.size)⟩
  · go_wp2_with fail
    refine (CN.out _).mono ?_
    rintro e w2 ⟨rfl, hw2⟩
    have hs0 : SrcAt w w2 w1.heap.size la llen lcap 0 := by
      rw [hw2]
      refine ⟨HNR.out, hbl.alloc hbl.size _, hbl.size, ?_, by omega⟩
      show (w1.heap.push (.cells #[.slice la llen lcap, .int .i64 0] 65))[w1.heap.size]? = _
      simp
    have hb12 : Below w1.heap.size w1 w2 := by rw [hw2]; exact (Below.refl _ _).alloc (Nat.le_refl _) _
    have hlt1 := h1.box.lt
    clear hw2
    have h2 := h1.step hb12
    have CR := Lib.hid (record_b w w2 w1.heap.size la llen lcap 0 hs0 (by omega))
    clear h1 c0 c1 c2 c3 f0 f1 f2 f3 hb12 hs0 hbl
    go_wp2_with fail
    refine CR.out.mono ?_
    rintro e wq ⟨qt, qtm, qsr, qa, qcap, qs, k', rfl, hq1, ⟨hq2, hq3⟩, hQP, hQB, hk', hsq, hbq⟩
    have hbel2 := h2.bel
    have hrq : Quad wq w.heap.size (.int .i64 t) (.int .i64 tm) (.int .i64 sr) (.slice a ps.length cap) := h2.box.of_block (hbq.block w.heap.size h2.box.lt (by omega))
    have hbwq : Below w.heap.size w wq := hbel2.trans (hbq.below (Nat.le_of_lt hlt1) hbel2.size)
    have CG3 := Lib.hid (fun X W (hb : Below wq.heap.size wq W) => Get_any qt qtm qsr qa qcap qs X W (hQP.below hb) (by omega))
    have CH3 := Lib.hid (fun X W (hb : Below wq.heap.size wq W) => rGet_any qt qtm qsr qa qcap qs X W (hQP.below hb) (by omega))
    clear hQP hQB hk' hsq hbq h2 hbel2 hq1
    have hGn : GW w wq.heap.size (wq.heap.size + 1) nm t tm sr (.slice a ps.length cap) qt qtm qsr (.slice qa qs.length qcap) wq ((wq.alloc (.cells #[.int .i64 qt, .int .i64 qtm, .int .i64 qsr, .slice qa qs.length qcap] 31)).alloc (.cells #[.string nm, .string ⟨#[97]⟩, .string ⟨#[117, 105, 100]⟩, .string ⟨#[120, 95, 49]⟩] 9)) := by
      have ha := heap_alloc wq (.cells #[.int .i64 qt, .int .i64 qtm, .int .i64 qsr, .slice qa qs.length qcap] 31)
      have hb1 : Below wq.heap.size wq (wq.alloc (.cells #[.int .i64 qt, .int .i64 qtm, .int .i64 qsr, .slice qa qs.length qcap] 31)) := (Below.refl _ _).alloc (Nat.le_refl _) _
      have hb2 := hb1.alloc hb1.size (.cells #[.string nm, .string ⟨#[97]⟩, .string ⟨#[117, 105, 100]⟩, .string ⟨#[120, 95, 49]⟩] 9)
      have qn := Quad.new1 (wq.alloc (.cells #[.int .i64 qt, .int .i64 qtm, .int .i64 qsr, .slice qa qs.length qcap] 31)) 9 (wq.heap.size + 1) (.string nm) (.string ⟨#[97]⟩) (.string ⟨#[117, 105, 100]⟩) (.string ⟨#[120, 95, 49]⟩) ha
      refine ⟨hbwq.trans (hb2.mono hbwq.size), hb2, hrq.below hb2, (Quad.new wq 31 _ _ _ _).alloc _, fun j hj => ?_⟩
      match j, hj with
      | 0, _ => exact qn.c0
      | 1, _ => exact qn.c1
      | 2, _ => exact qn.c2
      | 3, _ => exact qn.c3
    go_wp2_with fail
    generalize (wq.alloc (.cells #[.int .i64 qt, .int .i64 qtm, .int .i64 qsr, .slice qa qs.length qcap] 31)).alloc (.cells #[.string nm, .string ⟨#[97]⟩, .string ⟨#[117, 105, 100]⟩, .string ⟨#[120, 95, 49]⟩] 9) = V at *
    go_loopw [10] (fun i wr => ∃ k : Nat, k ≤ 4 ∧ i = .int .i64 k ∧ GW w wq.heap.size (wq.heap.size + 1) nm t tm sr (.slice a ps.length cap) qt qtm qsr (.slice qa qs.length qcap) wq wr) (fun i _ => 4 - (intOf i).toNat)
    case atStart => exact ⟨0, Nat.zero_le _, rfl, hGn⟩
    case round =>
      obtain ⟨k, hk, rfl, hG⟩ := hrel
      clear hGn
      by_cases hk4 : k < 4
      · have CG1 := CG0.out (names nm k)
        have CH1 := CH0.out (names nm k)
        have CG2 := CG3.out (names nm k)
        have CH2 := CH3.out (names nm k)
        simp only [found_def] at CG1 CH1 CG2 CH2
        obtain ⟨X, hX⟩ : ∃ X, names nm k = X := ⟨_, rfl⟩
        rw [hX] at CG1 CH1 CG2 CH2
        generalize getP ps X = g1 at *
        generalize hasP ps X = b1 at *
        generalize getP qs X = g2 at *
        generalize hasP qs X = b2 at *
        have e1 := neq_pair g1 g1
        have e2 := neq_pair g2 g2
        rw [(samep_iff g1 g1).2 rfl] at e1
        rw [(samep_iff g2 g2).2 rfl] at e2
        have CG1 := Lib.hid CG1
        have CH1 := Lib.hid CH1
        have CG2 := Lib.hid CG2
        have CH2 := Lib.hid CH2
        have E1 := Lib.hid e1
        have E2 := Lib.hid e2
        clear e1 e2
        obtain ⟨c0, c1, c2, c3, _, _, _, _⟩ := hG.r
        have cn := hG.nms k hk4
        rw [hX] at cn
        have hbV := hG.bel
        have hk0 : (0 : Int) ≤ (k : Int) := by omega
        have hk1 : (k : Int) < 4 := by omega
        have HX := Lib.hid hX
        clear hX
        go_wp2_with fail
        go_upto_region 9 with fail
        go_cut [11, 12] (fun sp sb wx => ∃ G : Nat, sp = .pointer (some ⟨G, 0, none⟩) ∧ sb = .bool b1 ∧ Quad wx G (.string (bs g1.name)) (.int .i64 g1.kind) (.int .i64 g1.num) (.string (bs g1.text)) ∧ Below wr.heap.size wr wx)
        case first =>
          go_region_held3 (fun w' => w'.cell? ⟨w.heap.size, 0, none⟩ = some (.int .i64 t) ∧ w'.cell? ⟨w.heap.size, 1, none⟩ = some (.int .i64 tm) ∧ w'.cell? ⟨w.heap.size, 2, none⟩ = some (.int .i64 sr) ∧ w'.cell? ⟨w.heap.size, 3, none⟩ = some (.slice a ps.length cap) ∧ w'.cell? ⟨wq.heap.size + 1, k, none⟩ = some (.string X))
            (first
              | go_keep
              | (refine keep5 (V := wr) ?_ (by assumption) (by assumption) (by assumption) (by assumption) (by assumption)
                 first
                   | exact hbA
                   | exact hbA.alloc hbA.size _
                   | exact below_set4 hbA (Nat.le_refl _) _ _ _ _))
            (first
              | ((go_at_call 21; (with_reducible refine (CG1.out _ (hbV.trans ((Below.refl wr.heap.size wr).drew.mono hbV.size))).mono ?_); rintro e wA ⟨rfl, hbA0⟩; have hbA : Below wr.heap.size wr wA := (Below.refl _ _).drew.trans hbA0))
              | ((go_at_call 21; (with_reducible refine (CG1.out _ (hbV.trans (((Below.refl wr.heap.size wr).alloc (Nat.le_refl _) (.cells #[.string ⟨#[]⟩, .int .i64 0, .int .i64 0, .string ⟨#[]⟩] 38)).drew.mono hbV.size))).mono ?_); rintro e wA ⟨rfl, hbA0⟩; obtain ⟨kc, kl, kb, hbA⟩ := after_alloc hbA0; have qA := quad_of kb; obtain ⟨y0, y1, y2, y3, y4, y5, y6, y7⟩ := qA; clear kc kb)))
          all_goals
            go_wp2_with fail
            go_meet
            first
              | exact ⟨_, rfl, rfl, Quad.new wA 38 _ _ _ _, hbA.alloc hbA.size _⟩
              | exact ⟨_, rfl, rfl, (Quad.mk y0 y1 y2 y3 y4 y5 y6 y7).set _ _ _ _, below_set4 hbA (Nat.le_refl _) _ _ _ _⟩
        case rest =>
          obtain ⟨G1, rfl, rfl, hG1, hbC⟩ := hcut
          obtain ⟨V1, hV⟩ : ∃ V, V = wc := ⟨_, rfl⟩
          subst hV
          have hG := hG.below hbC
          have hbV := hG.bel
          clear c0 c1 c2 c3 cn hbC
          obtain ⟨c0, c1, c2, c3, _, _, _, _⟩ := hG.r
          have cn := hG.nms k hk4
          rw [HX.out] at cn
          go_upto_region 10 with fail
          go_cut [13, 14] (fun sp sb wx => ∃ G : Nat, sp = .pointer (some ⟨G, 0, none⟩) ∧ sb = .bool b1 ∧ Quad wx G (.string (bs g1.name)) (.int .i64 g1.kind) (.int .i64 g1.num) (.string (bs g1.text)) ∧ Below V1.heap.size V1 wx)
          case first =>
            go_region_held3 (fun w' => w'.cell? ⟨w.heap.size, 0, none⟩ = some (.int .i64 t) ∧ w'.cell? ⟨w.heap.size, 1, none⟩ = some (.int .i64 tm) ∧ w'.cell? ⟨w.heap.size, 2, none⟩ = some (.int .i64 sr) ∧ w'.cell? ⟨w.heap.size, 3, none⟩ = some (.slice a ps.length cap) ∧ w'.cell? ⟨wq.heap.size + 1, k, none⟩ = some (.string X))
              (first
                | go_keep
                | (refine keep5 (V := V1) ?_ (by assumption) (by assumption) (by assumption) (by assumption) (by assumption)
                   first
                     | exact hbA
                     | exact hbA.alloc hbA.size _
                     | exact below_set4 hbA (Nat.le_refl _) _ _ _ _))
              (first
                | ((go_at_call 22; (with_reducible refine (CH1.out _ (hbV.trans ((Below.refl V1.heap.size V1).drew.mono hbV.size))).mono ?_); rintro e wA ⟨rfl, hbA0⟩; have hbA : Below V1.heap.size V1 wA := (Below.refl _ _).drew.trans hbA0))
                | ((go_at_call 22; (with_reducible refine (CH1.out _ (hbV.trans (((Below.refl V1.heap.size V1).alloc (Nat.le_refl _) (.cells #[.string ⟨#[]⟩, .int .i64 0, .int .i64 0, .string ⟨#[]⟩] 38)).drew.mono hbV.size))).mono ?_); rintro e wA ⟨rfl, hbA0⟩; obtain ⟨kc, kl, kb, hbA⟩ := after_alloc hbA0; have qA := quad_of kb; obtain ⟨y0, y1, y2, y3, y4, y5, y6, y7⟩ := qA; clear kc kb)))
            all_goals
              go_wp2_with fail
              go_meet
              first
                | exact ⟨_, rfl, rfl, Quad.new wA 38 _ _ _ _, hbA.alloc hbA.size _⟩
                | exact ⟨_, rfl, rfl, (Quad.mk y0 y1 y2 y3 y4 y5 y6 y7).set _ _ _ _, below_set4 hbA (Nat.le_refl _) _ _ _ _⟩
          case rest =>
            obtain ⟨G2, rfl, rfl, hG2, hbC⟩ := hcut
            obtain ⟨V2, hV⟩ : ∃ V, V = wc := ⟨_, rfl⟩
            subst hV
            have hG := hG.below hbC
            have hG1 := hG1.below hbC
            have hbV := hG.belq
            clear c0 c1 c2 c3 cn hbC
            obtain ⟨c0, c1, c2, c3, _, _, _, _⟩ := hG.q
            have cn := hG.nms k hk4
            rw [HX.out] at cn
            go_upto_region 11 with fail
            go_cut [15, 16] (fun sp sb wx => ∃ G : Nat, sp = .pointer (some ⟨G, 0, none⟩) ∧ sb = .bool b2 ∧ Quad wx G (.string (bs g2.name)) (.int .i64 g2.kind) (.int .i64 g2.num) (.string (bs g2.text)) ∧ Below V2.heap.size V2 wx)
            case first =>
              go_region_held3 (fun w' => w'.cell? ⟨wq.heap.size, 0, none⟩ = some (.int .i64 qt) ∧ w'.cell? ⟨wq.heap.size, 1, none⟩ = some (.int .i64 qtm) ∧ w'.cell? ⟨wq.heap.size, 2, none⟩ = some (.int .i64 qsr) ∧ w'.cell? ⟨wq.heap.size, 3, none⟩ = some (.slice qa qs.length qcap) ∧ w'.cell? ⟨wq.heap.size + 1, k, none⟩ = some (.string X))
                (first
                  | go_keep
                  | (refine keep5 (V := V2) ?_ (by assumption) (by assumption) (by assumption) (by assumption) (by assumption)
                     first
                       | exact hbA
                       | exact hbA.alloc hbA.size _
                       | exact below_set4 hbA (Nat.le_refl _) _ _ _ _))
                (first
                  | ((go_at_call 21; (with_reducible refine (CG2.out _ (hbV.trans ((Below.refl V2.heap.size V2).drew.mono hbV.size))).mono ?_); rintro e wA ⟨rfl, hbA0⟩; have hbA : Below V2.heap.size V2 wA := (Below.refl _ _).drew.trans hbA0))
                  | ((go_at_call 21; (with_reducible refine (CG2.out _ (hbV.trans (((Below.refl V2.heap.size V2).alloc (Nat.le_refl _) (.cells #[.string ⟨#[]⟩, .int .i64 0, .int .i64 0, .string ⟨#[]⟩] 38)).drew.mono hbV.size))).mono ?_); rintro e wA ⟨rfl, hbA0⟩; obtain ⟨kc, kl, kb, hbA⟩ := after_alloc hbA0; have qA := quad_of kb; obtain ⟨y0, y1, y2, y3, y4, y5, y6, y7⟩ := qA; clear kc kb)))
              all_goals
                go_wp2_with fail
                go_meet
                first
                  | exact ⟨_, rfl, rfl, Quad.new wA 38 _ _ _ _, hbA.alloc hbA.size _⟩
                  | exact ⟨_, rfl, rfl, (Quad.mk y0 y1 y2 y3 y4 y5 y6 y7).set _ _ _ _, below_set4 hbA (Nat.le_refl _) _ _ _ _⟩
            case rest =>
              obtain ⟨G3, rfl, rfl, hG3, hbC⟩ := hcut
              obtain ⟨V3, hV⟩ : ∃ V, V = wc := ⟨_, rfl⟩
              subst hV
              have hG := hG.below hbC
              have hG1 := hG1.below hbC
              have hG2 := hG2.below hbC
              have hbV := hG.belq
              clear c0 c1 c2 c3 cn hbC
              obtain ⟨c0, c1, c2, c3, _, _, _, _⟩ := hG.q
              have cn := hG.nms k hk4
              rw [HX.out] at cn
              go_upto_region 12 with fail
              go_cut [17, 18] (fun sp sb wx => ∃ G : Nat, sp = .pointer (some ⟨G, 0, none⟩) ∧ sb = .bool b2 ∧ Quad wx G (.string (bs g2.name)) (.int .i64 g2.kind) (.int .i64 g2.num) (.string (bs g2.text)) ∧ Below V3.heap.size V3 wx)
              case first =>
                go_region_held3 (fun w' => w'.cell? ⟨wq.heap.size, 0, none⟩ = some (.int .i64 qt) ∧ w'.cell? ⟨wq.heap.size, 1, none⟩ = some (.int .i64 qtm) ∧ w'.cell? ⟨wq.heap.size, 2, none⟩ = some (.int .i64 qsr) ∧ w'.cell? ⟨wq.heap.size, 3, none⟩ = some (.slice qa qs.length qcap) ∧ w'.cell? ⟨wq.heap.size + 1, k, none⟩ = some (.string X))
                  (first
                    | go_keep
                    | (refine keep5 (V := V3) ?_ (by assumption) (by assumption) (by assumption) (by assumption) (by assumption)
                       first
                         | exact hbA
                         | exact hbA.alloc hbA.size _
                         | exact below_set4 hbA (Nat.le_refl _) _ _ _ _))
                  (first
                    | ((go_at_call 22; (with_reducible refine (CH2.out _ (hbV.trans ((Below.refl V3.heap.size V3).drew.mono hbV.size))).mono ?_); rintro e wA ⟨rfl, hbA0⟩; have hbA : Below V3.heap.size V3 wA := (Below.refl _ _).drew.trans hbA0))
                    | ((go_at_call 22; (with_reducible refine (CH2.out _ (hbV.trans (((Below.refl V3.heap.size V3).alloc (Nat.le_refl _) (.cells #[.string ⟨#[]⟩, .int .i64 0, .int .i64 0, .string ⟨#[]⟩] 38)).drew.mono hbV.size))).mono ?_); rintro e wA ⟨rfl, hbA0⟩; obtain ⟨kc, kl, kb, hbA⟩ := after_alloc hbA0; have qA := quad_of kb; obtain ⟨y0, y1, y2, y3, y4, y5, y6, y7⟩ := qA; clear kc kb)))
                all_goals
                  go_wp2_with fail
                  go_meet
                  first
                    | exact ⟨_, rfl, rfl, Quad.new wA 38 _ _ _ _, hbA.alloc hbA.size _⟩
                    | exact ⟨_, rfl, rfl, (Quad.mk y0 y1 y2 y3 y4 y5 y6 y7).set _ _ _ _, below_set4 hbA (Nat.le_refl _) _ _ _ _⟩
              case rest =>
                obtain ⟨G4, rfl, rfl, hG4, hbC⟩ := hcut
                obtain ⟨V4, hV⟩ : ∃ V, V = wc := ⟨_, rfl⟩
                subst hV
                have hG := hG.below hbC
                have hG1 := hG1.below hbC
                have hG2 := hG2.below hbC
                have hG3 := hG3.below hbC
                have hbV := hG.bel
                clear c0 c1 c2 c3 cn hbC
                have e1 := E1.out
                have e2 := E2.out
                obtain ⟨p0, p1, p2, p3, _, _, _, _⟩ := hG1
                obtain ⟨q0, q1, q2, q3, _, _, _, _⟩ := hG2
                obtain ⟨r0, r1, r2, r3, _, _, _, _⟩ := hG3
                obtain ⟨s0, s1, s2, s3, _, _, _, _⟩ := hG4
                go_wp2_with fail
                exact ⟨⟨k + 1, by omega, by go_num, hG⟩, by simp [intOf]; omega⟩
      · obtain rfl : k = 4 := by omega
        have hbv := hG.bel
        go_wp2_with fail
        refine (CW.out _ hbv).mono ?_
        rintro e w2 ⟨rfl, hb⟩
        go_wp2_with fail
        go_ret
        exact ⟨rfl, hbv.trans (hb.mono hbv.size)⟩
end recordGets
end Go.Proofs.YtiappccnjblcmaaDoor
