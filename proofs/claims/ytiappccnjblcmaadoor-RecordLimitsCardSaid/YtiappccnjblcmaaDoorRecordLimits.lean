/-
  The law RecordLimits: its walk.
-/
import Derived.Test.YtiappccnjblcmaaDoorRLim
import Derived.Test.YtiappccnjblcmaaDoorRdR
import Derived.Test.YtiappccnjblcmaaDoorRLaid
import Derived.Test.YtiappccnjblcmaaDoorLaid
import Derived.OpenShut
import Derived.Deep.DeepCutAuto
namespace Go.Proofs.YtiappccnjblcmaaDoor
open Go.RowKit Go.Proofs.YtiappccnjblcmaaDoor.cm Go.Proofs.YtiappccnjblcmaaDoor.vl Go.Proofs.YtiappccnjblcmaaDoor.rd Go.Proofs.YtiappccnjblcmaaDoor.sr
attribute [local go_sem ↓] Go.wp_at_zero Go.wp_at_succ

namespace recordLimits
theorem pairs_setc {w : World} {B i : Nat} {v : Option Addr} {ps : List PairP} (h : PairsAt w v ps) (hn : ∀ g o, v = some ⟨g, o, none⟩ → g ≠ B) (u : Value) : PairsAt (w.setCell ⟨B, i, none⟩ u) v ps := by
  refine ⟨h.ok, ?_⟩
  rcases h.at_ with h0 | ⟨g, o, rfl, hc⟩
  · exact .inl h0
  · refine .inr ⟨g, o, rfl, fun j p hj => ?_⟩
    have hp := hc j p hj
    have hx : ∀ q, (w.setCell ⟨B, i, none⟩ u).cell? ⟨g, q, none⟩ = w.cell? ⟨g, q, none⟩ := fun q => World.cell?_of_block (w := w) (Below.heap_setCell w ⟨B, i, none⟩ u g (hn g o rfl))
    exact ⟨(hx _).trans hp.c0, (hx _).trans hp.c1, (hx _).trans hp.c2, (hx _).trans hp.c3⟩
/-- the first k cells hold the byte -/
def Full (l : List Value) (c : UInt8) (k m : Nat) : Prop := l.length = m ∧ ∀ j, j < k → l[j]? = some (.int .u8 (c.toNat : Int))

set_option maxRecDepth 100000 in
set_option maxHeartbeats 16000000 in
theorem walk (c : Int) (more : Bool) (w : World) (hc : (Lit.int .u8 c).wf = true) (hL : laidMetH Tryd.prog Rows.recordLimitsRow.laid w) (hsh : w.ShapedOpen Tryd.prog) :
    Calls Tryd.prog 7 #[.int .u8 c, .bool more] w fun e w' => e = .returned (.bool true) ∧ Below w.heap.size w w' := by
  have hT : HexT w := hex_of hL (by rfl)
  have hER : EnvR w := ⟨⟨hT, pow_of hL (by rfl), pos_of hT⟩, rec_of hL (by rfl)⟩
  have hE : EnvP w := ⟨hER, ⟨hER.env, syn_of hL (by rfl), rng_of hL (by rfl)⟩, Tryd.laysM145.s1_3 w hsh⟩
  have HE := Lib.hid (fun W (h : Below w.heap.size w W) => hE.below h)
  have CW := Lib.hid (fun W (h : Below w.heap.size w W) => rd.awake_any W (hE.below h).env)
  clear hT hE hER hL hsh
  have hc' : 0 ≤ c ∧ c ≤ 255 := bounds_u8 hc
  obtain ⟨C, rfl⟩ : ∃ C : UInt8, c = (C.toNat : Int) := ⟨UInt8.ofNat c.toNat, by rw [UInt8.toNat_ofNat']; omega⟩
  clear hc hc'
  obtain ⟨i0, hi, hz0, hz1, hz2⟩ := info_parts infoB
  obtain ⟨j0, hj, hy0, hy1, hy2⟩ := info_parts infoPair
  go_enter Tryd.func7, Tryd.ntmps7
  go_wp2_with (at_make; refine wpList_make_full _ rfl _ _ 49 rfl w.heap.size 5 i0 (.int .u8 0) 1 Tryd.underlying49 hi hz0 hz1 .i64 .i64 _ _ 640 rfl rfl rfl rfl (by rw [hz2]; omega) (by unfold maxLen; omega) (Nat.le_refl _) ?_; intro w0 hown0 hgrow0)
  have hb0 : Below w.heap.size w w0 := (Below.refl _ _).grown hgrow0 (by simp) (fun k hk => by cases hk)
  have HF0 : Hid (Full (madeCells (Value.cells (.int .u8 0)) (640 * 1)).toList C 0 640) := Lib.hid ⟨by rw [Array.length_toList, size_madeCells], fun j hj => by cases hj⟩
  generalize (madeCells (Value.cells (.int .u8 0)) (640 * 1)).toList = l0 at *
  clear hgrow0
  go_loopw [6] (fun i wr => ∃ (k : Nat) (l : List Value), k ≤ 640 ∧ i = .int .i64 (k : Int) ∧ wr.ownsRow w.heap.size 5 1 (.slice (some ⟨w.heap.size, 0, none⟩) 640 640) 640 l ∧ Hid (Full l C k 640) ∧ Below w.heap.size w wr) (fun i _ => 640 - (intOf i).toNat)
  case atStart => exact ⟨0, l0, Nat.zero_le _, rfl, hown0, HF0, hb0⟩
  case round =>
    obtain ⟨k, l, hk, rfl, hown, HF, hbel⟩ := hrel
    by_cases hlt : k < 640
    · have hlk : k < l.length := by rw [HF.out.1]; exact hlt
      have d0 : wr.cell? ⟨w.heap.size, k, none⟩ = some (l[k]) := by rw [hown.cellAt k (by omega), List.getElem?_eq_getElem hlk]
      have f0 := hown.frozenAt k
      obtain ⟨hown2, _⟩ := hown.stored k (.int .u8 (C.toNat : Int))
      have HF2 : Hid (Full (l.set k (.int .u8 (C.toNat : Int))) C (k + 1) 640) := Lib.hid ⟨by rw [List.length_set, HF.out.1], fun j hj => by
        by_cases hjk : j = k
        · subst hjk; rw [List.getElem?_set_self hlk]
        · rw [List.getElem?_set_ne (by omega)]; exact HF.out.2 j (by omega)⟩
      have hb2 := hbel.setCell (p := ⟨w.heap.size, k, none⟩) (Nat.le_refl _) (.int .u8 (C.toNat : Int))
      clear hbel
      go_wp2_with fail
      exact ⟨⟨k + 1, _, by omega, by go_num, hown2, HF2, hb2⟩, by simp [intOf]; omega⟩
    · have hkm : k = 640 := by omega
      subst hkm
      have hcells : ∀ j, j < 640 → wr.cell? ⟨w.heap.size, j, none⟩ = some (.int .u8 (C.toNat : Int)) := fun j hj => by
        rw [hown.cellAt j (by omega)]; exact HF.out.2 j (by omega)
      have hwl := (hown.lt w.heap.size rfl).2
      have HC : Hid (∀ W, Beside wr.heap.size wr W → (convert 49 9 (.slice (some ⟨w.heap.size, 0, none⟩) 640 640)).run Tryd.prog W = .ok (.string (bs (limT C))) W) :=
        Lib.hid (fun W hb => rep_text W w.heap.size 640 640 C (fun j hj => (hb.cells (g := w.heap.size) (by omega) hwl j).trans (hcells j hj)))
      clear hcells hown HF
      obtain ⟨w1, rfl⟩ : ∃ x, x = wr := ⟨_, rfl⟩
      have hRb : Beside w1.heap.size w1 (w1.alloc (.cells #[.int .i64 1306, .int .i64 1099511627776, .int .i64 1073741824, .slice none 0 0] 31)) := (Beside.refl _ w1).alloc _
      have hRf := Four.new w1 31 (.int .i64 1306) (.int .i64 1099511627776) (.int .i64 1073741824) (.slice none 0 0)
      have HBW : Hid (∀ W, Beside w1.heap.size w1 W → Below w.heap.size w W) := Lib.hid (fun W hb => hbel.trans (hb.below hbel.size hbel.size))
      clear hbel
      go_wp2_with fail
      go_loopw [8] (fun i wq => ∃ (k : Nat) (v : Value), k ≤ 24 ∧ i = .int .i64 (k : Int) ∧ OwnPairs (w1.heap.size + 1) wq v (limP C k) ∧ Four wq w1.heap.size (.int .i64 1306) (.int .i64 1099511627776) (.int .i64 1073741824) v ∧ Beside w1.heap.size w1 wq ∧ w1.heap.size + 1 ≤ wq.heap.size) (fun i _ => 24 - (intOf i).toNat)
      case atStart => exact ⟨0, _, Nat.zero_le _, rfl, World.ownsRow_nil _ _ _ _, hRf, hRb, by simp⟩
      case round =>
        obtain ⟨k, v, hk, rfl, hown, hF, hB, hsz⟩ := hrel
        clear hRb hRf hb0 hown0
        obtain ⟨vo, vn, vc, rfl⟩ : ∃ vo vn vc, v = .slice vo vn vc := by
          rcases hown.2 with ⟨hv, _⟩ | ⟨g, c, cur, hv, _⟩
          · exact ⟨_, _, _, hv⟩
          · exact ⟨_, _, _, hv⟩
        by_cases hlt : k < 24
        · go_upto_region 10 with fail
          have hrt := rune_text k hlt
          have hnt := name_text k
          have cv := HC.out wr hB
          have w64 : IntKind.i64.wrap (97 + (k : Int)) = 97 + (k : Int) := IntWalk.i64_in _ (by omega)
          have w32 : IntKind.i32.wrap (97 + (k : Int)) = 97 + (k : Int) := IntWalk.i32_in _ (by omega)
          have c3 := hF.c3
          have HPL := Lib.hid (limP_len C k)
          have hownR : wr.ownsRow (w1.heap.size + 1) 38 4 (.slice vo vn vc) (limP C k).length (psc (limP C k)) := hown
          have HNE := Lib.hid (own_ne hownR (k := w1.heap.size) (by omega))
          have nw : Hid (∀ j u, ([.string (bs (limN k)), .int .i64 2, .int .i64 0, .string (bs (limT C))] : List Value)[j]? = some u → (wr.alloc (.cells #[.string (bs (limN k)), .int .i64 2, .int .i64 0, .string (bs (limT C))] 38)).cell? ((⟨wr.heap.size, 0, none⟩ : Addr).add j) = some u) := Lib.hid (World.news_of_block (cs := #[.string (bs (limN k)), .int .i64 2, .int .i64 0, .string (bs (limT C))]) (t := 38) (fr := (0, 0)) (heap_alloc_new wr _))
          have p1 := fun W => run_string_add_sum (P := Tryd.prog) W (⟨#[97, 98, 99, 100, 101, 102, 103, 104, 105, 106, 107, 108, 109, 110, 111]⟩ : ByteArray) (bs [chr k]) (by rw [bs_size]; show 15 + 1 ≤ _; omega)
          rw [hnt] at p1
          clear hnt
          generalize hTq : bs (limT C) = T at cv nw
          generalize hNq : bs (limN k) = NM at p1 nw
          generalize bs [chr k] = RQ at hrt p1
          have HTQ := Lib.hid hTq
          have HNQ := Lib.hid hNq
          clear hTq hNq
          go_wp2_with (first
            | (at_builtin; refine wpList_append_own _ rfl _ _ 29 rfl (w1.heap.size + 1) 38 j0 _ 4 48 Tryd.underlying29 hj hy0 hy1 hy2 rfl (by omega) _ (limP C k).length _ rfl (hownR.alloc _) ⟨wr.heap.size, 0, none⟩ 1 1 [.string NM, .int .i64 2, .int .i64 0, .string T] rfl rfl nw.out ?c5 ?c6 ?c7 ?c8 ?_)
            | fail)
          case c5 => simp [Value.oneCell']
          case c6 => rw [HPL.out]; unfold maxLen; omega
          case c7 => rw [HPL.out]; omega
          case c8 => simp; omega
          intro v2 w2 own2 hgrow _
          obtain rfl := HTQ.out
          obtain rfl := HNQ.out
          obtain ⟨g, cap2, rfl, -, -⟩ := World.ownsRow.form own2 (by omega)
          have hB2 : Beside w1.heap.size w1 w2 := (hB.alloc _).grown hgrow (fun g hg => by have := (hownR.lt g hg).1; omega)
          have hF2 : Four w2 w1.heap.size (.int .i64 1306) (.int .i64 1099511627776) (.int .i64 1073741824) (.slice vo vn vc) := (hF.below ((Below.refl _ wr).alloc (Nat.le_refl _) _)).far (hgrow.block w1.heap.size (by simp; omega) HNE.out)
          have hz2' : w1.heap.size + 1 ≤ w2.heap.size := by
            have := hgrow.size
            simp at this
            omega
          have q3 := hF2.c3
          have qf := hF2.f3
          have own3 : OwnPairs (w1.heap.size + 1) (w2.setCell ⟨w1.heap.size, 3, none⟩ (.slice (some ⟨g, 0, none⟩) ((limP C k).length + 1) cap2)) (.slice (some ⟨g, 0, none⟩) ((limP C k).length + 1) cap2) (limP C (k + 1)) := by
            unfold OwnPairs
            rw [limP, psc_append, List.length_append]
            exact ownsRow_setCell_below own2 (a := ⟨w1.heap.size, 3, none⟩) (by show w1.heap.size < w1.heap.size + 1; omega) _
          have hF3 := hF2.at3 (.slice (some ⟨g, 0, none⟩) ((limP C k).length + 1) cap2)
          have hB3 := hB2.setNew (c := w1.heap.size) (Nat.le_refl _) 3 (.slice (some ⟨g, 0, none⟩) ((limP C k).length + 1) cap2)
          clear hrt p1 cv w64 w32 c3 nw hgrow hown hownR hF hB own2 hB2 hF2
          go_wp2_with fail
          exact ⟨⟨k + 1, by omega, by omega, _, own3, hF3⟩, by simp [intOf]; omega⟩
        · obtain rfl : k = 24 := by omega
          clear HC
          have hok := limP_pok C 24
          have hlen := limP_len C 24
          have HK := Lib.hid (lim_ck C)
          have HL := Lib.hid (lim_line C)
          generalize limP C 24 = P at *
          obtain ⟨va, cap, hv, hPA, hcap⟩ := own_pairs hown hok
          injection hv with hv1 hv2 hv3
          subst hv1
          subst hv2
          subst hv3
          have hbw := HBW.out _ hB
          have hlen2 : P.length ≤ 100 := by omega
          have HLEN := Lib.hid hlen
          clear hlt hk hlen
          cases more
          · have C1 := Lib.hid (Format_any 1306 1099511627776 1073741824 vo vc P wr hPA (by omega) hcap (HE.out _ hbw).env)
            rw [HK.out] at C1
            have hXs := HL.out.1
            have HX := Lib.hid HL.out.2
            clear HL HK
            generalize fR 1306 1099511627776 1073741824 P = X at *
            have hXi : (X.size : Int) ≤ 31240 := by omega
            have HPA := Lib.hid hPA
            obtain ⟨a0, a1, a2, a3, _, _, _, _⟩ := hF
            have F0 : Hid (Four wr w1.heap.size (.int .i64 1306) (.int .i64 1099511627776) (.int .i64 1073741824) (.slice vo P.length vc)) := Lib.hid ⟨by assumption, by assumption, by assumption, by assumption, by assumption, by assumption, by assumption, by assumption⟩
            clear hown hPA
            go_wp2_with fail
            refine C1.out.mono ?_
            rintro e w5 ⟨rfl, hb5⟩
            have F5 := F0.out.below hb5
            have hbw5 := hbw.trans (hb5.mono hbw.size)
            have hP5 := HPA.out.below hb5
            have C2 := Lib.hid (rdParse_any X w5 (by omega) (HE.out _ hbw5))
            clear a0 a1 a2 a3 F0 HPA hb5 C1
            go_wp2_with fail
            refine C2.out.mono ?_
            rintro e w6 ⟨t, tm, sr, vb, cpb, qs, er, rfl, hQ, ⟨hq1, hq2⟩, hb6, hcase⟩
            rcases hcase with ⟨rfl, he⟩ | ⟨-, he, -⟩
            · rw [HX.out] at he
              injection he with he
              injection he with e1 e2 e3 e4
              subst e1
              subst e2
              subst e3
              subst e4
              have F6 := (F5.below hb6).below ((Below.refl _ w6).alloc (Nat.le_refl _) (.cells #[.int .i64 1306, .int .i64 1099511627776, .int .i64 1073741824, .slice vb P.length cpb] 31))
              have G6 := Four.new w6 31 (.int .i64 1306) (.int .i64 1099511627776) (.int .i64 1073741824) (.slice vb P.length cpb)
              have hbw6 := (hbw5.trans (hb6.mono hbw5.size)).alloc (by have := hbw5.size; have := hb6.size; omega) (.cells #[.int .i64 1306, .int .i64 1099511627776, .int .i64 1073741824, .slice vb P.length cpb] 31)
              have hP6 := (hP5.below hb6).below ((Below.refl _ w6).alloc (Nat.le_refl _) (.cells #[.int .i64 1306, .int .i64 1099511627776, .int .i64 1073741824, .slice vb P.length cpb] 31))
              have hQ6 := hQ.below ((Below.refl _ w6).alloc (Nat.le_refl _) (.cells #[.int .i64 1306, .int .i64 1099511627776, .int .i64 1073741824, .slice vb P.length cpb] 31))
              have hS := (sameR_iff 1306 1099511627776 1073741824 1306 1099511627776 1073741824 P P).2 ⟨rfl, rfl, rfl, rfl⟩
              have C3 := Same_any 1306 1099511627776 1073741824 1306 1099511627776 1073741824 vo vb vc cpb P P _ hP6 hQ6 (by omega)
              rw [hS] at C3
              have C3 := Lib.hid C3
              have hl6 : w1.heap.size < w6.heap.size := (F5.below hb6).lt
              obtain ⟨a0, a1, a2, a3, _, _, _, _⟩ := F5.below hb6
              clear hS hP6 hQ6 hP5 hQ F5 hb6 C2 G6 F6
              go_wp2_with fail
              refine C3.out.mono ?_
              rintro e w7 ⟨rfl, hb7⟩
              have hbw7 := hbw6.trans (hb7.mono hbw6.size)
              go_wp2_with fail
              refine (CW.out _ hbw7).mono ?_
              rintro e w8 ⟨rfl, hb8⟩
              go_wp2_with fail
              go_ret
              exact ⟨rfl, hbw7.trans (hb8.mono hbw7.size)⟩
            · rw [HX.out] at he
              cases he
          · have C1 := Lib.hid (fun (ps : List PairP) (h : ps.length = 25) => lim_more ps h)
            have hownR : wr.ownsRow (w1.heap.size + 1) 38 4 (.slice vo P.length vc) P.length (psc P) := hown
            have c3 := hF.c3
            have HNE := Lib.hid (own_ne hownR (k := w1.heap.size) (by omega))
            have nw : Hid (∀ j u, ([.string ⟨#[109, 111, 114, 101]⟩, .int .i64 3, .int .i64 0, .string ⟨#[]⟩] : List Value)[j]? = some u → (wr.alloc (.cells #[.string ⟨#[109, 111, 114, 101]⟩, .int .i64 3, .int .i64 0, .string ⟨#[]⟩] 38)).cell? ((⟨wr.heap.size, 0, none⟩ : Addr).add j) = some u) := Lib.hid (World.news_of_block (cs := #[.string ⟨#[109, 111, 114, 101]⟩, .int .i64 3, .int .i64 0, .string ⟨#[]⟩]) (t := 38) (fr := (0, 0)) (heap_alloc_new wr _))
            clear HK HL hPA
            go_wp2_with (first
              | (at_builtin; refine wpList_append_own _ rfl _ _ 29 rfl (w1.heap.size + 1) 38 j0 _ 4 48 Tryd.underlying29 hj hy0 hy1 hy2 rfl (by omega) _ P.length _ rfl (hownR.alloc _) ⟨wr.heap.size, 0, none⟩ 1 1 [.string ⟨#[109, 111, 114, 101]⟩, .int .i64 3, .int .i64 0, .string ⟨#[]⟩] rfl rfl nw.out ?c5 ?c6 ?c7 ?c8 ?_)
              | fail)
            case c5 => simp [Value.oneCell']
            case c6 => unfold maxLen; omega
            case c7 => omega
            case c8 => simp; omega
            intro v2 w2 own2 hgrow _
            have own3 : OwnPairs (w1.heap.size + 1) w2 v2 (P ++ [⟨[109, 111, 114, 101], 3, 0, []⟩]) := by
              unfold OwnPairs
              rw [psc_append, List.length_append]
              exact own2
            have hok3 : ∀ p ∈ P ++ [(⟨[109, 111, 114, 101], 3, 0, []⟩ : PairP)], POk p := fun p hp => by
              rcases List.mem_append.1 hp with hp | hp
              · exact hok p hp
              · simp at hp
                subst hp
                exact ⟨by simp, by simp, by show isInt 0; unfold isInt; omega⟩
            have hlen3 : (P ++ [(⟨[109, 111, 114, 101], 3, 0, []⟩ : PairP)]).length = P.length + 1 := by rw [List.length_append]; rfl
            have h25 : (P ++ [(⟨[109, 111, 114, 101], 3, 0, []⟩ : PairP)]).length = 25 := by rw [hlen3, HLEN.out]
            have HM := Lib.hid (C1.out _ h25)
            obtain ⟨vb, cpb, rfl, hPB, hcpb⟩ := own_pairs own3 hok3
            have hVB := own_from own3 _ _ _ rfl
            generalize P ++ [(⟨[109, 111, 114, 101], 3, 0, []⟩ : PairP)] = Q at *
            have hB2 : Beside w1.heap.size w1 w2 := (hB.alloc _).grown hgrow (fun g hg => by have := (hownR.lt g hg).1; omega)
            have hF2 : Four w2 w1.heap.size (.int .i64 1306) (.int .i64 1099511627776) (.int .i64 1073741824) (.slice vo P.length vc) := (hF.below ((Below.refl _ wr).alloc (Nat.le_refl _) _)).far (hgrow.block w1.heap.size (by simp; omega) HNE.out)
            have hF3 := hF2.at3 (.slice vb Q.length cpb)
            have hbw3 := HBW.out _ (hB2.setNew (c := w1.heap.size) (Nat.le_refl _) 3 (.slice vb Q.length cpb))
            have hPB3 := pairs_setc (i := 3) (B := w1.heap.size) hPB (fun g o hg => by have := hVB g o hg; omega) (.slice vb Q.length cpb)
            have C2 := Format_any 1306 1099511627776 1073741824 vb cpb Q _ hPB3 (by omega) hcpb (HE.out _ hbw3).env
            rw [HM.out.1, HM.out.2] at C2
            have C2 := Lib.hid C2
            obtain ⟨a0, a1, a2, a3, _, _, _, e3⟩ := hF2
            clear hF3 hPB3 hPB hVB own2 own3 hB2 hgrow hownR hown hF hB nw c3 HM hok3 h25 C1
            rw [hlen3] at *
            go_wp2_with fail
            refine C2.out.mono ?_
            rintro e w7 ⟨rfl, hb7⟩
            have hbw7 := hbw3.trans (hb7.mono hbw3.size)
            go_wp2_with fail
            refine (CW.out _ hbw7).mono ?_
            rintro e w8 ⟨rfl, hb8⟩
            go_wp2_with fail
            go_ret
            exact ⟨rfl, hbw7.trans (hb8.mono hbw7.size)⟩
end recordLimits
end Go.Proofs.YtiappccnjblcmaaDoor
