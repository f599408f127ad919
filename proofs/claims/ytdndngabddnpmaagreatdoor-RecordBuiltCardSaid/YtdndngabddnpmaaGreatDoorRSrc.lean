/-
  The source of numbers hands out a record, whatever numbers the list holds; other memory stays.
-/
import Derived.Test.YtdndngabddnpmaaGreatDoorSrcP
import Derived.Test.YtdndngabddnpmaaGreatDoorPRow
import Derived.Test.YtdndngabddnpmaaGreatDoorBytes
import Derived.Deep.RegionHeld3
import Derived.Deep.AppendLies
import Derived.Deep.DrawnRows
namespace Go.Proofs.YtdndngabddnpmaaGreatDoor.sr
open Go.RowKit Go.Proofs.YtdndngabddnpmaaGreatDoor.rd Go.Proofs.YtdndngabddnpmaaGreatDoor.vl Go.Proofs.YtdndngabddnpmaaGreatDoor.cm
attribute [local go_sem ↓] Go.wp_at_zero Go.wp_at_succ

/-- what Record answers -/
def RecB (W0 : World) (b : Nat) (a : Option Addr) (len cap k : Nat) (w : World) (e : Ending) (w' : World) : Prop :=
  ∃ (t tm sr : Int) (v : Option Addr) (cp : Nat) (ps : List PairP) (k' : Nat), e = .returned (.agg #[.int .i64 t, .int .i64 tm, .int .i64 sr, .slice v ps.length cp]) ∧
    ((1005 ≤ t ∧ t ≤ 1331) ∧ (-1 ≤ tm ∧ tm ≤ 1099511627776) ∧ (0 ≤ sr ∧ sr ≤ 1073741824)) ∧ (ps.length ≤ 3 ∧ ps.length ≤ cp ∧ (v = none → cp = 0)) ∧ PairsAt w' v ps ∧ (∀ g o, v = some ⟨g, o, none⟩ → w.heap.size ≤ g) ∧ k' ≤ k + 100 ∧ SrcAt W0 w' b a len cap k' ∧ Beside b w w'

theorem pairs_beside {w w' : World} {b : Nat} {v : Option Addr} {ps : List PairP} (h : PairsAt w v ps) (hb : Beside b w w') (hn : ∀ g o, v = some ⟨g, o, none⟩ → g ≠ b) : PairsAt w' v ps := by
  refine ⟨h.ok, ?_⟩
  rcases h.at_ with h0 | ⟨g, o, rfl, hc⟩
  · exact .inl h0
  · refine .inr ⟨g, o, rfl, fun j p hj => ?_⟩
    have hp := hc j p hj
    have hk := hb.block g hp.lt (hn g o rfl)
    have hx : ∀ q, w'.cell? ⟨g, q, none⟩ = w.cell? ⟨g, q, none⟩ := fun q => World.cell?_of_block (w := w) hk
    exact ⟨(hx _).trans hp.c0, (hx _).trans hp.c1, (hx _).trans hp.c2, (hx _).trans hp.c3⟩

theorem own_cap {B : Nat} {w : World} {n cap : Nat} {ps : List PairP} (h : OwnPairs B w (.slice none n cap) ps) : cap = 0 := by
  rcases h.2 with ⟨h1, _⟩ | ⟨g, c, cur, h1, _⟩
  · injection h1
  · injection h1 with h1
    cases h1

/-- a row that the call owns, while another block is stored to -/
theorem own_beside {w w' : World} {b B T z n : Nat} {v : Value} {xs : List Value} (h : w.ownsRow B T z v n xs) (hb : Beside b w w') (hB : b < B) : w'.ownsRow B T z v n xs := by
  refine ⟨h.1, ?_⟩
  rcases h.2 with hn | ⟨g, c, cur, h1, h2, h3, h4⟩
  · exact .inl hn
  · exact .inr ⟨g, c, cur, h1, h2, (hb.block g (Array.getElem?_eq_some_iff.1 h3).1 (by omega)).trans h3, h4⟩

theorem own_mono {w : World} {B B' T z n : Nat} {v : Value} {xs : List Value} (h : w.ownsRow B T z v n xs) (hB : B' ≤ B) : w.ownsRow B' T z v n xs :=
  ⟨h.1, h.2.imp id (fun ⟨g, cap, cur, h1, h2, h3⟩ => ⟨g, cap, cur, h1, by omega, h3⟩)⟩
theorem Beside.grown {b : Nat} {u w w' : World} {row : Option Nat} (h : Beside b u w) (hg : w.grownBy w' row) (hr : ∀ g, row = some g → u.heap.size ≤ g) : Beside b u w' :=
  ⟨hg.os.trans h.os, hg.tape.trans h.tape, hg.output.trans h.output, Nat.le_trans h.size hg.size, fun k hk hb => (hg.block k (Nat.lt_of_lt_of_le hk h.size) (fun e => by have := hr k e.symm; omega)).trans (h.block k hk hb)⟩
theorem Four.far {w w' : World} {B : Nat} {a b c d : Value} (h : Four w B a b c d) (hk : w'.heap[B]? = w.heap[B]?) : Four w' B a b c d := by
  have hc : ∀ j, w'.cell? ⟨B, j, none⟩ = w.cell? ⟨B, j, none⟩ := fun j => World.cell?_of_block (w := w) hk
  have hf : ∀ j, w'.frozen? ⟨B, j, none⟩ = w.frozen? ⟨B, j, none⟩ := fun j => World.frozen?_of_block (w := w) hk
  exact ⟨(hc 0).trans h.c0, (hc 1).trans h.c1, (hc 2).trans h.c2, (hc 3).trans h.c3, (hf 0).trans h.f0, (hf 1).trans h.f1, (hf 2).trans h.f2, (hf 3).trans h.f3⟩

set_option maxRecDepth 100000 in
set_option maxHeartbeats 8000000 in
theorem record_b (W0 w : World) (b : Nat) (a : Option Addr) (len cap k : Nat) (h : SrcAt W0 w b a len cap k) (hk : k + 200 ≤ 100000) :
    Calls Tryz.prog 8 #[.pointer (some ⟨b, 0, none⟩)] w (RecB W0 b a len cap k w) := by
  obtain ⟨i0, hi, hz0, hz1, hz2⟩ := info_parts infoPair
  have FIN : Hid (∀ (t tm sr : Int) (v : Option Addr) (cp : Nat) (ps : List PairP) (k' : Nat) (w' : World), (1005 ≤ t ∧ t ≤ 1331) → (-1 ≤ tm ∧ tm ≤ 1099511627776) → (0 ≤ sr ∧ sr ≤ 1073741824) → ps.length ≤ 3 → (∀ p ∈ ps, POk p) → OwnPairs w.heap.size w' (.slice v ps.length cp) ps → k' ≤ k + 100 → SrcAt W0 w' b a len cap k' → Beside b w w' →
      RecB W0 b a len cap k w (.returned (.agg #[.int .i64 t, .int .i64 tm, .int .i64 sr, .slice v ps.length cp])) w') := Lib.hid (fun t tm sr v cp ps k' w' h1 h2 h3 h4 h5 h6 h7 h8 h9 => by
    obtain ⟨v', cp', hv, hp, hc⟩ := own_pairs h6 h5
    injection hv with hv1 hv2 hv3
    subst hv1
    subst hv3
    exact ⟨t, tm, sr, v, cp, ps, k', rfl, ⟨h1, h2, h3⟩, ⟨h4, hc, fun hn => by subst hn; exact own_cap h6⟩, hp, fun g o hg => own_from h6 _ _ _ rfl g o hg, h7, h8, h9⟩)
  have hbl := h.lt
  have hW0 : W0.heap.size ≤ w.heap.size := h.old.size
  have fZ := Four.new w 29 (.int .i64 0) (.int .i64 0) (.int .i64 0) (.slice none 0 0)
  have hs := h.alloc (.cells #[.int .i64 0, .int .i64 0, .int .i64 0, .slice none 0 0] 29)
  have hbe := (Beside.refl b w).alloc (.cells #[.int .i64 0, .int .i64 0, .int .i64 0, .slice none 0 0] 29)
  have hz : (w.alloc (.cells #[.int .i64 0, .int .i64 0, .int .i64 0, .slice none 0 0] 29)).heap.size = w.heap.size + 1 := heap_alloc _ _
  have CP := Lib.hid (pick_b W0 ((w.alloc (.cells #[.int .i64 0, .int .i64 0, .int .i64 0, .slice none 0 0] 29)).alloc (.cells #[.int .i64 1005, .int .i64 1200, .int .i64 1300, .int .i64 1302, .int .i64 1305, .int .i64 1306, .int .i64 1307, .int .i64 1309, .int .i64 1320, .int .i64 1331] 3)) b a len cap k (hs.alloc _) (by omega) (w.heap.size + 1) (by omega) (by simp) 10 (by omega) (by omega) 10 (fun x => 1005 ≤ x ∧ x ≤ 1331) (fun j hj => by
    match j, hj with
    | 0, _ => exact ⟨_, by simp; rfl, by omega, by omega⟩
    | 1, _ => exact ⟨_, by simp; rfl, by omega, by omega⟩
    | 2, _ => exact ⟨_, by simp; rfl, by omega, by omega⟩
    | 3, _ => exact ⟨_, by simp; rfl, by omega, by omega⟩
    | 4, _ => exact ⟨_, by simp; rfl, by omega, by omega⟩
    | 5, _ => exact ⟨_, by simp; rfl, by omega, by omega⟩
    | 6, _ => exact ⟨_, by simp; rfl, by omega, by omega⟩
    | 7, _ => exact ⟨_, by simp; rfl, by omega, by omega⟩
    | 8, _ => exact ⟨_, by simp; rfl, by omega, by omega⟩
    | 9, _ => exact ⟨_, by simp; rfl, by omega, by omega⟩))
  have hbe := hbe.alloc (.cells #[.int .i64 1005, .int .i64 1200, .int .i64 1300, .int .i64 1302, .int .i64 1305, .int .i64 1306, .int .i64 1307, .int .i64 1309, .int .i64 1320, .int .i64 1331] 3)
  have fZ := fZ.beside ((Beside.refl b _).alloc (.cells #[.int .i64 1005, .int .i64 1200, .int .i64 1300, .int .i64 1302, .int .i64 1305, .int .i64 1306, .int .i64 1307, .int .i64 1309, .int .i64 1320, .int .i64 1331] 3)) (by omega)
  clear hs h hz
  go_enter Tryz.func8, Tryz.ntmps8
  go_wp2_with fail
  refine CP.out.mono ?_
  rintro e w2 ⟨t, ht, rfl, hs2, hb2⟩
  have hbe2 := hbe.trans hb2
  have fZ2 := fZ.beside hb2 (by omega)
  clear hbe hb2 fZ CP
  have hl2 := hs2.lt
  have CP := Lib.hid (pick_b W0 (w2.alloc (.cells #[.int .i64 0, .int .i64 5, .int .i64 999, .int .i64 1000, .int .i64 12345, .int .i64 1099511627776] 3)) b a len cap (k + 1) (hs2.alloc _) (by omega) w2.heap.size (by omega) (by simp) 6 (by omega) (by omega) 6 (fun x => 0 ≤ x ∧ x ≤ 1099511627776) (fun j hj => by
    match j, hj with
    | 0, _ => exact ⟨_, by simp; rfl, by omega, by omega⟩
    | 1, _ => exact ⟨_, by simp; rfl, by omega, by omega⟩
    | 2, _ => exact ⟨_, by simp; rfl, by omega, by omega⟩
    | 3, _ => exact ⟨_, by simp; rfl, by omega, by omega⟩
    | 4, _ => exact ⟨_, by simp; rfl, by omega, by omega⟩
    | 5, _ => exact ⟨_, by simp; rfl, by omega, by omega⟩))
  have hbx := (Beside.refl b w2).alloc (.cells #[.int .i64 0, .int .i64 5, .int .i64 999, .int .i64 1000, .int .i64 12345, .int .i64 1099511627776] 3)
  go_wp2_with fail
  refine CP.out.mono ?_
  rintro e w3 ⟨tm, htm, rfl, hs3, hb3⟩
  have hbe3 := hbe2.trans (hbx.trans hb3)
  have fZ3 := fZ2.beside (hbx.trans hb3) (by omega)
  clear hbe2 hb3 fZ2 CP hbx hs2
  have hl3 := hs3.lt
  have CP := Lib.hid (pick_b W0 (w3.alloc (.cells #[.int .i64 0, .int .i64 1, .int .i64 7, .int .i64 1073741824] 3)) b a len cap (k + 1 + 1) (hs3.alloc _) (by omega) w3.heap.size (by omega) (by simp) 4 (by omega) (by omega) 4 (fun x => 0 ≤ x ∧ x ≤ 1073741824) (fun j hj => by
    match j, hj with
    | 0, _ => exact ⟨_, by simp; rfl, by omega, by omega⟩
    | 1, _ => exact ⟨_, by simp; rfl, by omega, by omega⟩
    | 2, _ => exact ⟨_, by simp; rfl, by omega, by omega⟩
    | 3, _ => exact ⟨_, by simp; rfl, by omega, by omega⟩))
  have hbx := (Beside.refl b w3).alloc (.cells #[.int .i64 0, .int .i64 1, .int .i64 7, .int .i64 1073741824] 3)
  go_wp2_with fail
  refine CP.out.mono ?_
  rintro e w4 ⟨sr, hsr, rfl, hs4, hb4⟩
  have hbe4 := hbe3.trans (hbx.trans hb4)
  have fZ4 := fZ3.beside (hbx.trans hb4) (by omega)
  clear hbe3 hb4 fZ3 CP hbx hs3
  have hl4 := hs4.lt
  have hZ4 := fZ4.lt
  have fR := Four.new w4 29 (.int .i64 t) (.int .i64 tm) (.int .i64 sr) (.slice none 0 0)
  have hbx := (Beside.refl b w4).alloc (.cells #[.int .i64 t, .int .i64 tm, .int .i64 sr, .slice none 0 0] 29)
  have CN := Lib.hid (n_b W0 (w4.alloc (.cells #[.int .i64 t, .int .i64 tm, .int .i64 sr, .slice none 0 0] 29)) b a len cap (k + 1 + 1 + 1) 4 (hs4.alloc _) (by omega) (by omega) (by omega))
  go_wp2_with fail
  refine CN.out.mono ?_
  rintro e w5 ⟨x, hx, rfl, hs5, hb5⟩
  have hbe5 := hbe4.trans (hbx.trans hb5)
  have fZ5 := fZ4.beside (hbx.trans hb5) (by omega)
  have fR5 := fR.beside hb5 (by omega)
  have hRl : w4.heap.size < w5.heap.size := fR5.lt
  clear hbe4 hb5 fZ4 CN hbx hs4 fR
  have htm' : -1 ≤ tm ∧ tm ≤ 1099511627776 := ⟨by omega, htm.2⟩
  go_wp2_with fail
  go_loopw [4] (fun i wr => ∃ (n k' : Nat) (v : Value) (ps : List PairP), i = .int .i64 (n : Int) ∧ n + ps.length ≤ 3 ∧ k' + 30 * n ≤ k + 94 ∧ (∀ p ∈ ps, POk p) ∧ OwnPairs w5.heap.size wr v ps ∧ SrcAt W0 wr b a len cap k' ∧ Beside b w wr ∧
      Four wr w.heap.size (.int .i64 0) (.int .i64 0) (.int .i64 0) (.slice none 0 0) ∧ Four wr w4.heap.size (.int .i64 t) (.int .i64 tm) (.int .i64 sr) v ∧ w5.heap.size ≤ wr.heap.size) (fun i _ => (intOf i).toNat)
  case atStart => exact ⟨x, k + 1 + 1 + 1 + 1, _, [], rfl, by simp; omega, by omega, fun p hp => by simp at hp, World.ownsRow_nil _ _ _ _, hs5, hbe5, fZ5, fR5, Nat.le_refl _⟩
  case round =>
    obtain ⟨n, k', v, ps, rfl, hn, hk', hok, hown, hsr', hbr, fZr, fRr, hszr⟩ := hrel
    clear hs5 hbe5 fZ5 fR5
    have hlr := hsr'.lt
    by_cases h0 : 0 < n
    · have hnn : (0 : Int) < (n : Int) := by omega
      have CQ := Lib.hid (fun W (hs : SrcAt W0 W b a len cap k') => pair_b W0 W b a len cap k' hs (by omega))
      have hsd : SrcAt W0 wr.drew b a len cap k' := hsr'.later (Below.refl wr.heap.size wr).drew
      have c3 := fRr.c3
      have hRlt := fRr.lt
      obtain ⟨vo, vn, vc, rfl⟩ : ∃ vo vn vc, v = .slice vo vn vc := by
        rcases hown.2 with ⟨hv, _⟩ | ⟨g, c, cur, hv, _⟩
        · exact ⟨_, _, _, hv⟩
        · exact ⟨_, _, _, hv⟩
      have hownR : wr.ownsRow w5.heap.size 39 4 (.slice vo vn vc) ps.length (psc ps) := hown
      have hneR : some w4.heap.size ≠ (Value.slice vo vn vc).ownBlock := (own_far hownR hRl).symm
      have hneZ : some w.heap.size ≠ (Value.slice vo vn vc).ownBlock := (own_far hownR (by omega)).symm
      have hneB : some b ≠ (Value.slice vo vn vc).ownBlock := (own_far hownR (by omega)).symm
      have hge : ∀ g, (Value.slice vo vn vc).ownBlock = some g → w5.heap.size ≤ g := fun g hg => (hownR.lt g hg).1
      have hZlt := fZr.lt
      have hRd : Four wr.drew w4.heap.size (.int .i64 t) (.int .i64 tm) (.int .i64 sr) (.slice vo vn vc) := fRr.far rfl
      have hZd : Four wr.drew w.heap.size (.int .i64 0) (.int .i64 0) (.int .i64 0) (.slice none 0 0) := fZr.far rfl
      have hownD : wr.drew.ownsRow w5.heap.size 39 4 (.slice vo vn vc) ps.length (psc ps) := hown
      have hbrD : Beside b w wr.drew := hbr.trans ⟨rfl, rfl, rfl, Nat.le_refl _, fun _ _ _ => rfl⟩
      go_wp2_with fail
      go_region_law (first
        | (refine step_append_lies _ (by rfl) _ _ _ (by rfl) w5.heap.size 39 i0 _ 4 48 Tryz.underlying27 hi hz0 hz1 hz2 rfl (by omega) _ ps.length _ (by rfl) (ownP.alloc _)
             ⟨wP.heap.size, 0, none⟩ 1 1 [.string (bs nmL), .int .i64 kd, .int .i64 nu, .string (bs txL)] (by rfl) (by rfl) (World.news_of_block (cs := #[.string (bs nmL), .int .i64 kd, .int .i64 nu, .string (bs txL)]) (t := 39) (fr := (0, 0)) (heap_alloc_new wP _)) (by simp [Value.oneCell'])
             (by omega) (by unfold maxLen; omega) (by omega) (by simp; omega) (wP.heap.size + 1) (by simp) ?_
           intro gg cap2 w1 hown1 hgrow hat hlt1
           have q3 := (hgrow.cell_far ⟨w4.heap.size, 3, none⟩ (by simp; omega) hneR).trans ((World.cell?_alloc_lt wP _ ⟨w4.heap.size, 3, none⟩ (by show w4.heap.size < _; omega)).trans pc3)
           have fR1 := (fRP.beside ((Beside.refl b wP).alloc (.cells #[.string (bs nmL), .int .i64 kd, .int .i64 nu, .string (bs txL)] 39)) (by omega)).far (hgrow.block w4.heap.size (by simp; omega) hneR)
           have qf := fR1.f3)
        | (go_simp
           go_wp2_with ((go_at_call 17; (with_reducible refine (CQ.out _ (by assumption)).mono ?_); rintro e wP ⟨nm, kd, nu, tx, k2, rfl, h1, h2, h3, h4, h5, hsP, hbP⟩; obtain ⟨nmL, rfl⟩ : ∃ l, nm = bs l := ⟨nm.data.toList, (bs_of nm).symm⟩; obtain ⟨txL, rfl⟩ : ∃ l, tx = bs l := ⟨tx.data.toList, (bs_of tx).symm⟩; have fRP := hRd.beside hbP (by omega); have fZP := hZd.beside hbP (by omega); have ownP := own_beside hownD hbP (by omega); have hbrP := hbrD.trans hbP; have hszP : w5.heap.size ≤ wP.heap.size := Nat.le_trans hszr hbP.size; have pc3 := fRP.c3; have hRP : w4.heap.size < wP.heap.size := fRP.lt))))
      all_goals
        have own2 := ownsRow_setCell_below hown1 (a := ⟨w4.heap.size, 3, none⟩) hRl (.slice (some ⟨gg, 0, none⟩) (ps.length + 1) cap2)
        have src2 := ((hsP.alloc (.cells #[.string (bs nmL), .int .i64 kd, .int .i64 nu, .string (bs txL)] 39)).keeps ((Below.refl W0.heap.size _).grown hgrow (by simp; omega) (fun g hg => by have := hge g hg; omega)) (hgrow.block b (by simp; omega) hneB)).setNew (c := w4.heap.size) (by omega) (by omega) 3 (.slice (some ⟨gg, 0, none⟩) (ps.length + 1) cap2)
        have bes2 := ((hbrP.alloc (.cells #[.string (bs nmL), .int .i64 kd, .int .i64 nu, .string (bs txL)] 39)).grown hgrow (fun g hg => by have := hge g hg; omega)).setNew (c := w4.heap.size) (by omega) 3 (.slice (some ⟨gg, 0, none⟩) (ps.length + 1) cap2)
        have fz2 := ((fZP.beside ((Beside.refl b wP).alloc (.cells #[.string (bs nmL), .int .i64 kd, .int .i64 nu, .string (bs txL)] 39)) (by omega)).far (hgrow.block w.heap.size (by simp; omega) hneZ)).other (C := w4.heap.size) (o := 3) (by omega) (.slice (some ⟨gg, 0, none⟩) (ps.length + 1) cap2)
        have fr2 := fR1.at3 (.slice (some ⟨gg, 0, none⟩) (ps.length + 1) cap2)
        have sz2 : w5.heap.size ≤ (w1.setCell ⟨w4.heap.size, 3, none⟩ (.slice (some ⟨gg, 0, none⟩) (ps.length + 1) cap2)).heap.size := by
          have := hgrow.size
          simp at this ⊢
          omega
        have hok2 : ∀ p ∈ ps ++ [(⟨nmL, kd, nu, txL⟩ : PairP)], POk p := fun p hp => by
          rcases List.mem_append.1 hp with hp | hp
          · exact hok p hp
          · simp at hp
            subst hp
            rw [bs_size] at h1 h4
            exact ⟨by show nmL.length ≤ _; omega, by show txL.length ≤ _; omega, h3⟩
        have own3 : OwnPairs w5.heap.size (w1.setCell ⟨w4.heap.size, 3, none⟩ (.slice (some ⟨gg, 0, none⟩) (ps.length + 1) cap2)) (.slice (some ⟨gg, 0, none⟩) (ps.length + 1) cap2) (ps ++ [(⟨nmL, kd, nu, txL⟩ : PairP)]) := by
          unfold OwnPairs
          rw [psc_append, List.length_append]
          exact own2
        clear own2 hown1 hgrow hown hownR hownD fRr fZr hRd hZd fRP fZP fR1 hbrP hbrD hbP hsP hsd hsr' ownP pc3 q3 qf c3 hbr
        go_wp2_with fail
        exact ⟨⟨n - 1, k2, _, ps ++ [(⟨nmL, kd, nu, txL⟩ : PairP)], by go_num, by simp; omega, by omega, hok2, own3, src2, bes2, fz2, fr2, sz2⟩, by simp [intOf]; omega⟩
    · obtain rfl : n = 0 := by omega
      have CN := Lib.hid (n_b W0 wr b a len cap k' 20 hsr' (by omega) (by omega) (by omega))
      have hZlt := fZr.lt
      have hRlt := fRr.lt
      go_wp2_with fail
      refine CN.out.mono ?_
      rintro e w6 ⟨y, hy, rfl, hs6, hb6⟩
      have own6 := own_beside hown hb6 (by omega)
      have hbr6 := hbr.trans hb6
      have fZ6 := fZr.beside hb6 (by omega)
      have fR6 := fRr.beside hb6 (by omega)
      have hsz6 : w5.heap.size ≤ w6.heap.size := Nat.le_trans hszr hb6.size
      clear hown hbr fZr fRr hsr' CN hb6
      obtain ⟨vo, vc, rfl, -, -⟩ := own_pairs own6 hok
      by_cases hy19 : y = 19
      · subst hy19
        have CA := Lib.hid (range_b W0 w6 b a len cap (k' + 1) hs6 (by omega) 1299 4 (by omega) (by omega) (by omega) 1303 (by omega))
        go_wp2_with fail
        refine CA.out.mono ?_
        rintro e w7 ⟨t7, ht7, rfl, hs7, hb7⟩
        have own7 := own_beside own6 hb7 (by omega)
        have hbr7 := hbr6.trans hb7
        have fZ7 := fZ6.beside hb7 (by omega)
        have fR7 := fR6.beside hb7 (by omega)
        have hsz7 : w5.heap.size ≤ w7.heap.size := Nat.le_trans hsz6 hb7.size
        clear own6 hbr6 fZ6 fR6 hs6 CA hb7
        have CB := Lib.hid (range_b W0 w7 b a len cap (k' + 1 + 1) hs7 (by omega) (-1) 2 (by omega) (by omega) (by omega) 1 (by omega))
        go_wp2_with fail
        refine CB.out.mono ?_
        rintro e w8 ⟨t8, ht8, rfl, hs8, hb8⟩
        have own8 := own_beside own7 hb8 (by omega)
        have hbr8 := hbr7.trans hb8
        have fZ8 := fZ7.beside hb8 (by omega)
        have fR8 := fR7.beside hb8 (by omega)
        have hsz8 : w5.heap.size ≤ w8.heap.size := Nat.le_trans hsz7 hb8.size
        clear own7 hbr7 fZ7 fR7 hs7 CB hb8
        have ownA := ownsRow_setCell_below (ownsRow_setCell_below own8 (a := ⟨w4.heap.size, 0, none⟩) hRl (.int .i64 t7)) (a := ⟨w4.heap.size, 1, none⟩) hRl (.int .i64 t8)
        have hsA := (hs8.setNew (c := w4.heap.size) (by omega) (by omega) 0 (.int .i64 t7)).setNew (c := w4.heap.size) (by omega) (by omega) 1 (.int .i64 t8)
        have hbA := (hbr8.setNew (c := w4.heap.size) (by omega) 0 (.int .i64 t7)).setNew (c := w4.heap.size) (by omega) 1 (.int .i64 t8)
        have fZA := (fZ8.other (C := w4.heap.size) (o := 0) (by omega) (.int .i64 t7)).other (C := w4.heap.size) (o := 1) (by omega) (.int .i64 t8)
        have own9 := ownsRow_setCell_below (ownsRow_setCell_below (ownsRow_setCell_below (ownsRow_setCell_below ownA (a := ⟨w.heap.size, 0, none⟩) (by show w.heap.size < _; omega) (.int .i64 t7)) (a := ⟨w.heap.size, 1, none⟩) (by show w.heap.size < _; omega) (.int .i64 t8)) (a := ⟨w.heap.size, 2, none⟩) (by show w.heap.size < _; omega) (.int .i64 sr)) (a := ⟨w.heap.size, 3, none⟩) (by show w.heap.size < _; omega) (.slice vo ps.length vc)
        have hs9 := (((hsA.setNew (c := w.heap.size) hW0 (by omega) 0 (.int .i64 t7)).setNew (c := w.heap.size) hW0 (by omega) 1 (.int .i64 t8)).setNew (c := w.heap.size) hW0 (by omega) 2 (.int .i64 sr)).setNew (c := w.heap.size) hW0 (by omega) 3 (.slice vo ps.length vc)
        have hb9 := (((hbA.setNew (c := w.heap.size) (Nat.le_refl _) 0 (.int .i64 t7)).setNew (c := w.heap.size) (Nat.le_refl _) 1 (.int .i64 t8)).setNew (c := w.heap.size) (Nat.le_refl _) 2 (.int .i64 sr)).setNew (c := w.heap.size) (Nat.le_refl _) 3 (.slice vo ps.length vc)
        have gZ := fZA.all (.int .i64 t7) (.int .i64 t8) (.int .i64 sr) (.slice vo ps.length vc)
        obtain ⟨z0, z1, z2, z3, y0, y1, y2, y3⟩ := fZA
        obtain ⟨r0, r1, r2, r3, x0, x1, _, _⟩ := fR8
        obtain ⟨d0, d1, d2, d3, _, _, _, _⟩ := gZ
        clear own8 hbr8 hs8 ownA hsA hbA fZ8
        go_wp2_with fail
        exact bodyPost_ret (v := .agg #[.int .i64 t7, .int .i64 t8, .int .i64 sr, .slice vo ps.length vc]) (by simp [results, Tryz.f8, go_sem, d0, d1, d2, d3]) rfl (FIN.out t7 t8 sr _ _ _ _ _ (by omega) (by omega) hsr (by omega) hok (own_mono own9 (by omega)) (by omega) hs9 hb9)
      · have e19 : ((y : Int) == 19) = false := beq_eq_false_iff_ne.2 (by omega)
        have own9 := ownsRow_setCell_below (ownsRow_setCell_below (ownsRow_setCell_below (ownsRow_setCell_below own6 (a := ⟨w.heap.size, 0, none⟩) (by show w.heap.size < _; omega) (.int .i64 t)) (a := ⟨w.heap.size, 1, none⟩) (by show w.heap.size < _; omega) (.int .i64 tm)) (a := ⟨w.heap.size, 2, none⟩) (by show w.heap.size < _; omega) (.int .i64 sr)) (a := ⟨w.heap.size, 3, none⟩) (by show w.heap.size < _; omega) (.slice vo ps.length vc)
        have hs9 := (((hs6.setNew (c := w.heap.size) hW0 (by omega) 0 (.int .i64 t)).setNew (c := w.heap.size) hW0 (by omega) 1 (.int .i64 tm)).setNew (c := w.heap.size) hW0 (by omega) 2 (.int .i64 sr)).setNew (c := w.heap.size) hW0 (by omega) 3 (.slice vo ps.length vc)
        have hb9 := (((hbr6.setNew (c := w.heap.size) (Nat.le_refl _) 0 (.int .i64 t)).setNew (c := w.heap.size) (Nat.le_refl _) 1 (.int .i64 tm)).setNew (c := w.heap.size) (Nat.le_refl _) 2 (.int .i64 sr)).setNew (c := w.heap.size) (Nat.le_refl _) 3 (.slice vo ps.length vc)
        have gZ := fZ6.all (.int .i64 t) (.int .i64 tm) (.int .i64 sr) (.slice vo ps.length vc)
        obtain ⟨z0, z1, z2, z3, y0, y1, y2, y3⟩ := fZ6
        obtain ⟨r0, r1, r2, r3, _, _, _, _⟩ := fR6
        obtain ⟨d0, d1, d2, d3, _, _, _, _⟩ := gZ
        clear own6 hbr6 hs6
        go_wp2_with fail
        exact bodyPost_ret (v := .agg #[.int .i64 t, .int .i64 tm, .int .i64 sr, .slice vo ps.length vc]) (by simp [results, Tryz.f8, go_sem, d0, d1, d2, d3]) rfl (FIN.out t tm sr _ _ _ _ _ ht htm' hsr (by omega) hok (own_mono own9 (by omega)) (by omega) hs9 hb9)
end Go.Proofs.YtdndngabddnpmaaGreatDoor.sr
