/-
  record.read and record.Parse.
-/
import Derived.Test.YtdndngabddnpmaaGreatDoorRdP
import Derived.Test.YtdndngabddnpmaaGreatDoorRFmt
namespace Go.Proofs.YtdndngabddnpmaaGreatDoor.rd
open Go.RowKit Go.Proofs.YtdndngabddnpmaaGreatDoor.cm Go.Proofs.YtdndngabddnpmaaGreatDoor.vl Go.Proofs.YtdndngabddnpmaaGreatDoor.sr
attribute [local go_sem ↓] Go.wp_at_zero Go.wp_at_succ

/-- a record that is written as this line -/
def Good (l : List UInt8) (r : RecP) : Prop := fmtR r = some l ∧ ∀ p ∈ r.pairs, isInt p.num
def y4 (r : RecP) : List UInt8 := Lib.decDigits r.serial.toNat ++ ([41, 58] ++ tailL r.pairs)
def y3 (r : RecP) : List UInt8 := three (r.time.toNat % 1000) ++ ([58] ++ y4 r)
def y2 (r : RecP) : List UInt8 := Lib.decDigits (r.time.toNat / 1000) ++ ([46] ++ y3 r)
def y1 (r : RecP) : List UInt8 := nameT r.type ++ ([32, 109, 115, 103, 61, 97, 117, 100, 105, 116, 40] ++ y2 r)
structure GoodP (l : List UInt8) (r : RecP) : Prop where
  line : l = [116, 121, 112, 101, 61] ++ y1 r
  typ : (findT r.type).isSome = true
  tim : 0 ≤ r.time ∧ r.time ≤ 1099511627776
  ser : 0 ≤ r.serial ∧ r.serial ≤ 1073741824
  prs : ∀ p ∈ r.pairs, checkP p = 0 ∧ isInt p.num
theorem Good.parts {l : List UInt8} {r : RecP} (h : Good l r) : GoodP l r := by
  obtain ⟨h, hi⟩ := h
  unfold fmtR at h
  split at h
  · rename_i hc
    cases h
    obtain ⟨h1, h2, h3, h4, h5⟩ := checkR_parts hc
    refine ⟨?_, h1, h2, h3, fun p hp => ⟨checkPs_sound r.pairs [] h5 p hp, hi p hp⟩⟩
    unfold lineL word0 word1 stampL y1 y2 y3 y4 tailL
    simp
  · cases h
theorem GoodP.cut1 {l : List UInt8} {r : RecP} (h : GoodP l r) : Lib.cut (y1 r) [32, 109, 115, 103, 61, 97, 117, 100, 105, 116, 40] = (nameT r.type, y2 r, true) :=
  cut_app 32 _ _ _ (fun x hx => ((name_back h.typ).2.2 x hx).1)
theorem dec_ne (n : Nat) (c : UInt8) (hc : vl.digB c = false) : ∀ x ∈ Lib.decDigits n, x ≠ c := fun x hx e => by
  have := dec_dig n x hx
  rw [e, hc] at this
  cases this
theorem three_ne (n : Nat) (c : UInt8) (hc : vl.digB c = false) : ∀ x ∈ three n, x ≠ c := fun x hx e => by
  have := three_dig n x hx
  rw [e, hc] at this
  cases this
theorem cut2_ (r : RecP) : Lib.cut (y2 r) [46] = (Lib.decDigits (r.time.toNat / 1000), y3 r, true) := cut_app 46 _ _ _ (dec_ne _ _ (by decide))
theorem cut3_ (r : RecP) : Lib.cut (y3 r) [58] = (three (r.time.toNat % 1000), y4 r, true) := cut_app 58 _ _ _ (three_ne _ _ (by decide))
theorem cut4_ (r : RecP) : Lib.cut (y4 r) [41, 58] = (Lib.decDigits r.serial.toNat, tailL r.pairs, true) := cut_app 41 _ _ _ (dec_ne _ _ (by decide))

/-- what read answers -/
def ReadR (s : ByteArray) (w : World) (e : Ending) (w' : World) : Prop :=
  ∃ (t tm sr : Int) (va : Option Addr) (cap : Nat) (ps : List PairP) (ok : Bool), e = .returned (.tuple #[.agg #[.int .i64 t, .int .i64 tm, .int .i64 sr, .slice va ps.length cap], .bool ok]) ∧
    PairsAt w' va ps ∧ (ps.length ≤ cap ∧ ps.length ≤ s.size + 1) ∧ Below w.heap.size w w' ∧ (∀ g o, va = some ⟨g, o, none⟩ → w.heap.size ≤ g) ∧ ∀ r, Good s.data.toList r → ok = true ∧ (⟨t, tm, sr, ps⟩ : RecP) = r
theorem pairs_set4 {w : World} {B : Nat} {v : Option Addr} {ps : List PairP} (h : PairsAt w v ps) (hn : ∀ g o, v = some ⟨g, o, none⟩ → g ≠ B) (x y z u : Value) : PairsAt ((((w.setCell ⟨B, 0, none⟩ x).setCell ⟨B, 1, none⟩ y).setCell ⟨B, 2, none⟩ z).setCell ⟨B, 3, none⟩ u) v ps := by
  refine ⟨h.ok, ?_⟩
  rcases h.at_ with h0 | ⟨g, o, rfl, hc⟩
  · exact .inl h0
  · refine .inr ⟨g, o, rfl, fun j p hj => ?_⟩
    have hp := hc j p hj
    have hx : ∀ q, ((((w.setCell ⟨B, 0, none⟩ x).setCell ⟨B, 1, none⟩ y).setCell ⟨B, 2, none⟩ z).setCell ⟨B, 3, none⟩ u).cell? ⟨g, q, none⟩ = w.cell? ⟨g, q, none⟩ := fun q => set4_cell (hn g o rfl) x y z u
    exact ⟨(hx _).trans hp.c0, (hx _).trans hp.c1, (hx _).trans hp.c2, (hx _).trans hp.c3⟩
theorem trim_le (s p : List UInt8) : (Lib.trimPrefix s p).length ≤ s.length := by
  unfold Lib.trimPrefix
  split
  · simp
  · omega

set_option maxRecDepth 100000 in
set_option maxHeartbeats 8000000 in
theorem read_any (s : ByteArray) (w : World) (hs : s.size ≤ 100000) (hE : EnvP w) :
    Calls Tryz.prog 29 #[.string s] w (ReadR s w) := by
  have HE : Hid (∀ W, Beside (w.heap.size + 1) w W → EnvP W) := Lib.hid (fun W hb => hE.below (hb.below (by omega) (Nat.le_refl _)))
  have HG := Lib.hid (fun r (h : Good s.data.toList r) => h.parts)
  have FIN : Hid (∀ (t tm sr : Int) (va : Option Addr) (n cap : Nat) (ps : List PairP) (ok : Bool) (w' : World), n = ps.length → PairsAt w' va ps → ps.length ≤ cap → ps.length ≤ s.size + 1 → Below w.heap.size w w' → (∀ g o, va = some ⟨g, o, none⟩ → w.heap.size ≤ g) → (∀ r, Good s.data.toList r → ok = true ∧ (⟨t, tm, sr, ps⟩ : RecP) = r) →
      ReadR s w (.returned (.tuple #[.agg #[.int .i64 t, .int .i64 tm, .int .i64 sr, .slice va n cap], .bool ok])) w') := Lib.hid (fun t tm sr va n cap ps ok w' h0 h1 h2 h3 h4 h5 h6 => by subst h0; exact ⟨t, tm, sr, va, cap, ps, ok, rfl, h1, ⟨h2, h3⟩, h4, h5, h6⟩)
  have hsl : s.data.toList.length ≤ 100000 := by rw [← Lib.size_eq]; exact hs
  have T0 := Two.new (w.alloc (.cells #[.int .i64 0, .int .i64 0, .int .i64 0, .slice none 0 0] 29)) 82 s false
  rw [heap_alloc] at T0
  have F0 := Four.new w 29 (.int .i64 0) (.int .i64 0) (.int .i64 0) (.slice none 0 0)
  have bA : Beside (w.heap.size + 1) w ((w.alloc (.cells #[.int .i64 0, .int .i64 0, .int .i64 0, .slice none 0 0] 29)).alloc (.cells #[.string s, .bool false] 82)) := ((Beside.refl _ w).alloc _).alloc _
  have F1 := F0.beside ((Beside.refl (w.heap.size + 1) _).alloc (.cells #[.string s, .bool false] 82)) (by omega)
  have C1 := Lib.hid (skip_any (w.heap.size + 1) s ⟨#[116, 121, 112, 101, 61]⟩ false _ T0)
  clear T0 F0 hE
  go_enter Tryz.func29, Tryz.ntmps29
  go_wp2_with fail
  refine C1.out.mono ?_
  rintro e w1 ⟨⟨v1, rfl⟩, T1, b1⟩
  have bB := bA.trans b1
  have F2 := F1.beside b1 (by omega)
  rw [show (⟨#[116, 121, 112, 101, 61]⟩ : ByteArray).data.toList = [116, 121, 112, 101, 61] from rfl] at T1
  have P1 : Hid (∀ r, Good s.data.toList r → Lib.trimPrefix s.data.toList [116, 121, 112, 101, 61] = y1 r ∧ (false || !Lib.hasPrefix s.data.toList [116, 121, 112, 101, 61]) = false) := Lib.hid (fun r h => by
    rw [(HG.out r h).line, (prefix_app _ _).1, (prefix_app _ _).2]
    exact ⟨rfl, rfl⟩)
  have L1 := trim_le s.data.toList [116, 121, 112, 101, 61]
  generalize Lib.trimPrefix s.data.toList [116, 121, 112, 101, 61] = l1 at *
  generalize (false || !Lib.hasPrefix s.data.toList [116, 121, 112, 101, 61]) = f1 at *
  have C2 := Lib.hid (until_any (w.heap.size + 1) (bs l1) ⟨#[32, 109, 115, 103, 61, 97, 117, 100, 105, 116, 40]⟩ f1 w1 T1 (by rw [bs_size]; omega) (HE.out _ bB).ml)
  unfold UntilR at C2
  rw [bs_data, show (⟨#[32, 109, 115, 103, 61, 97, 117, 100, 105, 116, 40]⟩ : ByteArray).data.toList = [32, 109, 115, 103, 61, 97, 117, 100, 105, 116, 40] from rfl] at C2
  clear T1 b1 bA F1 C1
  go_wp2_with fail
  refine C2.out.mono ?_
  rintro e w2 ⟨rfl, T2, b2⟩
  have bC := bB.trans b2
  have F3 := F2.beside b2 (by omega)
  have P2 : Hid (∀ r, Good s.data.toList r → (Lib.cut l1 [32, 109, 115, 103, 61, 97, 117, 100, 105, 116, 40]).1 = nameT r.type ∧ (Lib.cut l1 [32, 109, 115, 103, 61, 97, 117, 100, 105, 116, 40]).2.1 = y2 r ∧ (f1 || !(Lib.cut l1 [32, 109, 115, 103, 61, 97, 117, 100, 105, 116, 40]).2.2) = false) := Lib.hid (fun r h => by
    rw [(P1.out r h).1, (P1.out r h).2, (HG.out r h).cut1]
    exact ⟨rfl, rfl, rfl⟩)
  have L2 := (cut_le l1 [32, 109, 115, 103, 61, 97, 117, 100, 105, 116, 40]).2
  generalize Lib.cut l1 [32, 109, 115, 103, 61, 97, 117, 100, 105, 116, 40] = c2 at *
  obtain ⟨x2, l2, g2⟩ := c2
  dsimp only at T2 P2 L2 ⊢
  generalize (f1 || !g2) = f2 at *
  have C3 := Lib.hid (Number_any (bs x2) w2 (HE.out _ bC).env.tab)
  rw [show numB (bs x2) = numT x2 by unfold numB; rw [bs_data]] at C3
  clear b2 bB F2 C2
  go_wp2_with fail
  refine C3.out.mono ?_
  rintro e w3 ⟨rfl, b3⟩
  have bD := bC.trans (Beside.of_below b3)
  have F4 := F3.beside (Beside.of_below b3) (s := w.heap.size + 1) (by omega)
  have T3 := T2.below b3
  have C4 := Lib.hid (number_any (w.heap.size + 1) (bs l2) ⟨#[46]⟩ f2 w3 T3 (by rw [bs_size]; omega) (HE.out _ bD) (fun W hb => HE.out _ (bD.trans hb)))
  unfold NumberR at C4
  rw [bs_data, show (⟨#[46]⟩ : ByteArray).data.toList = [46] from rfl] at C4
  clear b3 bC F3 C3 T2
  go_wp2_with fail
  refine C4.out.mono ?_
  rintro e w4 ⟨n4, f4, rfl, T4, b4, k4⟩
  have bE := bD.trans b4
  have F5 := F4.beside b4 (by omega)
  have P4 : Hid (∀ r, Good s.data.toList r → (Lib.cut l2 [46]).2.1 = y3 r ∧ f4 = false ∧ n4 = ((r.time.toNat / 1000 : Nat) : Int)) := Lib.hid (fun r h => by
    obtain ⟨q1, q2, q3⟩ := P2.out r h
    have hp := HG.out r h
    rw [q2, cut2_ r] at k4 ⊢
    have := k4 _ q3 rfl (atoi_dec _ (by have := hp.tim; omega))
    exact ⟨rfl, this.2, this.1⟩)
  have L4 := (cut_le l2 [46]).2
  generalize (Lib.cut l2 [46]).2.1 = l4 at *
  have C5 := Lib.hid (number_any (w.heap.size + 1) (bs l4) ⟨#[58]⟩ f4 w4 T4 (by rw [bs_size]; omega) (HE.out _ bE) (fun W hb => HE.out _ (bE.trans hb)))
  unfold NumberR at C5
  rw [bs_data, show (⟨#[58]⟩ : ByteArray).data.toList = [58] from rfl] at C5
  clear b4 bD F4 C4 T3 T4 k4
  go_wp2_with fail
  refine C5.out.mono ?_
  rintro e w5 ⟨n5, f5, rfl, T5, b5, k5⟩
  have bF := bE.trans b5
  have F6 := F5.beside b5 (by omega)
  have P5 : Hid (∀ r, Good s.data.toList r → (Lib.cut l4 [58]).2.1 = y4 r ∧ f5 = false ∧ n5 = ((r.time.toNat % 1000 : Nat) : Int)) := Lib.hid (fun r h => by
    obtain ⟨q1, q2, q3⟩ := P4.out r h
    rw [q1, cut3_ r] at k5 ⊢
    have := k5 _ q2 rfl (atoi_three _ (by omega))
    exact ⟨rfl, this.2, this.1⟩)
  have L5 := (cut_le l4 [58]).2
  generalize (Lib.cut l4 [58]).2.1 = l5 at *
  have C6 := Lib.hid (number_any (w.heap.size + 1) (bs l5) ⟨#[41, 58]⟩ f5 w5 T5 (by rw [bs_size]; omega) (HE.out _ bF) (fun W hb => HE.out _ (bF.trans hb)))
  unfold NumberR at C6
  rw [bs_data, show (⟨#[41, 58]⟩ : ByteArray).data.toList = [41, 58] from rfl] at C6
  clear b5 bE F5 C5 T5 k5
  go_wp2_with fail
  refine C6.out.mono ?_
  rintro e w6 ⟨n6, f6, rfl, T6, b6, k6⟩
  have bG := bF.trans b6
  have F7 := F6.beside b6 (by omega)
  have P6 : Hid (∀ r, Good s.data.toList r → (Lib.cut l5 [41, 58]).2.1 = tailL r.pairs ∧ f6 = false ∧ n6 = ((r.serial.toNat : Nat) : Int)) := Lib.hid (fun r h => by
    obtain ⟨q1, q2, q3⟩ := P5.out r h
    have hp := HG.out r h
    rw [q1, cut4_ r] at k6 ⊢
    have := k6 _ q2 rfl (atoi_dec _ (by have := hp.ser; omega))
    exact ⟨rfl, this.2, this.1⟩)
  have L6 := (cut_le l5 [41, 58]).2
  generalize (Lib.cut l5 [41, 58]).2.1 = l6 at *
  clear b6 bF F6 C6 k6
  have hz6 : w.heap.size < w6.heap.size := F7.lt
  obtain ⟨h0, h1, i0, i1⟩ := T6
  cases f6
  · have C7 := Lib.hid (readPairs_any (bs l6) w6 (by rw [bs_size]; omega) (HE.out _ bG).e2)
    go_wp2_with fail
    refine C7.out.mono ?_
    rintro e w7 ⟨va, cap, ps, ok, rfl, hPA, ⟨hc1, hc2⟩, b7, hfrom, hall⟩
    have F8 := F7.below b7
    have bH := bG.trans (Beside.of_below b7)
    rw [bs_data] at hall
    rw [bs_size] at hc2
    have hn : ∀ g o, va = some ⟨g, o, none⟩ → g ≠ w.heap.size := fun g o hg => by have := hfrom g o hg; omega
    have P7 : Hid (∀ r, Good s.data.toList r → ok = true ∧ (⟨numT x2, wrap64 (wrap64 (n4 * 1000) + n5), n6, ps⟩ : RecP) = r) := Lib.hid (fun r h => by
      have hp := HG.out r h
      obtain ⟨a1, a2⟩ := hall r.pairs hp.prs (P6.out r h).1
      refine ⟨a1, ?_⟩
      have ht := hp.tim
      have hsr := hp.ser
      obtain ⟨t, tm, sr, qs⟩ := r
      dsimp only at ht hsr
      have e1 : numT x2 = t := by rw [(P2.out _ h).1]; exact (name_back hp.typ).1
      have e2 : n4 = ((tm.toNat / 1000 : Nat) : Int) := (P4.out _ h).2.2
      have e3 : n5 = ((tm.toNat % 1000 : Nat) : Int) := (P5.out _ h).2.2
      have e4 : n6 = (sr.toNat : Int) := (P6.out _ h).2.2
      have e5 : wrap64 (n4 * 1000) = n4 * 1000 := (wrap64_eq _).trans (wrap_id _ ⟨by omega, by omega⟩)
      have e6 : wrap64 (n4 * 1000 + n5) = tm := ((wrap64_eq _).trans (wrap_id _ ⟨by omega, by omega⟩)).trans (by omega)
      rw [e5, e6, e1, e4, show ps = qs from a2, Int.toNat_of_nonneg hsr.1])
    have hbW := Lib.hid (below_set4 (bH.below (by omega) (Nat.le_refl _)) (Nat.le_refl w.heap.size) (.int .i64 (numT x2)) (.int .i64 (wrap64 (wrap64 (n4 * 1000) + n5))) (.int .i64 n6) (.slice va ps.length cap))
    have hPW := Lib.hid (pairs_set4 hPA hn (.int .i64 (numT x2)) (.int .i64 (wrap64 (wrap64 (n4 * 1000) + n5))) (.int .i64 n6) (.slice va ps.length cap))
    have G8 := F8.all (.int .i64 (numT x2)) (.int .i64 (wrap64 (wrap64 (n4 * 1000) + n5))) (.int .i64 n6) (.slice va ps.length cap)
    have hfr : Hid (∀ g o, va = some ⟨g, o, none⟩ → w.heap.size ≤ g) := Lib.hid (fun g o hg => by have := hfrom g o hg; omega)
    obtain ⟨a0, a1, a2, a3, _, _, _, _⟩ := F8
    obtain ⟨d0, d1, d2, d3, _, _, _, _⟩ := G8
    clear bG bH F7 hPA hfrom hall hn C7 b7
    generalize numT x2 = tt at *
    go_wp2_with fail
    exact bodyPost_ret (v := .tuple #[.agg #[.int .i64 tt, .int .i64 (wrap64 (wrap64 (n4 * 1000) + n5)), .int .i64 n6, .slice va ps.length cap], .bool ok]) (by simp [results, Tryz.f29, go_sem, d0, d1, d2, d3]) rfl
      (FIN.out _ _ _ va _ cap ps ok _ rfl hPW.out hc1 (by rw [Lib.size_eq]; omega) hbW.out hfr.out P7.out)
  · have PF : Hid (∀ r, Good s.data.toList r → False) := Lib.hid (fun r h => by have := (P6.out r h).2.1; cases this)
    have hbW := Lib.hid (below_set4 (bG.below (by omega) (Nat.le_refl _)) (Nat.le_refl w.heap.size) (.int .i64 0) (.int .i64 0) (.int .i64 0) (.slice none 0 0))
    have G8 := F7.all (.int .i64 0) (.int .i64 0) (.int .i64 0) (.slice none 0 0)
    obtain ⟨a0, a1, a2, a3, _, _, _, _⟩ := F7
    obtain ⟨d0, d1, d2, d3, _, _, _, _⟩ := G8
    clear bG
    go_wp2_with fail
    exact bodyPost_ret (v := .tuple #[.agg #[.int .i64 0, .int .i64 0, .int .i64 0, .slice none 0 0], .bool false]) (by simp [results, Tryz.f29, go_sem, d0, d1, d2, d3]) rfl
      (FIN.out 0 0 0 none 0 0 [] false _ rfl (PairsAt.nil _ _) (Nat.le_refl _) (by simp) hbW.out (fun g o hg => by cases hg) (fun r h => (PF.out r h).elim))

theorem parR_int {r : RecP} {s : List UInt8} (h : parR s = some r) : ∀ p ∈ r.pairs, isInt p.num := by
  have key : ∀ (ws : List (List UInt8)) (ps : List PairP), ws.mapM parP = some ps → ∀ p ∈ ps, isInt p.num := by
    intro ws
    induction ws with
    | nil => intro ps h p hp; cases h; simp at hp
    | cons w ws ih =>
      intro ps h p hp
      rw [List.mapM_cons] at h
      cases h1 : parP w with
      | none => rw [h1] at h; cases h
      | some q =>
        rw [h1] at h
        cases h2 : ws.mapM parP with
        | none => rw [h2] at h; cases h
        | some qs =>
          rw [h2] at h
          cases h
          rcases List.mem_cons.1 hp with rfl | hp
          · exact parP_int h1
          · exact ih qs h2 p hp
  unfold parR at h
  split at h
  · cases h
  · split at h
    · cases h
    · split at h
      · cases h
      · rename_i r' hg
        split at h
        · cases h
          unfold guessR at hg
          split at hg
          · cases hg
          · rename_i ps hps
            cases hg
            exact key _ _ hps
        · cases h
theorem good_par {l : List UInt8} {r : RecP} : parR l = some r ↔ Good l r := ⟨fun h => ⟨parR_some h, parR_int h⟩, fun h => parR_fmtR h.1 h.2⟩
theorem good_len {l : List UInt8} {r : RecP} (h : Good l r) : l.length ≤ 31240 := by
  have hf := h.1
  unfold fmtR at hf
  split at hf
  · rename_i hc
    cases hf
    exact line_len hc h.2
  · cases hf
theorem par_none_of {l : List UInt8} (h : ∀ r, ¬ Good l r) : parR l = none := by
  cases hp : parR l with
  | none => rfl
  | some r => exact (h r (good_par.1 hp)).elim

/-- what Parse answers -/
def ParseR (s : ByteArray) (w : World) (e : Ending) (w' : World) : Prop :=
  ∃ (t tm sr : Int) (va : Option Addr) (cap : Nat) (ps : List PairP) (er : Int), e = .returned (.tuple #[.agg #[.int .i64 t, .int .i64 tm, .int .i64 sr, .slice va ps.length cap], .int .i64 er]) ∧
    PairsAt w' va ps ∧ (ps.length ≤ cap ∧ ps.length ≤ 100000) ∧ Below w.heap.size w w' ∧ ((er = 0 ∧ parR s.data.toList = some ⟨t, tm, sr, ps⟩) ∨ (er = 34 ∧ parR s.data.toList = none ∧ t = 0 ∧ tm = 0 ∧ sr = 0 ∧ ps = []))

theorem str_ne_beq (a b : ByteArray) : (a.toList == b.toList) = decide (a = b) := by
  rw [Bool.eq_iff_iff, beq_iff_eq, decide_eq_true_eq, ByteArray.toList_eq, ByteArray.toList_eq]
  exact ⟨fun h => ByteArray.ext (Array.toList_inj.1 h), fun h => by rw [h]⟩

set_option maxRecDepth 100000 in
set_option maxHeartbeats 8000000 in
theorem rdParse_any (s : ByteArray) (w : World) (hs : s.size ≤ 1000000) (hE : EnvP w) :
    Calls Tryz.prog 13 #[.string s] w (ParseR s w) := by
  have HE : Hid (∀ W, Below w.heap.size w W → EnvP W) := Lib.hid (fun W hb => hE.below hb)
  have FZ : Hid (∀ w', parR s.data.toList = none → Below w.heap.size w w' → ParseR s w (.returned (.tuple #[.agg #[.int .i64 0, .int .i64 0, .int .i64 0, .slice none 0 0], .int .i64 34])) w') :=
    Lib.hid (fun w' hp hb => ⟨0, 0, 0, none, 0, [], 34, rfl, PairsAt.nil _ _, ⟨Nat.le_refl _, by simp⟩, hb, .inr ⟨rfl, hp, rfl, rfl, rfl, rfl⟩⟩)
  have FO : Hid (∀ (t tm sr : Int) (va : Option Addr) (n cap : Nat) (ps : List PairP) (w' : World), n = ps.length → PairsAt w' va ps → ps.length ≤ cap → ps.length ≤ 100000 → Below w.heap.size w w' → Good s.data.toList ⟨t, tm, sr, ps⟩ → ParseR s w (.returned (.tuple #[.agg #[.int .i64 t, .int .i64 tm, .int .i64 sr, .slice va n cap], .int .i64 0])) w') :=
    Lib.hid (fun t tm sr va n cap ps w' h0 h1 h2 h3 h4 h5 => by subst h0; exact ⟨t, tm, sr, va, cap, ps, 0, rfl, h1, ⟨h2, h3⟩, h4, .inl ⟨rfl, good_par.2 h5⟩⟩)
  have F0 := Four.new w 29 (.int .i64 0) (.int .i64 0) (.int .i64 0) (.slice none 0 0)
  have bA := (Below.refl w.heap.size w).alloc (Nat.le_refl _) (.cells #[.int .i64 0, .int .i64 0, .int .i64 0, .slice none 0 0] 29)
  have hsl : s.size = s.data.toList.length := Lib.size_eq s
  by_cases hl : 31240 < s.size
  · have hn := Lib.hid (par_none_of (l := s.data.toList) (fun r h => by have := good_len h; omega))
    have hli : (31240 : Int) < (s.size : Int) := by omega
    have hbW := Lib.hid bA
    obtain ⟨d0, d1, d2, d3, _, _, _, _⟩ := F0
    clear bA hE hsl hl
    go_enter Tryz.func13, Tryz.ntmps13
    go_wp2_with fail
    exact bodyPost_ret (v := .tuple #[.agg #[.int .i64 0, .int .i64 0, .int .i64 0, .slice none 0 0], .int .i64 34]) (by simp [results, Tryz.f13, go_sem, d0, d1, d2, d3]) rfl (FZ.out _ hn.out hbW.out)
  · have hli : (s.size : Int) ≤ 31240 := by omega
    have C1 := Lib.hid (read_any s _ (by omega) (HE.out _ bA))
    clear hE hsl hl
    go_enter Tryz.func13, Tryz.ntmps13
    go_wp2_with fail
    refine C1.out.mono ?_
    rintro e w1 ⟨t, tm, sr, va, cap, ps, ok, rfl, hPA, ⟨hc1, hc2⟩, b1, hfrom, hall⟩
    have bB := bA.trans (b1.mono (by simp))
    have F1 := F0.below b1
    have HALL := Lib.hid hall
    have hfr : Hid (∀ g o, va = some ⟨g, o, none⟩ → w.heap.size + 1 ≤ g) := Lib.hid (fun g o hg => by have := hfrom g o hg; simp at this; omega)
    have hl1 : w.heap.size < w1.heap.size := F1.lt
    have Q1 := Four.new w1 29 (.int .i64 t) (.int .i64 tm) (.int .i64 sr) (.slice va ps.length cap)
    have bC := bB.alloc bB.size (.cells #[.int .i64 t, .int .i64 tm, .int .i64 sr, .slice va ps.length cap] 29)
    have F2 := F1.below ((Below.refl _ w1).alloc (Nat.le_refl _) (.cells #[.int .i64 t, .int .i64 tm, .int .i64 sr, .slice va ps.length cap] 29))
    have hPA2 := hPA.below ((Below.refl _ w1).alloc (Nat.le_refl _) (.cells #[.int .i64 t, .int .i64 tm, .int .i64 sr, .slice va ps.length cap] 29))
    clear hall hfrom b1 bA F0 C1
    cases ok
    · have hn := Lib.hid (par_none_of (l := s.data.toList) (fun r h => by have := (HALL.out r h).1; cases this))
      have hbW := Lib.hid ((below_set4 bB (Nat.le_refl w.heap.size) (.int .i64 0) (.int .i64 0) (.int .i64 0) (.slice none 0 0)).alloc (by have := bB.size; simp; omega) (.cells #[.int .i64 t, .int .i64 tm, .int .i64 sr, .slice va ps.length cap] 29))
      have G0 := (F1.all (.int .i64 0) (.int .i64 0) (.int .i64 0) (.slice none 0 0)).below ((Below.refl _ _).alloc (Nat.le_refl _) (.cells #[.int .i64 t, .int .i64 tm, .int .i64 sr, .slice va ps.length cap] 29))
      obtain ⟨a0, a1, a2, a3, e0, e1, e2, e3⟩ := F1
      obtain ⟨d0, d1, d2, d3, _, _, _, _⟩ := G0
      clear hPA hPA2 bB bC F2 Q1
      go_wp2_with fail
      exact bodyPost_ret (v := .tuple #[.agg #[.int .i64 0, .int .i64 0, .int .i64 0, .slice none 0 0], .int .i64 34]) (by simp [results, Tryz.f13, go_sem, d0, d1, d2, d3]) rfl (FZ.out _ hn.out hbW.out)
    · have C2 := Lib.hid (Format_any t tm sr va cap ps _ hPA2 (by omega) hc1 (HE.out _ bC).env)
      have hsl : ps.length ≤ 100000 := by omega
      have HF : Hid (ckR t tm sr ps = 0 → fR t tm sr ps = s → Good s.data.toList ⟨t, tm, sr, ps⟩) := Lib.hid (fun h1 h2 => by
        refine ⟨?_, fun p hp => (hPA.ok p hp).num⟩
        unfold fR at h2
        rw [if_pos h1] at h2
        rw [← h2, bs_data]
        unfold fmtR
        rw [if_pos (show checkR ⟨t, tm, sr, ps⟩ = 0 from h1)])
      have HB : Hid (∀ r, Good s.data.toList r → ckR t tm sr ps = 0 ∧ fR t tm sr ps = s) := Lib.hid (fun r h => by
        have he := (HALL.out r h).2
        subst he
        have hf := h.1
        unfold fmtR at hf
        split at hf
        · rename_i hc
          refine ⟨hc, ?_⟩
          unfold fR
          rw [if_pos (show ckR t tm sr ps = 0 from hc)]
          injection hf with hf
          rw [hf, bs_of]
        · cases hf)
      generalize fR t tm sr ps = X at *
      generalize ckR t tm sr ps = er at *
      have HP := Lib.hid hPA2
      obtain ⟨f0, f1, f2, f3, f4, f5, f6, f7⟩ := F2
      have hne := str_ne_beq X s
      have hl2 : w.heap.size < (w1.alloc (.cells #[.int .i64 t, .int .i64 tm, .int .i64 sr, .slice va ps.length cap] 29)).heap.size := by simp; omega
      clear F1 bB HALL
      go_wp2_with fail
      refine C2.out.mono ?_
      rintro e w2 ⟨rfl, b2⟩
      have bD := bC.trans (b2.mono (by simp; omega))
      have F3 : Four w2 w.heap.size (.int .i64 0) (.int .i64 0) (.int .i64 0) (.slice none 0 0) := Four.below ⟨f0, f1, f2, f3, f4, f5, f6, f7⟩ b2
      have Q2 := Q1.below b2
      have hPA3 := HP.out.below b2
      have hl3 : w.heap.size < w2.heap.size := F3.lt
      clear f0 f1 f2 f3 f4 f5 f6 f7 C2 hPA hPA2 b2 bC Q1
      by_cases hz : er = 0
      · subst hz
        by_cases hX : X = s
        · have hne' : (X.toList == s.toList) = true := by rw [hne, hX]; simp
          have hgood := Lib.hid (HF.out rfl hX)
          have hbW := Lib.hid (below_set4 bD (Nat.le_refl w.heap.size) (.int .i64 t) (.int .i64 tm) (.int .i64 sr) (.slice va ps.length cap))
          have hPW := Lib.hid (pairs_set4 hPA3 (fun g o hg => by have := hfr.out g o hg; omega : ∀ g o, va = some ⟨g, o, none⟩ → g ≠ w.heap.size) (.int .i64 t) (.int .i64 tm) (.int .i64 sr) (.slice va ps.length cap))
          have G0 := F3.all (.int .i64 t) (.int .i64 tm) (.int .i64 sr) (.slice va ps.length cap)
          obtain ⟨a0, a1, a2, a3, e0, e1, e2, e3⟩ := F3
          obtain ⟨q0, q1, q2, q3, _, _, _, _⟩ := Q2
          obtain ⟨d0, d1, d2, d3, _, _, _, _⟩ := G0
          clear hne HF HB hPA3 bD hX
          go_wp2_with fail
          exact bodyPost_ret (v := .tuple #[.agg #[.int .i64 t, .int .i64 tm, .int .i64 sr, .slice va ps.length cap], .int .i64 0]) (by simp [results, Tryz.f13, go_sem, d0, d1, d2, d3]) rfl (FO.out t tm sr va _ cap ps _ rfl hPW.out hc1 hsl hbW.out hgood.out)
        · have hne' : (X.toList == s.toList) = false := by rw [hne]; simp [hX]
          have hn := Lib.hid (par_none_of (l := s.data.toList) (fun r h => hX (HB.out r h).2))
          have hbW := Lib.hid (below_set4 bD (Nat.le_refl w.heap.size) (.int .i64 0) (.int .i64 0) (.int .i64 0) (.slice none 0 0))
          have G0 := F3.all (.int .i64 0) (.int .i64 0) (.int .i64 0) (.slice none 0 0)
          obtain ⟨a0, a1, a2, a3, e0, e1, e2, e3⟩ := F3
          obtain ⟨d0, d1, d2, d3, _, _, _, _⟩ := G0
          clear hne HF HB hPA3 bD hX Q2
          go_wp2_with fail
          exact bodyPost_ret (v := .tuple #[.agg #[.int .i64 0, .int .i64 0, .int .i64 0, .slice none 0 0], .int .i64 34]) (by simp [results, Tryz.f13, go_sem, d0, d1, d2, d3]) rfl (FZ.out _ hn.out hbW.out)
      · have hz' : (er != 0) = true := by simp [hz]
        have hn := Lib.hid (par_none_of (l := s.data.toList) (fun r h => hz (HB.out r h).1))
        have hbW := Lib.hid (below_set4 bD (Nat.le_refl w.heap.size) (.int .i64 0) (.int .i64 0) (.int .i64 0) (.slice none 0 0))
        have G0 := F3.all (.int .i64 0) (.int .i64 0) (.int .i64 0) (.slice none 0 0)
        obtain ⟨a0, a1, a2, a3, e0, e1, e2, e3⟩ := F3
        obtain ⟨d0, d1, d2, d3, _, _, _, _⟩ := G0
        clear hne HF HB hPA3 bD hz Q2
        go_wp2_with fail
        exact bodyPost_ret (v := .tuple #[.agg #[.int .i64 0, .int .i64 0, .int .i64 0, .slice none 0 0], .int .i64 34]) (by simp [results, Tryz.f13, go_sem, d0, d1, d2, d3]) rfl (FZ.out _ hn.out hbW.out)
end Go.Proofs.YtdndngabddnpmaaGreatDoor.rd
