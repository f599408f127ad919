/-
  FilesUnlinked: the walk.
-/
import Derived.Test.YtafnbpkdenjipaaFUd
import Derived.Test.YtafnbpkdenjipaaRows
import Derived.Test.YtafnbpkdenjipaaRow
namespace Go.Proofs.Ytafnbpkdenjipaa.fl
open Go.RowKit Go.Proofs.Ytafnbpkdenjipaa.cm Go.Proofs.Ytafnbpkdenjipaa.sr Go.Proofs.Ytafnbpkdenjipaa.pt

set_option linter.unusedSimpArgs false in
set_option maxRecDepth 100000 in
set_option maxHeartbeats 4000000 in
theorem filesUnlinked_any (n : Int) (hn0 : 0 ≤ n) (hn1 : n < 256) (a : Option Addr) (len cap : Nat) (w : World) (hr : Nums w a len) : Calls Try.prog 8 #[.int .u8 n, .slice a len cap] w fun e w' => e = .returned (.bool true) ∧ Below w.heap.size w w' := by
  obtain ⟨i0, hi, hz0, hz1, hz2⟩ := info_parts infoTx
  obtain ⟨F0, hF0⟩ : ∃ F0, F0 = (newP 1).1 := ⟨_, rfl⟩
  obtain ⟨F1, hF1⟩ : ∃ F1, F1 = firstF 0 := ⟨_, rfl⟩
  have HO0 : Hid (OKF F0) := Lib.hid (by rw [hF0]; exact new_ok rfl)
  have HM : Hid (makeF F0 ⟨0, 1⟩ ⟨#[97]⟩ ⟨0, 1, 0, 0, 0, 0, ⟨#[]⟩, []⟩ = ⟨F1, [⟨⟨0, 1⟩, ⟨#[97]⟩, zA, ⟨0, 2⟩⟩], 0⟩) := Lib.hid (by rw [hF0, hF1]; exact first_make 0 (.inr rfl))
  have HNS : Hid (∃ d p m, NamesS F1 d p m (upTo 0)) := Lib.hid (by rw [hF1]; exact ⟨_, _, _, first_names 0 (.inr rfl)⟩)
  have CN0 := New_any 1 w
  rw [show newP 1 = (F0, 0) by rw [hF0]; rfl] at CN0
  have CN := Lib.hid CN0
  clear CN0
  have HR := Lib.hid hr
  have CA := Lib.hid (fun W => awake_any W)
  clear hF0 hF1 hr
  go_enter Try.func8, Try.ntmps8
  go_wp2_with fail
  refine CN.out.mono ?_
  rintro e w1 ⟨v, rfl, ho1, hb1⟩
  dsimp only at ho1
  obtain ⟨fa, fc, rfl⟩ := outF_form ho1
  obtain ⟨u0, hu⟩ : ∃ u0, u0 = (w1.alloc (.cells #[.slice fa F0.length fc] 24)).alloc (.cells #[.int .i64 0, .int .i64 1] 36) := ⟨_, rfl⟩
  have hbx : Below w1.heap.size w1 u0 := by rw [hu]; exact ((Below.refl _ _).alloc (Nat.le_refl _) _).alloc (by rw [size_alloc]; omega) _
  have tD0 : TB 24 u0 w1.heap.size [.slice fa F0.length fc] := by rw [hu]; exact (TB.new1 w1 _ _ _ rfl).alloc _
  have tR0 : TB 36 u0 (w1.heap.size + 1) [.int .i64 0, .int .i64 1] := by rw [hu]; exact TB.new1 _ [.int .i64 0, .int .i64 1] _ _ (size_alloc _ _)
  have hb0 : Below w.heap.size w u0 := hb1.trans (hbx.mono hb1.size)
  have hwP : w.heap.size ≤ w1.heap.size := hb1.size
  obtain ⟨va, vc, hva, -, -, hF⟩ := (ho1.stay hbx).at_
  obtain ⟨rfl, -, rfl⟩ : fa = va ∧ F0.length = F0.length ∧ fc = vc := by injection hva with h1 h2 h3; exact ⟨h1, rfl, h3⟩
  have CM0 := Make_any fa fc F0 ⟨0, 1⟩ ⟨#[97]⟩ ⟨0, 1, 0, 0, 0, 0, ⟨#[]⟩, []⟩ none 0 0 u0 hF HO0.out
  rw [HM.out] at CM0
  have CM := Lib.hid CM0
  clear CM0
  have HU := Lib.hid hu
  clear CN hu ho1 hb1 hbx hva hF HM HO0
  go_upto_region 3 with fail
  rw [← HU.out]
  clear HU
  obtain ⟨x0, -⟩ := tD0.blk.c1
  obtain ⟨y0, y1, -⟩ := tR0.blk.c2
  go_wp2_with fail
  refine CM.out.mono ?_
  rintro e v1 ⟨fv1, cv1, rfl, ho1, hc1, hbv⟩
  dsimp only at ho1 hc1
  obtain ⟨ga1, gc1, rfl⟩ := outF_form ho1
  have tDv := tD0.stay hbv
  have tRv := tR0.stay hbv
  obtain ⟨u1, hu⟩ : ∃ u1, u1 = v1.setCell ⟨w1.heap.size, 0, none⟩ (.slice ga1 F1.length gc1) := ⟨_, rfl⟩
  have hb1 : Below w.heap.size w u1 := by rw [hu]; exact below_set (hb0.trans (hbv.mono hb0.size)) hwP 0 _
  have tD1 : TB 24 u1 w1.heap.size [.slice ga1 F1.length gc1] := by rw [hu]; exact tDv.set 0 _
  have tR1 : TB 36 u1 (w1.heap.size + 1) [.int .i64 0, .int .i64 1] := by rw [hu]; exact tRv.other (by omega) 0 _
  replace ho1 : OutF w.heap.size u1 (.slice ga1 F1.length gc1) F1 := by rw [hu]; exact (ho1.mono hb0.size).same (tDv.same (by decide) 0 _)
  replace hc1 : OwnC u0.heap.size u1 cv1 [⟨⟨0, 1⟩, ⟨#[97]⟩, zA, ⟨0, 2⟩⟩] := by rw [hu]; exact own_other hc1 (tDv.ne hc1 (by decide)) 0 _
  obtain ⟨gcc, ccc, rfl, c5, c6⟩ := own_chg1 hc1
  have HU := Lib.hid hu
  obtain ⟨s0, sf0⟩ := tDv.blk.c1
  clear hu CM hbv tDv tRv x0 y0 y1 tD0 tR0 hb0 hc1
  go_upto_region 4 with fail
  rw [← HU.out]
  clear HU s0 sf0
  obtain ⟨u2, hu⟩ : ∃ u2, u2 = (u1.alloc (.cells #[.int .i64 0, .int .i64 2] 36)).alloc (.cells #[.string ⟨#[98]⟩, .string ⟨#[99]⟩, .string ⟨#[100]⟩, .string ⟨#[101]⟩, .string ⟨#[102]⟩, .string ⟨#[103]⟩] 9) := ⟨_, rfl⟩
  have hbx : Below u1.heap.size u1 u2 := by rw [hu]; exact ((Below.refl _ _).alloc (Nat.le_refl _) _).alloc (by rw [size_alloc]; omega) _
  have tA2 : TB 36 u2 u1.heap.size [.int .i64 0, .int .i64 2] := by rw [hu]; exact (TB.new1 u1 [.int .i64 0, .int .i64 2] _ _ rfl).alloc _
  have tN2 : TB 9 u2 (u1.heap.size + 1) (nmL.map Value.string) := by rw [hu]; exact TB.new1 _ (nmL.map Value.string) _ _ (size_alloc _ _)
  have tD2 := tD1.stay hbx
  have tR2 := tR1.stay hbx
  have ho2 := ho1.stay hbx
  have hb2 := hb1.trans (hbx.mono hb1.size)
  have hPA : w1.heap.size + 1 < u1.heap.size := tR1.lt
  have HU := Lib.hid hu
  clear hu ho1 hbx tD1 tR1
  go_upto_region 8 with fail
  rw [← HU.out]
  clear HU c5 c6
  go_wp2_with fail
  obtain ⟨m, hm⟩ : ∃ m : Nat, m = (n % 6).toNat := ⟨_, rfl⟩
  have hm6 : m < 6 := by omega
  have hmn : n % 6 = (m : Int) := by omega
  clear hm
  go_loopw [12] (fun i wr => ∃ (q : Nat) (F : FilP) (ga : Option Addr) (gc : Nat), q ≤ m ∧ i = .int .i64 q ∧ Hid (∃ d p mm, NamesS F d p mm (upTo q)) ∧ OutF w.heap.size wr (.slice ga F.length gc) F ∧ TB 24 wr w1.heap.size [.slice ga F.length gc] ∧ TB 36 wr (w1.heap.size + 1) [.int .i64 0, .int .i64 1] ∧ TB 36 wr u1.heap.size [.int .i64 0, .int .i64 2] ∧ TB 9 wr (u1.heap.size + 1) (nmL.map Value.string) ∧ Below w.heap.size w wr) (fun i _ => m - (intOf i).toNat)
  case atStart => exact ⟨0, F1, ga1, gc1, Nat.zero_le _, rfl, HNS, ho2, tD2, tR2, tA2, tN2, hb2⟩
  case round =>
    obtain ⟨q, F, ga, gc, hq, rfl, HS, ho, tD, tR, tA, tN, hb⟩ := hrel
    clear ho2 tD2 tR2 tA2 tN2 hb2 HNS
    by_cases hlt : q < m
    · have hqm : (q : Int) < (m : Int) := by omega
      have hq6 : (q : Int) < 6 := by omega
      obtain ⟨s, hs, hnm, hni, hup, hul⟩ := upTo_next q (by omega)
      obtain ⟨d, p, mm, hNS⟩ := HS.out
      obtain ⟨G, d', p', m', hlink, hNS'⟩ := hNS.more hnm hni (by omega)
      rw [← hup] at hNS'
      have HS' : Hid (∃ d p mm, NamesS G d p mm (upTo (q + 1))) := Lib.hid ⟨_, _, _, hNS'⟩
      obtain ⟨va, vc, hva, -, -, hF⟩ := ho.at_
      obtain ⟨rfl, -, rfl⟩ : ga = va ∧ F.length = F.length ∧ gc = vc := by injection hva with h1 h2 h3; exact ⟨h1, rfl, h3⟩
      have CL0 := Link_any ga gc F ⟨0, 1⟩ s ⟨0, 2⟩ wr.drew (hF.below (Below.refl _ _).drew) hNS.ok
      rw [hlink] at CL0
      have CL := Lib.hid CL0
      obtain ⟨x0, -⟩ := tD.blk.c1
      obtain ⟨y0, y1, -⟩ := tR.blk.c2
      obtain ⟨z0, z1, -⟩ := tA.blk.c2
      have zs : wr.cell? ⟨u1.heap.size + 1, q, none⟩ = some (.string s) := by
        have h1 : (nmL.map Value.string)[q]? = some (.string s) := by rw [List.getElem?_map, hs]; rfl
        rw [cell_of_row wr _ q _ _ _ tN]
        simpa using h1
      have FIN : Hid (∀ (W : World) (ga2 : Option Addr) (gc2 : Nat), OutF wr.drew.heap.size W (.slice ga2 G.length gc2) G → Below wr.drew.heap.size wr.drew W → W.cell? ⟨w1.heap.size, 0, none⟩ = some (.slice ga F.length gc) ∧ W.frozen? ⟨w1.heap.size, 0, none⟩ = false ∧ Hid (OutF w.heap.size (W.setCell ⟨w1.heap.size, 0, none⟩ (.slice ga2 G.length gc2)) (.slice ga2 G.length gc2) G ∧ TB 24 (W.setCell ⟨w1.heap.size, 0, none⟩ (.slice ga2 G.length gc2)) w1.heap.size [.slice ga2 G.length gc2] ∧ TB 36 (W.setCell ⟨w1.heap.size, 0, none⟩ (.slice ga2 G.length gc2)) (w1.heap.size + 1) [.int .i64 0, .int .i64 1] ∧ TB 36 (W.setCell ⟨w1.heap.size, 0, none⟩ (.slice ga2 G.length gc2)) u1.heap.size [.int .i64 0, .int .i64 2] ∧ TB 9 (W.setCell ⟨w1.heap.size, 0, none⟩ (.slice ga2 G.length gc2)) (u1.heap.size + 1) (nmL.map Value.string) ∧ Below w.heap.size w (W.setCell ⟨w1.heap.size, 0, none⟩ (.slice ga2 G.length gc2)))) := Lib.hid (fun v2 ga2 gc2 ho2 hbv => by
        have hbv' : Below wr.heap.size wr v2 := (Below.refl wr.heap.size wr).drew.trans hbv
        have tDv := tD.stay hbv'
        have tRv := (tR.stay hbv').other (show w1.heap.size + 1 ≠ w1.heap.size by omega) 0 (.slice ga2 G.length gc2)
        have tAv := (tA.stay hbv').other (show u1.heap.size ≠ w1.heap.size by omega) 0 (.slice ga2 G.length gc2)
        have tNv := (tN.stay hbv').other (show u1.heap.size + 1 ≠ w1.heap.size by omega) 0 (.slice ga2 G.length gc2)
        have hbw := below_set (hb.trans (hbv'.mono hb.size)) hwP 0 (.slice ga2 G.length gc2)
        have how := (ho2.mono (show w.heap.size ≤ wr.heap.size from hb.size)).same (tDv.same (by decide) 0 (.slice ga2 G.length gc2))
        exact ⟨tDv.blk.c1.1, tDv.blk.c1.2, Lib.hid ⟨how, tDv.set 0 _, tRv, tAv, tNv, hbw⟩⟩)
      clear CL0 HS hs hnm hni hup hul hNS hNS' hlink hva hF tD tR tA tN hb ho
      go_wp2_with fail
      have K4 : wr.drew.cell? ⟨w1.heap.size + 1, 0, none⟩ = some (.int .i64 0) ∧ wr.drew.cell? ⟨w1.heap.size + 1, 1, none⟩ = some (.int .i64 1) ∧ wr.drew.cell? ⟨u1.heap.size, 0, none⟩ = some (.int .i64 0) ∧ wr.drew.cell? ⟨u1.heap.size, 1, none⟩ = some (.int .i64 2) ∧ wr.drew.cell? ⟨u1.heap.size + 1, q, none⟩ = some (.string s) := ⟨y0, y1, z0, z1, zs⟩
      have x0' : wr.drew.cell? ⟨w1.heap.size, 0, none⟩ = some (.slice ga F.length gc) := x0
      refine wp_region_held_drew (S := fun (W : World) => W.cell? ⟨w1.heap.size + 1, 0, none⟩ = some (.int .i64 0) ∧ W.cell? ⟨w1.heap.size + 1, 1, none⟩ = some (.int .i64 1) ∧ W.cell? ⟨u1.heap.size, 0, none⟩ = some (.int .i64 0) ∧ W.cell? ⟨u1.heap.size, 1, none⟩ = some (.int .i64 2) ∧ W.cell? ⟨u1.heap.size + 1, q, none⟩ = some (.string s)) (by kernel_rfl) K4 (fun hHeld => ?_)
      refine wpAnyH_take (i := 1) (v := ?_) rfl (by kernel_rfl) (by kernel_rfl) (by kernel_rfl) (fun _ _ _ h => h) (Or.inl ⟨by rfl, ?_⟩) (by assumption) ?_
      rotate_left
      · (intro w hSw; (try dsimp only at hSw); first | (go_simp; done) | (go_simp; with_reducible rfl))
      try simp only [Act.put, List.setIfInBounds_toArray, List.set_cons_zero, List.set_cons_succ]
      refine wpAnyH_take (i := 2) (v := ?_) rfl (by kernel_rfl) (by kernel_rfl) (by kernel_rfl) (fun _ _ _ h => h) (Or.inl ⟨by rfl, ?_⟩) (by assumption) ?_
      rotate_left
      · (intro w hSw; (try dsimp only at hSw); first | (go_simp; done) | (go_simp; with_reducible rfl))
      try simp only [Act.put, List.setIfInBounds_toArray, List.set_cons_zero, List.set_cons_succ]
      refine wpAnyH_take (i := 3) (v := ?_) rfl (by kernel_rfl) (by kernel_rfl) (by kernel_rfl) (fun _ _ _ h => h) (Or.inl ⟨by rfl, ?_⟩) (by assumption) ?_
      rotate_left
      · (intro w hSw; (try dsimp only at hSw); first | (go_simp; done) | (go_simp; with_reducible rfl))
      try simp only [Act.put, List.setIfInBounds_toArray, List.set_cons_zero, List.set_cons_succ]
      refine wpAnyH_take (i := 4) (v := ?_) rfl (by kernel_rfl) (by kernel_rfl) (by kernel_rfl) (fun _ _ _ h => h) (Or.inl ⟨by rfl, ?_⟩) (by assumption) ?_
      rotate_left
      · (intro w hSw; (try dsimp only at hSw); first | (go_simp; done) | (go_simp; with_reducible rfl))
      try simp only [Act.put, List.setIfInBounds_toArray, List.set_cons_zero, List.set_cons_succ]
      refine wpAnyH_take (i := 5) (v := ?_) rfl (by kernel_rfl) (by kernel_rfl) (by kernel_rfl) (fun _ _ _ h => h) (Or.inl ⟨by rfl, ?_⟩) (by assumption) ?_
      rotate_left
      · (intro w hSw; (try dsimp only at hSw); first | (go_simp; done) | (go_simp; with_reducible rfl))
      try simp only [Act.put, List.setIfInBounds_toArray, List.set_cons_zero, List.set_cons_succ]
      refine wpAnyH_take (i := 6) (v := ?_) rfl (by kernel_rfl) (by kernel_rfl) (by kernel_rfl) (fun _ _ _ h => h) (Or.inl ⟨by rfl, ?_⟩) (by assumption) ?_
      rotate_left
      · (intro w hSw; (try dsimp only at hSw); first | (go_simp; done) | (go_simp; with_reducible rfl))
      try simp only [Act.put, List.setIfInBounds_toArray, List.set_cons_zero, List.set_cons_succ]
      refine wpAnyH_ready (rs := [0]) (by kernel_rfl) (by simp) ?_
      refine AllReadyH.cons rfl (fun K hK => ?_) AllReadyH.nil
      go_simp
      refine hK.out _ _ K4 (fun _ => ?_)
      clear hK K
      refine wpAnyH_ready (rs := [7]) (by kernel_rfl) (by simp) ?_
      refine AllReadyH.cons rfl (fun K hK => ?_) AllReadyH.nil
      go_simp
      go_at_call 28
      refine (CL.out).mono ?_
      rintro e v2 ⟨fv2, cv2, rfl, ho2, hc2, hbv⟩
      dsimp only at ho2 hc2
      obtain ⟨ga2, gc2, rfl⟩ := outF_form ho2
      have K5 : v2.cell? ⟨w1.heap.size + 1, 0, none⟩ = some (.int .i64 0) ∧ v2.cell? ⟨w1.heap.size + 1, 1, none⟩ = some (.int .i64 1) ∧ v2.cell? ⟨u1.heap.size, 0, none⟩ = some (.int .i64 0) ∧ v2.cell? ⟨u1.heap.size, 1, none⟩ = some (.int .i64 2) ∧ v2.cell? ⟨u1.heap.size + 1, q, none⟩ = some (.string s) := ⟨cell_stays K4.1 hbv, cell_stays K4.2.1 hbv, cell_stays K4.2.2.1 hbv, cell_stays K4.2.2.2.1 hbv, cell_stays K4.2.2.2.2 hbv⟩
      have K6 : (v2.setCell ⟨w1.heap.size, 0, none⟩ (.slice ga2 G.length gc2)).cell? ⟨w1.heap.size + 1, 0, none⟩ = some (.int .i64 0) ∧ (v2.setCell ⟨w1.heap.size, 0, none⟩ (.slice ga2 G.length gc2)).cell? ⟨w1.heap.size + 1, 1, none⟩ = some (.int .i64 1) ∧ (v2.setCell ⟨w1.heap.size, 0, none⟩ (.slice ga2 G.length gc2)).cell? ⟨u1.heap.size, 0, none⟩ = some (.int .i64 0) ∧ (v2.setCell ⟨w1.heap.size, 0, none⟩ (.slice ga2 G.length gc2)).cell? ⟨u1.heap.size, 1, none⟩ = some (.int .i64 2) ∧ (v2.setCell ⟨w1.heap.size, 0, none⟩ (.slice ga2 G.length gc2)).cell? ⟨u1.heap.size + 1, q, none⟩ = some (.string s) := by
        have hc : ∀ q c, q ≠ w1.heap.size → (v2.setCell ⟨w1.heap.size, 0, none⟩ (.slice ga2 G.length gc2)).cell? ⟨q, c, none⟩ = v2.cell? ⟨q, c, none⟩ := fun q c hq => World.cell?_of_block (a := ⟨q, c, none⟩) (Below.heap_setCell v2 ⟨w1.heap.size, 0, none⟩ _ q hq)
        exact ⟨(hc _ 0 (by omega)).trans K5.1, (hc _ 1 (by omega)).trans K5.2.1, (hc _ 0 (by omega)).trans K5.2.2.1, (hc _ 1 (by omega)).trans K5.2.2.2.1, (hc _ q (by omega)).trans K5.2.2.2.2⟩
      obtain ⟨s0, sf0, HF⟩ := FIN.out v2 ga2 gc2 ho2 hbv
      clear ho2 hc2 hbv FIN CL
      go_wp2_with fail
      refine hK.out _ _ K5 (fun _ => ?_)
      clear hK K
      refine wpAnyH_take (i := 8) (v := ?_) rfl (by kernel_rfl) (by kernel_rfl) (by kernel_rfl) (fun _ _ _ h => h) (Or.inl ⟨by rfl, ?_⟩) (by assumption) ?_
      rotate_left
      · (intro w hSw; (try dsimp only at hSw); first | (go_simp; done) | (go_simp; with_reducible rfl))
      try simp only [Act.put, List.setIfInBounds_toArray, List.set_cons_zero, List.set_cons_succ]
      refine wpAnyH_take (i := 9) (v := ?_) rfl (by kernel_rfl) (by kernel_rfl) (by kernel_rfl) (fun _ _ _ h => h) (Or.inl ⟨by rfl, ?_⟩) (by assumption) ?_
      rotate_left
      · (intro w hSw; (try dsimp only at hSw); first | (go_simp; done) | (go_simp; with_reducible rfl))
      try simp only [Act.put, List.setIfInBounds_toArray, List.set_cons_zero, List.set_cons_succ]
      refine wpAnyH_take (i := 10) (v := ?_) rfl (by kernel_rfl) (by kernel_rfl) (by kernel_rfl) (fun _ _ _ h => h) (Or.inl ⟨by rfl, ?_⟩) (by assumption) ?_
      rotate_left
      · (intro w hSw; (try dsimp only at hSw); first | (go_simp; done) | (go_simp; with_reducible rfl))
      try simp only [Act.put, List.setIfInBounds_toArray, List.set_cons_zero, List.set_cons_succ]
      refine wpAnyH_take (i := 11) (v := ?_) rfl (by kernel_rfl) (by kernel_rfl) (by kernel_rfl) (fun _ _ _ h => h) (Or.inl ⟨by rfl, ?_⟩) (by assumption) ?_
      rotate_left
      · (intro w hSw; (try dsimp only at hSw); first | (go_simp; done) | (go_simp; with_reducible rfl))
      try simp only [Act.put, List.setIfInBounds_toArray, List.set_cons_zero, List.set_cons_succ]
      refine wpAnyH_ready (rs := [12]) (by kernel_rfl) (by simp) ?_
      refine AllReadyH.cons rfl (fun K hK => ?_) AllReadyH.nil
      go_simp
      refine hK.out _ _ K6 (fun _ => ?_)
      clear hK K
      refine wpAnyH_ready (rs := [13]) (by kernel_rfl) (by simp) ?_
      refine AllReadyH.cons rfl (fun K hK => ?_) AllReadyH.nil
      go_simp
      refine hK.out _ _ K6 (fun _ => ?_)
      clear hK K
      refine wpAnyH_done (by kernel_rfl) ?_ _
      go_simp
      clear K4 K5 K6 s0 sf0 x0 x0' y0 y1 z0 z1 zs
      go_wp2_with fail
      exact ⟨⟨q + 1, G, ga2, gc2, by omega, by go_num, HS', HF.out⟩, by simp [intOf]; omega⟩
    · have hqm : ¬ (q : Int) < (m : Int) := by omega
      obtain rfl : q = m := by omega
      have CS := Lib.hid (new_any a len cap wr)
      obtain ⟨u3, hu⟩ : ∃ u3, u3 = wr.alloc (.cells #[.slice a len cap, .int .i64 0] 74) := ⟨_, rfl⟩
      have hs3 : SrcAt w u3 wr.heap.size a len cap 0 := by rw [hu]; exact ⟨HR.out, hb.alloc hb.size _, hb.size, by
        show (wr.heap.push (.cells #[.slice a len cap, .int .i64 0] 74))[wr.heap.size]? = _
        simp, by omega⟩
      have hbx : Below wr.heap.size wr u3 := by rw [hu]; exact (Below.refl _ _).alloc (Nat.le_refl _) _
      have hz3 : u3.heap.size = wr.heap.size + 1 := by rw [hu, size_alloc]
      have tD3 := tD.stay hbx
      have tR3 := tR.stay hbx
      have tA3 := tA.stay hbx
      have tN3 := tN.stay hbx
      have ho3 := ho.stay hbx
      have hb3 := hb.trans (hbx.mono hb.size)
      have hDb : w1.heap.size ≠ wr.heap.size := by have := tD.lt; omega
      have hRb : w1.heap.size + 1 ≠ wr.heap.size := by have := tR.lt; omega
      have hAb : u1.heap.size ≠ wr.heap.size := by have := tA.lt; omega
      have HW3 := Lib.hid hu
      clear hu hbx hlt hq tD tR tA tN ho hb
      go_wp2_with fail
      refine CS.out.mono ?_
      rintro e u3' ⟨rfl, hu3⟩
      obtain rfl : u3' = u3 := hu3.trans HW3.out.symm
      clear hu3 HW3 CS
      rename World => u3
      obtain ⟨u4w, hu4⟩ : ∃ u4w, u4w = u3.alloc (.cells #[.string ⟨#[97]⟩] 9) := ⟨_, rfl⟩
      have hbx : Below u3.heap.size u3 u4w := by rw [hu4]; exact (Below.refl _ _).alloc (Nat.le_refl _) _
      have HOWN : Hid (u4w.ownsRow w.heap.size 9 1 (.slice (some ⟨u3.heap.size, 0, none⟩) 1 1) 1 ([⟨#[97]⟩].map Value.string)) := Lib.hid (by
        rw [hu4]
        exact ⟨rfl, .inr ⟨u3.heap.size, 1, #[.string ⟨#[97]⟩], rfl, hb3.size, TB.new1 u3 [.string ⟨#[97]⟩] _ _ rfl, Nat.le_refl _, by unfold maxLen; omega, rfl, rfl⟩⟩)
      have HNEWS : Hid (∀ j u, ((nmL.take q).map Value.string)[j]? = some u → u4w.cell? ((⟨u1.heap.size + 1, 0, none⟩ : Addr).add j) = some u) := Lib.hid (fun j u h => World.news_of_block (tN3.stay hbx) j u (by
        rw [List.map_take, List.getElem?_take] at h
        split at h
        · exact h
        · cases h))
      have HLEN : Hid (((nmL.take q).map Value.string).length = q * 1) := Lib.hid (by rw [List.length_map, List.length_take]; simp [nmL]; omega)
      have HB63 : Hid (1 + q ≤ maxLen) := Lib.hid (by unfold maxLen; omega)
      have HBYT : Hid ((1 + q) * 16 ≤ 140737488355328) := Lib.hid (by omega)
      have HBAS : Hid (w.heap.size ≤ u4w.heap.size) := Lib.hid (by have := hb3.size; have := hbx.size; omega)
      have HAFT : Hid (∀ v' w', w'.ownsRow w.heap.size 9 1 v' (1 + q) (Value.string ⟨#[97]⟩ :: List.take q (List.map Value.string nmL)) → u4w.grownBy w' (Value.slice (some ⟨u3.heap.size, 0, none⟩) 1 1).ownBlock → OwnS w.heap.size w' v' (upTo q) ∧ OutF w.heap.size w' (.slice ga F.length gc) F ∧ TB 24 w' w1.heap.size [.slice ga F.length gc] ∧ TB 36 w' (w1.heap.size + 1) [.int .i64 0, .int .i64 1] ∧ TB 36 w' u1.heap.size [.int .i64 0, .int .i64 2] ∧ SrcAt w w' wr.heap.size a len cap 0) := Lib.hid (fun v' w' ho hg => by
        rw [← List.map_take] at ho
        have hbw : Below u3.heap.size u3 w' := hbx.grown hg hbx.size (fun k hk => by simp [Value.ownBlock] at hk; omega)
        exact ⟨OwnS.cat (xs := [⟨#[97]⟩]) ho rfl (by rw [List.length_take]; simp [nmL]; omega), ho3.stay hbw, tD3.stay hbw, tR3.stay hbw, tA3.stay hbw, hs3.later hbw⟩)
      have HU4 := Lib.hid hu4
      clear hu4 hbx hz3 tD3 tR3 tA3 tN3 ho3 hb3 hs3
      go_wp2_with (first
        | (at_builtin; rw [← HU4.out]; refine wpList_append_own_at _ rfl _ _ 40 rfl w.heap.size 9 i0 (.string ⟨#[]⟩) 1 16 Try.underlying40 hi hz0 hz1 hz2 rfl (by decide) (.slice (some ⟨u3.heap.size, 0, none⟩) 1 1) 1 ([⟨#[97]⟩].map Value.string) rfl HOWN.out ⟨u1.heap.size + 1, 0, none⟩ q 6 ((nmL.take q).map Value.string) rfl HLEN.out HNEWS.out (texts_one _) HB63.out HBYT.out HBAS.out ?_)
        | fail)
      intro v4 w4 hown4 hgrow4 _ _
      obtain ⟨ho4, hf4, tD4, tR4, tA4, hs4⟩ := HAFT.out v4 w4 hown4 hgrow4
      clear HAFT HOWN HNEWS HLEN HB63 HBYT HBAS HU4 hown4 hgrow4
      obtain ⟨hnd, hnms, hlen4⟩ := upTo_all q hm6
      have HL0 : Hid ((upTo q).Nodup ∧ ∀ s ∈ upTo q, nm s = true) := Lib.hid ⟨hnd, hnms⟩
      have HS0 : Hid (LeftS F (upTo q)) := Lib.hid (.inl ⟨by unfold upTo; simp, HS.out⟩)
      have HK0 : Hid (OKF F) := Lib.hid (by obtain ⟨_, _, _, h⟩ := HS.out; exact h.ok)
      clear hnd hnms HS
      go_wp2_with fail
      obtain ⟨ws, rfl⟩ : ∃ ws, ws = wr := ⟨_, rfl⟩
      go_loopw [13, 15] (fun lf ov wr => ∃ (L : List ByteArray) (F : FilP) (ga : Option Addr) (gc k' : Nat), lf = .int .i64 (L.length : Int) ∧ L.length ≤ 6 ∧ k' + L.length ≤ 6 ∧ OwnS w.heap.size wr ov L ∧ Hid (L.Nodup ∧ ∀ s ∈ L, nm s = true) ∧ Hid (LeftS F L) ∧ Hid (OKF F) ∧ OutF w.heap.size wr (.slice ga F.length gc) F ∧ TB 24 wr w1.heap.size [.slice ga F.length gc] ∧ TB 36 wr (w1.heap.size + 1) [.int .i64 0, .int .i64 1] ∧ TB 36 wr u1.heap.size [.int .i64 0, .int .i64 2] ∧ SrcAt w wr ws.heap.size a len cap k') (fun lf _ _ => (intOf lf).toNat)
      case atStart => exact ⟨upTo q, F, ga, gc, 0, by rw [hlen4]; go_num, by omega, by omega, ho4, HL0, HS0, HK0, hf4, tD4, tR4, tA4, hs4⟩
      case round =>
        obtain ⟨L, F, ga, gc, k', rfl, hL6, hk6, hown, HL, HSL, HOK, ho, tD, tR, tA, hs⟩ := hrel
        clear ho4 hf4 tD4 tR4 tA4 hs4 HL0 HS0 HK0
        obtain ⟨va, vc, hva, -, -, hF⟩ := ho.at_
        obtain ⟨rfl, -, rfl⟩ : ga = va ∧ F.length = F.length ∧ gc = vc := by injection hva with h1 h2 h3; exact ⟨h1, rfl, h3⟩
        clear hva
        by_cases hne : L = []
        · subst hne
          obtain ⟨hnode, hlinks⟩ : nodeF F ⟨0, 2⟩ = none ∧ linksF F ⟨0, 2⟩ = 0 := by
            rcases HSL.out with h | h
            · exact absurd rfl h.1
            · exact h.2
          obtain ⟨oa, oc, rfl, -⟩ := own_slice hown
          have CQ0 := Node_any ga gc F ⟨0, 2⟩ wr hF HOK.out.sml
          rw [hnode] at CQ0
          have CQ := Lib.hid CQ0
          have HFS := Lib.hid (fun W (hb : Below wr.heap.size wr W) => hF.below hb)
          have HSO := Lib.hid hs.old
          obtain ⟨x0, -⟩ := tD.blk.c1
          obtain ⟨z0, z1, -⟩ := tA.blk.c2
          clear CQ0 hF hnode HSL HL hown ho tR hs
          go_wp2_with fail
          refine CQ.out.mono ?_
          rintro e w5 ⟨vv, he, hov, hb5⟩
          obtain ⟨ea, el, ec, rfl⟩ : ∃ ea el ec, vv = .slice ea el ec := by obtain ⟨a', c', h', -⟩ := own_slice hov; exact ⟨_, _, _, h'⟩
          clear hov
          obtain rfl : e = .returned (.tuple #[.agg #[.int .i64 0, .int .i64 0, .int .i64 0, .int .i64 0, .int .i64 0, .int .i64 0, .string ⟨#[]⟩, .slice ea el ec], .bool false]) := he
          obtain ⟨u5, hu⟩ : ∃ u5, u5 = w5.alloc (.cells #[.int .i64 0, .int .i64 0, .int .i64 0, .int .i64 0, .int .i64 0, .int .i64 0, .string ⟨#[]⟩, .slice ea el ec] 43) := ⟨_, rfl⟩
          have hb : Below wr.heap.size wr u5 := by rw [hu]; exact hb5.alloc hb5.size _
          have HU := Lib.hid hu
          have CL0 := Links_any ga gc F ⟨0, 2⟩ u5 (HFS.out u5 hb) HOK.out.sml
          rw [hlinks] at CL0
          have CL := Lib.hid CL0
          have tDu := tD.stay hb
          have tAu := tA.stay hb
          clear CL0 hu hb5 CQ hlinks x0 z0 z1 tD tA HFS
          go_upto_region 28 with fail
          rw [← HU.out]
          clear HU
          obtain ⟨x0, -⟩ := tDu.blk.c1
          obtain ⟨z0, z1, -⟩ := tAu.blk.c2
          go_wp2_with fail
          refine CL.out.mono ?_
          rintro e w6 ⟨rfl, hb6⟩
          have CA2 := Lib.hid (CA.out w6)
          have hb' := (HSO.out.trans (hb.mono HSO.out.size))
          have hbf := hb'.trans (hb6.mono hb'.size)
          clear CL CA hb6 hb' hb x0 z0 z1 tDu tAu
          go_wp2_with fail
          refine CA2.out.mono ?_
          rintro e w7 ⟨rfl, hb7⟩
          have hbf := hbf.trans (hb7.mono hbf.size)
          clear hb7 CA2
          go_wp2_with fail
          go_ret
          exact ⟨rfl, hbf⟩
        · have hln : 0 < L.length := List.length_pos_iff.2 hne
          obtain ⟨d, p, mm, hNS⟩ : ∃ d p mm, NamesS F d p mm L := by
            rcases HSL.out with h | h
            · exact h.2
            · exact absurd h.1 hne
          obtain ⟨g, oc, rfl, hoc, hgB, hgl, hcells⟩ := hown.form hne
          have CN := Lib.hid (n_b w wr ws.heap.size a len cap k' L.length hs (by omega) (by omega) (by omega))
          have hgt : (L.length : Int) > 0 := by omega
          have HF0 := Lib.hid hF
          have HNS := Lib.hid hNS
          have HCE := Lib.hid hcells
          clear hF hNS HSL hcells
          go_wp2_with fail
          refine CN.out.mono ?_
          rintro e w5 ⟨k, hk, rfl, hs5, hb5⟩
          have tD5 := tD.beside hDb hb5
          have tR5 := tR.beside hRb hb5
          have tA5 := tA.beside hAb hb5
          have ho5 := ho.beside hs hb5
          have hown5 := hown.beside hs hb5
          clear CN tD tR tA ho hown hb5 hs HF0 HCE
          obtain ⟨va, vc, hva, -, -, hF⟩ := ho5.at_
          obtain ⟨rfl, -, rfl⟩ : ga = va ∧ F.length = F.length ∧ gc = vc := by injection hva with h1 h2 h3; exact ⟨h1, rfl, h3⟩
          have CQ0 := Node_any ga gc F ⟨0, 2⟩ w5 hF HOK.out.sml
          rw [HNS.out.node] at CQ0
          have CQ := Lib.hid CQ0
          have HFS := Lib.hid (fun W (hb : Below w5.heap.size w5 W) => hF.below hb)
          obtain ⟨x0, -⟩ := tD5.blk.c1
          obtain ⟨z0, z1, -⟩ := tA5.blk.c2
          clear CQ0 hva hF
          go_wp2_with fail
          refine CQ.out.mono ?_
          rintro e w6 ⟨vv, he, hov, hb6⟩
          obtain ⟨ea, el, ec, rfl⟩ : ∃ ea el ec, vv = .slice ea el ec := by obtain ⟨a', c', h', -⟩ := own_slice hov; exact ⟨_, _, _, h'⟩
          clear hov
          obtain rfl : e = .returned (.tuple #[.agg #[.int .i64 mm.ino, .int .i64 mm.kind, .int .i64 mm.mode, .int .i64 mm.uid, .int .i64 mm.gid, .int .i64 mm.parent, .string mm.target, .slice ea el ec], .bool true]) := he
          obtain ⟨u6, hu⟩ : ∃ u6, u6 = w6.alloc (.cells #[.int .i64 mm.ino, .int .i64 mm.kind, .int .i64 mm.mode, .int .i64 mm.uid, .int .i64 mm.gid, .int .i64 mm.parent, .string mm.target, .slice ea el ec] 43) := ⟨_, rfl⟩
          have hb : Below w5.heap.size w5 u6 := by rw [hu]; exact hb6.alloc hb6.size _
          have HU := Lib.hid hu
          have CL0 := Links_any ga gc F ⟨0, 2⟩ u6 (HFS.out u6 hb) HOK.out.sml
          rw [HNS.out.count] at CL0
          have CL := Lib.hid CL0
          have tD6 := tD5.stay hb
          have tR6 := tR5.stay hb
          have tA6 := tA5.stay hb
          have ho6 := ho5.stay hb
          have hown6 := hown5.stay hb
          have hs6 := hs5.later hb
          clear CL0 hu hb6 CQ x0 z0 z1 tD5 tR5 tA5 ho5 hown5 hs5 hb HFS
          go_upto_region 20 with fail
          rw [← HU.out]
          clear HU
          obtain ⟨x0, -⟩ := tD6.blk.c1
          obtain ⟨z0, z1, -⟩ := tA6.blk.c2
          go_wp2_with fail
          refine CL.out.mono ?_
          rintro e u7 ⟨rfl, hb⟩
          have tD := tD6.stay hb
          have tR := tR6.stay hb
          have tA := tA6.stay hb
          have ho := ho6.stay hb
          have hown := hown6.stay hb
          have hs := hs6.later hb
          clear CL x0 z0 z1 tD6 tR6 tA6 ho6 hown6 hs6 hb
          obtain ⟨va, vc, hva, -, -, hF⟩ := ho.at_
          obtain ⟨rfl, -, rfl⟩ : ga = va ∧ F.length = F.length ∧ gc = vc := by injection hva with h1 h2 h3; exact ⟨h1, rfl, h3⟩
          obtain ⟨s, hLk, hsL, hnd, hTl, hmem⟩ := less_list hk HL.out.1
          obtain ⟨T, hT⟩ : ∃ T, T = L.take k ++ L.drop (k + 1) := ⟨_, rfl⟩
          rw [← hT] at hnd hTl hmem
          obtain ⟨G, hun, hleft⟩ := HNS.out.less (HL.out.2 s hsL) hsL hmem hTl
          have HL' : Hid (T.Nodup ∧ ∀ s ∈ T, nm s = true) := Lib.hid ⟨hnd, fun t ht => HL.out.2 t ((hmem t).1 ht).1⟩
          have HSL' : Hid (LeftS G T) := Lib.hid hleft
          have HOK' : Hid (OKF G) := Lib.hid (by have := (HNS.out.ok.unlink ⟨0, 1⟩ s (by rw [hun])).2; rw [hun] at this; exact this)
          have CL0 := Unlink_any ga gc F ⟨0, 1⟩ s u7.drew (hF.below (Below.refl _ _).drew) HNS.out.ok
          rw [hun] at CL0
          have CL := Lib.hid CL0
          obtain ⟨x0, -⟩ := tD.blk.c1
          obtain ⟨y0, y1, -⟩ := tR.blk.c2
          have hgl : g < u7.heap.size := (own_lt hown rfl).2
          have zs : u7.cell? ⟨g, k, none⟩ = some (.string s) := by
            rw [own_cell hown rfl (by omega), List.getElem?_map, hLk]; rfl
          have hgP : g ≠ w1.heap.size := fun e => hown.ne_tb tD (by decide) (by rw [← e]; rfl)
          have HTL := Lib.hid hTl
          have HT := Lib.hid hT
          have hkk : (k : Int) < (L.length : Int) := by omega
          have FIN : Hid (∀ (W : World) (ga2 : Option Addr) (gc2 : Nat), OutF u7.drew.heap.size W (.slice ga2 G.length gc2) G → Below u7.drew.heap.size u7.drew W → W.cell? ⟨w1.heap.size, 0, none⟩ = some (.slice ga F.length gc) ∧ W.frozen? ⟨w1.heap.size, 0, none⟩ = false ∧ Hid (OutF w.heap.size (W.setCell ⟨w1.heap.size, 0, none⟩ (.slice ga2 G.length gc2)) (.slice ga2 G.length gc2) G ∧ TB 24 (W.setCell ⟨w1.heap.size, 0, none⟩ (.slice ga2 G.length gc2)) w1.heap.size [.slice ga2 G.length gc2] ∧ TB 36 (W.setCell ⟨w1.heap.size, 0, none⟩ (.slice ga2 G.length gc2)) (w1.heap.size + 1) [.int .i64 0, .int .i64 1] ∧ TB 36 (W.setCell ⟨w1.heap.size, 0, none⟩ (.slice ga2 G.length gc2)) u1.heap.size [.int .i64 0, .int .i64 2] ∧ OwnS w.heap.size (W.setCell ⟨w1.heap.size, 0, none⟩ (.slice ga2 G.length gc2)) (.slice (some ⟨g, 0, none⟩) L.length oc) L ∧ SrcAt w (W.setCell ⟨w1.heap.size, 0, none⟩ (.slice ga2 G.length gc2)) ws.heap.size a len cap (k' + 1))) := Lib.hid (fun v2 ga2 gc2 ho2 hbv => by
            have hbv' : Below u7.heap.size u7 v2 := (Below.refl u7.heap.size u7).drew.trans hbv
            have tDv := tD.stay hbv'
            have tRv := (tR.stay hbv').other (show w1.heap.size + 1 ≠ w1.heap.size by omega) 0 (.slice ga2 G.length gc2)
            have tAv := (tA.stay hbv').other (show u1.heap.size ≠ w1.heap.size by omega) 0 (.slice ga2 G.length gc2)
            have how := (ho2.mono (show w.heap.size ≤ u7.heap.size from hs.old.size)).same (tDv.same (by decide) 0 (.slice ga2 G.length gc2))
            exact ⟨tDv.blk.c1.1, tDv.blk.c1.2, Lib.hid ⟨how, tDv.set 0 _, tRv, tAv, (hown.stay hbv').set tDv (by decide) 0 _, (hs.later hbv').setNew hwP hDb 0 _⟩⟩)
          have K4 : u7.drew.cell? ⟨w1.heap.size + 1, 0, none⟩ = some (.int .i64 0) ∧ u7.drew.cell? ⟨w1.heap.size + 1, 1, none⟩ = some (.int .i64 1) ∧ u7.drew.cell? ⟨g, k, none⟩ = some (.string s) := ⟨y0, y1, zs⟩
          have x0' : u7.drew.cell? ⟨w1.heap.size, 0, none⟩ = some (.slice ga F.length gc) := x0
          clear CL0 hva hF hLk hsL hnd hTl hmem hT hun hleft HL HNS HOK tD tR tA ho hown hs
          go_upto_region 22 with fail
          refine wp_region_held_drew (S := fun (W : World) => W.cell? ⟨w1.heap.size + 1, 0, none⟩ = some (.int .i64 0) ∧ W.cell? ⟨w1.heap.size + 1, 1, none⟩ = some (.int .i64 1) ∧ W.cell? ⟨g, k, none⟩ = some (.string s)) (by kernel_rfl) K4 (fun hHeld => ?_)
          refine wpAnyH_take (i := 1) (v := ?_) rfl (by kernel_rfl) (by kernel_rfl) (by kernel_rfl) (fun _ _ _ h => h) (Or.inl ⟨by rfl, ?_⟩) (by assumption) ?_
          rotate_left
          · (intro w hSw; (try dsimp only at hSw); first | (go_simp; done) | (go_simp; with_reducible rfl))
          try simp only [Act.put, List.setIfInBounds_toArray, List.set_cons_zero, List.set_cons_succ]
          refine wpAnyH_take (i := 2) (v := ?_) rfl (by kernel_rfl) (by kernel_rfl) (by kernel_rfl) (fun _ _ _ h => h) (Or.inl ⟨by rfl, ?_⟩) (by assumption) ?_
          rotate_left
          · (intro w hSw; (try dsimp only at hSw); first | (go_simp; done) | (go_simp; with_reducible rfl))
          try simp only [Act.put, List.setIfInBounds_toArray, List.set_cons_zero, List.set_cons_succ]
          refine wpAnyH_take (i := 3) (v := ?_) rfl (by kernel_rfl) (by kernel_rfl) (by kernel_rfl) (fun _ _ _ h => h) (Or.inl ⟨by rfl, ?_⟩) (by assumption) ?_
          rotate_left
          · (intro w hSw; (try dsimp only at hSw); first | (go_simp; done) | (go_simp; with_reducible rfl))
          try simp only [Act.put, List.setIfInBounds_toArray, List.set_cons_zero, List.set_cons_succ]
          refine wpAnyH_take (i := 4) (v := ?_) rfl (by kernel_rfl) (by kernel_rfl) (by kernel_rfl) (fun _ _ _ h => h) (Or.inl ⟨by rfl, ?_⟩) (by assumption) ?_
          rotate_left
          · (intro w hSw; (try dsimp only at hSw); first | (go_simp; done) | (go_simp; with_reducible rfl))
          try simp only [Act.put, List.setIfInBounds_toArray, List.set_cons_zero, List.set_cons_succ]
          refine wpAnyH_take (i := 5) (v := ?_) rfl (by kernel_rfl) (by kernel_rfl) (by kernel_rfl) (fun _ _ _ h => h) (Or.inl ⟨by rfl, ?_⟩) (by assumption) ?_
          rotate_left
          · (intro w hSw; (try dsimp only at hSw); first | (go_simp; done) | (go_simp; with_reducible rfl))
          try simp only [Act.put, List.setIfInBounds_toArray, List.set_cons_zero, List.set_cons_succ]
          refine wpAnyH_ready (rs := [0]) (by kernel_rfl) (by simp) ?_
          refine AllReadyH.cons rfl (fun K hK => ?_) AllReadyH.nil
          go_simp
          refine hK.out _ _ K4 (fun _ => ?_)
          clear hK K
          refine wpAnyH_ready (rs := [6]) (by kernel_rfl) (by simp) ?_
          refine AllReadyH.cons rfl (fun K hK => ?_) AllReadyH.nil
          go_simp
          go_at_call 34
          refine (CL.out).mono ?_
          rintro e v2 ⟨fv2, cv2, rfl, ho2, hc2, hbv⟩
          dsimp only at ho2 hc2
          obtain ⟨ga2, gc2, rfl⟩ := outF_form ho2
          have K5 : v2.cell? ⟨w1.heap.size + 1, 0, none⟩ = some (.int .i64 0) ∧ v2.cell? ⟨w1.heap.size + 1, 1, none⟩ = some (.int .i64 1) ∧ v2.cell? ⟨g, k, none⟩ = some (.string s) := ⟨cell_stays K4.1 hbv, cell_stays K4.2.1 hbv, cell_stays K4.2.2 hbv⟩
          have K6 : (v2.setCell ⟨w1.heap.size, 0, none⟩ (.slice ga2 G.length gc2)).cell? ⟨w1.heap.size + 1, 0, none⟩ = some (.int .i64 0) ∧ (v2.setCell ⟨w1.heap.size, 0, none⟩ (.slice ga2 G.length gc2)).cell? ⟨w1.heap.size + 1, 1, none⟩ = some (.int .i64 1) ∧ (v2.setCell ⟨w1.heap.size, 0, none⟩ (.slice ga2 G.length gc2)).cell? ⟨g, k, none⟩ = some (.string s) := by
            have hc : ∀ q c, q ≠ w1.heap.size → (v2.setCell ⟨w1.heap.size, 0, none⟩ (.slice ga2 G.length gc2)).cell? ⟨q, c, none⟩ = v2.cell? ⟨q, c, none⟩ := fun q c hq => World.cell?_of_block (a := ⟨q, c, none⟩) (Below.heap_setCell v2 ⟨w1.heap.size, 0, none⟩ _ q hq)
            exact ⟨(hc _ 0 (by omega)).trans K5.1, (hc _ 1 (by omega)).trans K5.2.1, (hc _ k hgP).trans K5.2.2⟩
          obtain ⟨s0, sf0, HF⟩ := FIN.out v2 ga2 gc2 ho2 hbv
          clear ho2 hc2 hbv FIN CL
          go_wp2_with fail
          refine hK.out _ _ K5 (fun _ => ?_)
          clear hK K
          refine wpAnyH_take (i := 7) (v := ?_) rfl (by kernel_rfl) (by kernel_rfl) (by kernel_rfl) (fun _ _ _ h => h) (Or.inl ⟨by rfl, ?_⟩) (by assumption) ?_
          rotate_left
          · (intro w hSw; (try dsimp only at hSw); first | (go_simp; done) | (go_simp; with_reducible rfl))
          try simp only [Act.put, List.setIfInBounds_toArray, List.set_cons_zero, List.set_cons_succ]
          refine wpAnyH_take (i := 8) (v := ?_) rfl (by kernel_rfl) (by kernel_rfl) (by kernel_rfl) (fun _ _ _ h => h) (Or.inl ⟨by rfl, ?_⟩) (by assumption) ?_
          rotate_left
          · (intro w hSw; (try dsimp only at hSw); first | (go_simp; done) | (go_simp; with_reducible rfl))
          try simp only [Act.put, List.setIfInBounds_toArray, List.set_cons_zero, List.set_cons_succ]
          refine wpAnyH_take (i := 9) (v := ?_) rfl (by kernel_rfl) (by kernel_rfl) (by kernel_rfl) (fun _ _ _ h => h) (Or.inl ⟨by rfl, ?_⟩) (by assumption) ?_
          rotate_left
          · (intro w hSw; (try dsimp only at hSw); first | (go_simp; done) | (go_simp; with_reducible rfl))
          try simp only [Act.put, List.setIfInBounds_toArray, List.set_cons_zero, List.set_cons_succ]
          refine wpAnyH_take (i := 10) (v := ?_) rfl (by kernel_rfl) (by kernel_rfl) (by kernel_rfl) (fun _ _ _ h => h) (Or.inl ⟨by rfl, ?_⟩) (by assumption) ?_
          rotate_left
          · (intro w hSw; (try dsimp only at hSw); first | (go_simp; done) | (go_simp; with_reducible rfl))
          try simp only [Act.put, List.setIfInBounds_toArray, List.set_cons_zero, List.set_cons_succ]
          refine wpAnyH_ready (rs := [11]) (by kernel_rfl) (by simp) ?_
          refine AllReadyH.cons rfl (fun K hK => ?_) AllReadyH.nil
          go_simp
          refine hK.out _ _ K6 (fun _ => ?_)
          clear hK K
          refine wpAnyH_ready (rs := [12]) (by kernel_rfl) (by simp) ?_
          refine AllReadyH.cons rfl (fun K hK => ?_) AllReadyH.nil
          go_simp
          refine hK.out _ _ K6 (fun _ => ?_)
          clear hK K
          refine wpAnyH_done (by kernel_rfl) ?_ _
          go_simp
          clear K4 K5 K6 s0 sf0 x0 x0' y0 y1 zs
          obtain ⟨u8, hu⟩ : ∃ u8, u8 = (v2.setCell ⟨w1.heap.size, 0, none⟩ (.slice ga2 G.length gc2)) := ⟨_, rfl⟩
          rw [← hu] at HF
          have HU := Lib.hid hu
          clear hu
          go_upto_region 23 with fail
          rw [← HU.out]
          clear HU
          obtain ⟨ho, tD, tR, tA, hown, hs⟩ := HF.out
          have hwu : w.heap.size ≤ u8.heap.size := hs.old.size
          have hgu : g < u8.heap.size := (own_lt hown rfl).2
          obtain ⟨n1, hn1⟩ : ∃ n1, n1 = (L.take k).map Value.string := ⟨_, rfl⟩
          obtain ⟨n2, hn2⟩ : ∃ n2, n2 = (L.drop (k + 1)).map Value.string := ⟨_, rfl⟩
          obtain ⟨A, hA, HN2⟩ : ∃ A : Addr, (if oc = k + 1 then some (⟨g, 0, none⟩ : Addr) else some ⟨g, k + 1, none⟩) = some A ∧ Hid (∀ (W : World), u8.drew.grownBy W none → ∀ t u, n2[t]? = some u → W.cell? (A.add t) = some u) := by
            by_cases hc : oc = k + 1
            · refine ⟨⟨g, 0, none⟩, by simp [hc], Lib.hid (fun W _ t u hu => ?_)⟩
              have h0 : n2.length = 0 := by rw [hn2, List.length_map, List.length_drop]; omega
              rw [List.length_eq_zero_iff.1 h0] at hu
              simp at hu
            · refine ⟨⟨g, k + 1, none⟩, by simp [hc], Lib.hid (fun W hg t u hu => ?_)⟩
              have ht : t < n2.length := (List.getElem?_eq_some_iff.1 hu).1
              rw [hn2, List.length_map, List.length_drop] at ht
              have hadd : (⟨g, k + 1, none⟩ : Addr).add t = ⟨g, k + 1 + t, none⟩ := by unfold Addr.add; split <;> simp_all
              rw [hadd, hg.cell_far ⟨g, k + 1 + t, none⟩ hgu (by simp)]
              show u8.cell? _ = _
              rw [own_cell hown rfl (by omega), ← hu, hn2, List.getElem?_map, List.getElem?_map, List.getElem?_drop]
          have HN1 : Hid (∀ t u, n1[t]? = some u → u8.drew.cell? ((⟨g, 0, none⟩ : Addr).add t) = some u) := Lib.hid (fun t u hu => by
            have ht : t < n1.length := (List.getElem?_eq_some_iff.1 hu).1
            rw [hn1, List.length_map, List.length_take] at ht
            have hadd : (⟨g, 0, none⟩ : Addr).add t = ⟨g, t, none⟩ := by cases t <;> simp [Addr.add]
            rw [hadd]
            show u8.cell? _ = _
            rw [own_cell hown rfl (by omega), ← hu, hn1, List.getElem?_map, List.getElem?_map, List.getElem?_take, if_pos (by omega)])
          have HO0 : Hid (u8.drew.ownsRow w.heap.size 9 1 (.slice none 0 0) 0 []) := Lib.hid (World.ownsRow_nil _ _ _ _)
          have HL1 : Hid (n1.length = k * 1) := Lib.hid (by rw [hn1, List.length_map, List.length_take]; omega)
          have HL2 : Hid (n2.length = (L.length - (k + 1)) * 1) := Lib.hid (by rw [hn2, List.length_map, List.length_drop]; omega)
          have HE1 : Hid (∀ u ∈ n1, u.oneCell' = true) := Lib.hid (by rw [hn1]; exact texts_one _)
          have HE2 : Hid (∀ u ∈ n2, u.oneCell' = true) := Lib.hid (by rw [hn2]; exact texts_one _)
          have HB1 : Hid (0 + k ≤ maxLen ∧ (0 + k) * 16 ≤ 140737488355328 ∧ w.heap.size ≤ u8.drew.heap.size) := Lib.hid ⟨by unfold maxLen; omega, by omega, hwu⟩
          have HB2 : Hid (0 + k + (L.length - (k + 1)) ≤ maxLen ∧ (0 + k + (L.length - (k + 1))) * 16 ≤ 140737488355328) := Lib.hid ⟨by unfold maxLen; omega, by omega⟩
          have HB3 : Hid (∀ (W : World), u8.drew.grownBy W none → w.heap.size ≤ W.heap.size) := Lib.hid (fun W hg => Nat.le_trans hwu hg.size)
          have HAF : Hid (∀ (vA vB : Value) (wA wB : World), u8.drew.grownBy wA none → (vA.ownBlock = none ∨ vA.ownBlock = some u8.drew.heap.size) → wA.grownBy wB vA.ownBlock → wB.ownsRow w.heap.size 9 1 vB (0 + k + (L.length - (k + 1))) ([] ++ n1 ++ n2) →
              OwnS w.heap.size wB vB T ∧ OutF w.heap.size wB (.slice ga2 G.length gc2) G ∧ TB 24 wB w1.heap.size [.slice ga2 G.length gc2] ∧ TB 36 wB (w1.heap.size + 1) [.int .i64 0, .int .i64 1] ∧ TB 36 wB u1.heap.size [.int .i64 0, .int .i64 2] ∧ SrcAt w wB ws.heap.size a len cap (k' + 1)) := Lib.hid (fun vA vB wA wB hg1 hat hg2 hwB => by
            have b1 : Below u8.heap.size u8 wA := (Below.refl u8.heap.size u8).drew.grown hg1 (Nat.le_refl _) (fun q hq => by cases hq)
            have b2 : Below u8.heap.size u8 wB := b1.grown hg2 b1.size (fun q hq => by
              rcases hat with h | h
              · rw [h] at hq; cases hq
              · rw [h] at hq; injection hq with hq; rw [← hq]; exact Nat.le_refl _)
            refine ⟨?_, ho.stay b2, tD.stay b2, tR.stay b2, tA.stay b2, hs.later b2⟩
            rw [HT.out]
            rw [hn1, hn2, List.nil_append] at hwB
            exact OwnS.cat hwB (by rw [List.length_take]; omega) (by rw [List.length_drop]))
          have ew : IntKind.i64.wrap ((k : Int) + 1) = (k : Int) + 1 := by rw [IntKind.wrap_i64]; omega
          have et : ((k : Int) + 1).toNat = k + 1 := by omega
          have hic : k ≤ oc := by omega
          have hicz : (k : Int) ≤ (oc : Int) := by omega
          have hjc : k + 1 ≤ oc := by omega
          have hi0' : (0 : Int) ≤ (k : Int) + 1 := by omega
          have hi1' : (k : Int) + 1 ≤ (L.length : Int) := by omega
          clear hn1 hn2 ho tD tR tA hown hs hwu hgu HF hgl hgP hgB HT
          go_wp2_with fail
          refine wp_region_held_drew (S := fun _ => True) (by kernel_rfl) trivial (fun hHeld => ?_)
          refine wpAnyH_take (i := 0) (v := ?_) rfl (by kernel_rfl) (by kernel_rfl) (by kernel_rfl) (fun _ _ _ h => h) (Or.inl ⟨by rfl, ?_⟩) (by assumption) ?_
          rotate_left
          · (intro w hSw; (try dsimp only at hSw); first | (go_simp; done) | (go_simp; with_reducible rfl))
          try simp only [Act.put, List.setIfInBounds_toArray, List.set_cons_zero, List.set_cons_succ]
          refine wpAnyH_take (i := 1) (v := ?_) rfl (by kernel_rfl) (by kernel_rfl) (by kernel_rfl) (fun _ _ _ h => h) (Or.inl ⟨by rfl, ?_⟩) (by assumption) ?_
          rotate_left
          · (intro w hSw; (try dsimp only at hSw); first | (go_simp; done) | (go_simp; with_reducible rfl))
          try simp only [Act.put, List.setIfInBounds_toArray, List.set_cons_zero, List.set_cons_succ]
          refine wpAnyH_take (i := 2) (v := ?_) rfl (by kernel_rfl) (by kernel_rfl) (by kernel_rfl) (fun _ _ _ h => h) (Or.inl ⟨by rfl, ?_⟩) (by assumption) ?_
          rotate_left
          · (intro w hSw; (try dsimp only at hSw); first | (go_simp; done) | (go_simp; with_reducible rfl))
          try simp only [Act.put, List.setIfInBounds_toArray, List.set_cons_zero, List.set_cons_succ]
          refine wpAnyH_take (i := 4) (v := ?_) rfl (by kernel_rfl) (by kernel_rfl) (by kernel_rfl) (fun _ _ _ h => h) (Or.inl ⟨by rfl, ?_⟩) (by assumption) ?_
          rotate_left
          · (intro w hSw; (try dsimp only at hSw); first | (go_simp; done) | (go_simp; with_reducible rfl))
          try simp only [Act.put, List.setIfInBounds_toArray, List.set_cons_zero, List.set_cons_succ]
          refine wpAnyH_take (i := 5) (v := ?_) rfl (by kernel_rfl) (by kernel_rfl) (by kernel_rfl) (fun _ _ _ h => h) (Or.inl ⟨by rfl, ?_⟩) (by assumption) ?_
          rotate_left
          · (intro w hSw; (try dsimp only at hSw); first | (go_simp; done) | (go_simp; with_reducible rfl))
          try simp only [Act.put, List.setIfInBounds_toArray, List.set_cons_zero, List.set_cons_succ]
          refine wpAnyH_take (i := 6) (v := ?_) rfl (by kernel_rfl) (by kernel_rfl) (by kernel_rfl) (fun _ _ _ h => h) (Or.inl ⟨by rfl, ?_⟩) (by assumption) ?_
          rotate_left
          · (intro w hSw; (try dsimp only at hSw); first | (go_simp; done) | (go_simp; with_reducible rfl))
          try simp only [Act.put, List.setIfInBounds_toArray, List.set_cons_zero, List.set_cons_succ]
          refine wpAnyH_take (i := 7) (v := ?_) rfl (by kernel_rfl) (by kernel_rfl) (by kernel_rfl) (fun _ _ _ h => h) (Or.inl ⟨by rfl, ?_⟩) (by assumption) ?_
          rotate_left
          · (intro w hSw; (try dsimp only at hSw); first | (go_simp; done) | (go_simp; with_reducible rfl))
          try simp only [Act.put, List.setIfInBounds_toArray, List.set_cons_zero, List.set_cons_succ]
          go_simp
          refine wpAnyH_ready (rs := [3]) (by kernel_rfl) (by simp) ?_
          refine AllReadyH.cons rfl (fun K hK => ?_) AllReadyH.nil
          refine step_append_at _ (by rfl) _ _ _ (by rfl) w.heap.size 9 i0 _ 1 16 Try.underlying40 hi hz0 hz1 hz2 rfl (by omega) (.slice none 0 0) 0 [] (by rfl) HO0.out ⟨g, 0, none⟩ k oc n1 (by rfl) HL1.out HN1.out HE1.out HB1.out.1 HB1.out.2.1 HB1.out.2.2 ?_
          intro vA wA hownA hgrowA hatA
          refine hK.out _ _ trivial (fun _ => ?_)
          clear hK K
          go_simp
          refine wpAnyH_ready (rs := [8]) (by kernel_rfl) (by simp) ?_
          refine AllReadyH.cons rfl (fun K hK => ?_) AllReadyH.nil
          refine step_append_at _ (by rfl) _ _ _ (by rfl) w.heap.size 9 i0 _ 1 16 Try.underlying40 hi hz0 hz1 hz2 rfl (by omega) vA (0 + k) ([] ++ n1) (by rfl) hownA A (L.length - (k + 1)) (oc - (k + 1)) n2 (by rfl) HL2.out (HN2.out wA hgrowA) HE2.out HB2.out.1 HB2.out.2 (HB3.out wA hgrowA) ?_
          intro vB wB hownB hgrowB hatB
          refine hK.out _ _ trivial (fun _ => ?_)
          clear hK K
          go_simp
          refine wpAnyH_ready (rs := [9]) (by kernel_rfl) (by simp) ?_
          refine AllReadyH.cons rfl (fun K hK => ?_) AllReadyH.nil
          go_simp
          refine hK.out _ _ trivial (fun _ => ?_)
          clear hK K
          refine wpAnyH_done (by kernel_rfl) ?_ _
          go_simp
          have HFN := Lib.hid (HAF.out vA vB wA wB hgrowA hatA hgrowB hownB)
          clear HAF hownA hgrowA hatA hownB hgrowB hatB HN1 HN2 HO0 HL1 HL2 HE1 HE2 HB1 HB2 HB3 hA
          go_wp2_with fail
          exact ⟨⟨T, G, ga2, gc2, k' + 1, by have := HTL.out; go_num, by have := HTL.out; omega, by have := HTL.out; omega, HFN.out.1, HL', HSL', HOK', HFN.out.2⟩, by have := HTL.out; simp [intOf]; omega⟩
end Go.Proofs.Ytafnbpkdenjipaa.fl
namespace Go.Proofs.Ytafnbpkdenjipaa.filesUnlinked
open Go.RowKit Go.Proofs.Ytafnbpkdenjipaa.fl
theorem walk (n : Int) (a : Option Addr) (len cap : Nat) (zs : List Int) (w : World) (hn : (Lit.int .u8 n).wf = true) (hr : IsRow .i64 w a len cap zs) (_ : laidMetH Try.prog Rows.filesUnlinkedRow.laid w) (_ : w.ShapedOpen Try.prog) : Calls Try.prog 8 #[.int .u8 n, .slice a len cap] w fun e w' => e = .returned (.bool true) ∧ Below w.heap.size w w' := by
  have h2 : 0 ≤ n ∧ n < 256 := by
    have h : 0 ≤ n ∧ n ≤ 255 := bounds_u8 hn
    omega
  exact filesUnlinked_any n h2.1 h2.2 a len cap w (cm.nums_of_row hr)
end Go.Proofs.Ytafnbpkdenjipaa.filesUnlinked
