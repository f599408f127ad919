/-
  The source of numbers makes one change of files.
  The source of numbers hands out valid files.
-/
import Derived.Test.YtafnbpkdenjipaaSrcK
import Derived.Test.YtafnbpkdenjipaaRMk
import Derived.Test.YtafnbpkdenjipaaRQd
import Derived.Test.YtafnbpkdenjipaaRRe
import Derived.Deep.CutBlock
import Derived.Test.YtafnbpkdenjipaaFRn
namespace Go.Proofs.Ytafnbpkdenjipaa.fl
open Go.RowKit Go.Proofs.Ytafnbpkdenjipaa.cm Go.Proofs.Ytafnbpkdenjipaa.sr

/-- what Change hands out -/
def ChB (W0 : World) (b : Nat) (a : Option Addr) (len cap k : Nat) (B : Nat) (w : World) (e : Ending) (w' : World) : Prop :=
  ∃ (G : FilP) (gv : Value) (k' : Nat), k' ≤ k + 60 ∧ OKF G ∧ e = .returned (.agg #[gv]) ∧ OutF B w' gv G ∧ SrcAt W0 w' b a len cap k' ∧ Beside b w w'
theorem outF_form {B : Nat} {w : World} {v : Value} {F : FilP} (h : OutF B w v F) : ∃ fa fc, v = .slice fa F.length fc := by
  obtain ⟨a, c, h, -⟩ := h.at_
  exact ⟨a, c, h⟩
/-- attributes alone -/
def clearN (m : NodeP) : NodeP := ⟨0, m.kind, m.mode, m.uid, m.gid, 0, m.target, []⟩

set_option maxRecDepth 100000 in
set_option maxHeartbeats 8000000 in
theorem change_b (W0 w : World) (b : Nat) (a : Option Addr) (len cap k : Nat) (h : SrcAt W0 w b a len cap k) (hk : k + 60 ≤ 100000) (B : Nat) (fv : Value) (F : FilP) (hF : OutF B w fv F) (hO : OKF F) (hB : B ≤ w.heap.size) :
    Calls Try.prog 37 #[.pointer (some ⟨b, 0, none⟩), .agg #[fv]] w (ChB W0 b a len cap k B w) := by
  obtain ⟨fa, fc, rfl⟩ := outF_form hF
  have hbl := h.lt
  have h0w := h.old.size
  have hb2 : Beside b w ((w.alloc (.cells #[.slice fa F.length fc] 24)).alloc (.cells #[.slice none 0 0] 24)) := ((Beside.refl b w).alloc _).alloc _
  have hs2 := (h.alloc (.cells #[.slice fa F.length fc] 24)).alloc (.cells #[.slice none 0 0] 24)
  obtain ⟨w2, hw2⟩ : ∃ w2, w2 = (w.alloc (.cells #[.slice fa F.length fc] 24)).alloc (.cells #[.slice none 0 0] 24) := ⟨_, rfl⟩
  have tN2 : TB 24 w2 w.heap.size [.slice fa F.length fc] := by rw [hw2]; exact (TB.new1 w [.slice fa F.length fc] _ _ rfl).alloc _
  have tR2 : TB 24 w2 (w.heap.size + 1) [.slice none 0 0] := by rw [hw2]; exact TB.new1 _ [.slice none 0 0] _ _ (size_alloc _ _)
  rw [← hw2] at hb2 hs2
  have HF := Lib.hid (fun W (hb : Beside b w W) => hF.beside h hb)
  have HW2 := Lib.hid hw2
  have HO := Lib.hid hO
  have CF := Lib.hid (file_b W0 w2 b a len cap k hs2 (by omega) B (.slice fa F.length fc) F (HF.out w2 hb2) hO)
  have HBW := Lib.hid hB
  have x0 := tN2.blk.c1.1
  clear h hF hO hw2 hs2 hB
  go_enter Try.func37, Try.ntmps37
  go_upto_region 1 with fail
  rw [← HW2.out]
  go_wp2_with fail
  refine CF.out.mono ?_
  rintro e w25 ⟨x, k1, hk1, rfl, hs25, hb25⟩
  have hbw25 := hb2.trans hb25
  have tN25 := tN2.beside (by omega) hb25
  have tR25 := tR2.beside (by omega) hb25
  have CN := Lib.hid (name_b W0 w25 b a len cap k1 hs25 (by omega))
  clear x0 CF tN2 tR2 hb2 hb25 hs25 HW2
  go_wp2_with fail
  refine CN.out.mono ?_
  rintro e w3 ⟨nm, hnm, rfl, hs3, hb3⟩
  have hbw3 := hbw25.trans hb3
  have tN3 := tN25.beside (by omega) hb3
  have tR3 := tR25.beside (by omega) hb3
  clear CN tN25 tR25 hb3 hbw25 hnm
  have hs5 := (hs3.alloc (.cells #[.int .i64 x.dev, .int .i64 x.ino] 36)).alloc (.cells #[.slice fa F.length fc] 24)
  have hb5 := (hbw3.alloc (.cells #[.int .i64 x.dev, .int .i64 x.ino] 36)).alloc (.cells #[.slice fa F.length fc] 24)
  have tN5 := (tN3.alloc (.cells #[.int .i64 x.dev, .int .i64 x.ino] 36)).alloc (.cells #[.slice fa F.length fc] 24)
  have tR5 := (tR3.alloc (.cells #[.int .i64 x.dev, .int .i64 x.ino] 36)).alloc (.cells #[.slice fa F.length fc] 24)
  have y0 := (tN3.alloc (.cells #[.int .i64 x.dev, .int .i64 x.ino] 36)).blk.c1.1
  obtain ⟨w5, hw5⟩ : ∃ w5, w5 = (w3.alloc (.cells #[.int .i64 x.dev, .int .i64 x.ino] 36)).alloc (.cells #[.slice fa F.length fc] 24) := ⟨_, rfl⟩
  have tD5 : TB 36 w5 w3.heap.size [.int .i64 x.dev, .int .i64 x.ino] := by rw [hw5]; exact (TB.new1 w3 _ _ _ rfl).alloc _
  have tO5 : TB 24 w5 (w3.heap.size + 1) [.slice fa F.length fc] := by rw [hw5]; exact TB.new1 _ [.slice fa F.length fc] _ _ (size_alloc _ _)
  have hl3 : w.heap.size + 1 < w3.heap.size := tR3.lt
  have hb3l : b < w3.heap.size := hs3.lt
  rw [← hw5] at hs5 hb5 tN5 tR5
  have HW5 := Lib.hid hw5
  have CN := Lib.hid (n_b W0 w5 b a len cap (k1 + 2) 8 hs5 (by omega) (by omega) (by omega))
  clear hw5 hs3 hbw3 tN3 tR3
  go_upto_region 3 with fail
  rw [← HW5.out]
  clear y0 HW5
  go_wp2_with fail
  refine CN.out.mono ?_
  rintro e w6 ⟨y, hy, rfl, hs6, hb56⟩
  have hb6 := hb5.trans hb56
  have tN := tN5.beside (by omega) hb56
  have tR := tR5.beside (by omega) hb56
  have tD := tD5.beside (by omega) hb56
  have tO := tO5.beside (by omega) hb56
  have hlO : w3.heap.size + 1 < w6.heap.size := tO.lt
  have HBZ : Hid (B ≤ w6.heap.size) := Lib.hid (by have := HBW.out; omega)
  have HFL := Lib.hid (fun W (hb : Beside b w6 W) => (show ∃ a', a' = fa ∧ FilesAt W a' F by
    obtain ⟨a', c', hv, -, -, hF⟩ := (HF.out W (hb6.trans hb)).at_
    injection hv with hv _ _
    exact ⟨fa, rfl, by rw [hv]; exact hF⟩))
  have HFA : Hid (∀ W, Beside b w6 W → FilesAt W fa F) := Lib.hid (fun W hb => by obtain ⟨a', rfl, hf⟩ := HFL.out W hb; exact hf)
  have KS : Hid (∀ W, Beside b w6 W → W.cell? ⟨w.heap.size, 0, none⟩ = some (.slice fa F.length fc) ∧ W.cell? ⟨w3.heap.size, 0, none⟩ = some (.int .i64 x.dev) ∧ W.cell? ⟨w3.heap.size, 1, none⟩ = some (.int .i64 x.ino)) := Lib.hid (fun W hb => ⟨(tN.beside (by omega) hb).blk.c1.1, (tD.beside (by omega) hb).blk.c2.1, (tD.beside (by omega) hb).blk.c2.2.1⟩)
  have HST : Hid (∀ (W : World) (v : Value), (W.cell? ⟨w.heap.size, 0, none⟩ = some (.slice fa F.length fc) ∧ W.cell? ⟨w3.heap.size, 0, none⟩ = some (.int .i64 x.dev) ∧ W.cell? ⟨w3.heap.size, 1, none⟩ = some (.int .i64 x.ino)) → ((W.setCell ⟨w3.heap.size + 1, 0, none⟩ v).cell? ⟨w.heap.size, 0, none⟩ = some (.slice fa F.length fc) ∧ (W.setCell ⟨w3.heap.size + 1, 0, none⟩ v).cell? ⟨w3.heap.size, 0, none⟩ = some (.int .i64 x.dev) ∧ (W.setCell ⟨w3.heap.size + 1, 0, none⟩ v).cell? ⟨w3.heap.size, 1, none⟩ = some (.int .i64 x.ino))) := Lib.hid (fun W v h => by
    have hc : ∀ q c, q ≠ w3.heap.size + 1 → (W.setCell ⟨w3.heap.size + 1, 0, none⟩ v).cell? ⟨q, c, none⟩ = W.cell? ⟨q, c, none⟩ := fun q c hq => World.cell?_of_block (a := ⟨q, c, none⟩) (Below.heap_setCell W ⟨w3.heap.size + 1, 0, none⟩ _ q hq)
    obtain ⟨a0, a1, a2⟩ := h
    exact ⟨(hc _ 0 (by omega)).trans a0, (hc _ 0 (by omega)).trans a1, (hc _ 1 (by omega)).trans a2⟩)
  have FIN : Hid (∀ (W : World) (G1 : FilP) (ga1 : Option Addr) (gc1 : Nat) (er1 : Int) (k21 : Nat), Beside b w6 W → SrcAt W0 W b a len cap k21 → k21 ≤ k + 56 → OutF B W (.slice ga1 G1.length gc1) G1 → (er1 = 0 → OKF G1) →
      W.cell? ⟨w3.heap.size + 1, 0, none⟩ = some (.slice fa F.length fc) ∧ W.frozen? ⟨w3.heap.size + 1, 0, none⟩ = false ∧ ∃ (G : FilP) (ga : Option Addr) (gc : Nat) (er : Int) (k2 : Nat), (Value.int .i64 er1) = .int .i64 er ∧ (er = 0 → OKF G) ∧ k2 ≤ k + 56 ∧ OutF B (W.setCell ⟨w3.heap.size + 1, 0, none⟩ (.slice ga1 G1.length gc1)) (.slice ga G.length gc) G ∧ OutF B (W.setCell ⟨w3.heap.size + 1, 0, none⟩ (.slice ga1 G1.length gc1)) (.slice fa F.length fc) F ∧ TB 24 (W.setCell ⟨w3.heap.size + 1, 0, none⟩ (.slice ga1 G1.length gc1)) (w3.heap.size + 1) [.slice ga G.length gc] ∧ TB 24 (W.setCell ⟨w3.heap.size + 1, 0, none⟩ (.slice ga1 G1.length gc1)) w.heap.size [.slice fa F.length fc] ∧ TB 24 (W.setCell ⟨w3.heap.size + 1, 0, none⟩ (.slice ga1 G1.length gc1)) (w.heap.size + 1) [.slice none 0 0] ∧ SrcAt W0 (W.setCell ⟨w3.heap.size + 1, 0, none⟩ (.slice ga1 G1.length gc1)) b a len cap k2 ∧ Beside b w (W.setCell ⟨w3.heap.size + 1, 0, none⟩ (.slice ga1 G1.length gc1))) := Lib.hid (fun W G ga gc er k2 hb hs hk2 ho hok => by
    have t := tO.beside (by omega) hb
    refine ⟨t.blk.c1.1, t.blk.c1.2, G, ga, gc, er, k2, rfl, hok, hk2, ho.same (t.same (by decide) 0 _), (HF.out W (hb6.trans hb)).same (t.same (by decide) 0 _), t.set 0 _, (tN.beside (by omega) hb).other (by omega) _ _, (tR.beside (by omega) hb).other (by omega) _ _, hs.setNew (by omega) (by omega) 0 _, (hb6.trans hb).setNew (by omega) 0 _⟩)
  have K4 := KS.out w6 (Beside.refl _ _)
  have hbd : Below w6.heap.size w6 w6.drew := (Below.refl _ _).drew
  have hbe : Beside b w6 w6.drew := .of_below hbd
  obtain ⟨kk, hkk⟩ : ∃ kk, kk = k1 + 2 + 1 := ⟨_, rfl⟩
  rw [← hkk] at hs6
  have hkk2 : kk ≤ k + 7 := by omega
  have HS6 := Lib.hid hs6
  clear tN5 tR5 tD5 tO5 hs5 hb5 hb56 CN tN tR tD tO hkk hk1 hs6
  go_upto_block 0 with fail
  go_cut [8] (fun s8 W => ∃ (G : FilP) (ga : Option Addr) (gc : Nat) (er : Int) (k2 : Nat), s8 = .int .i64 er ∧ (er = 0 → OKF G) ∧ k2 ≤ k + 56 ∧ OutF B W (.slice ga G.length gc) G ∧ OutF B W (.slice fa F.length fc) F ∧ TB 24 W (w3.heap.size + 1) [.slice ga G.length gc] ∧ TB 24 W w.heap.size [.slice fa F.length fc] ∧ TB 24 W (w.heap.size + 1) [.slice none 0 0] ∧ SrcAt W0 W b a len cap k2 ∧ Beside b w W)
  case first =>
    by_cases y0 : y = 0
    · subst y0
      have CFi := Lib.hid (file_b W0 w6.drew b a len cap kk (HS6.out.later hbd) (by omega) B (.slice fa F.length fc) F (HF.out _ (hb6.trans hbe)) HO.out)
      go_upto_region 6 with fail
      go_region_held3 (fun (W : World) => W.cell? ⟨w.heap.size, 0, none⟩ = some (.slice fa F.length fc) ∧ W.cell? ⟨w3.heap.size, 0, none⟩ = some (.int .i64 x.dev) ∧ W.cell? ⟨w3.heap.size, 1, none⟩ = some (.int .i64 x.ino))
        (first
          | (with_reducible exact K4)
          | (with_reducible exact K5)
          | (with_reducible exact K6)
          | (with_reducible exact K7)
          | (with_reducible exact K8)
          | go_keep)
        (first
          | (go_at_call 15; (with_reducible refine (CFi.out).mono ?_); rintro e w7 ⟨x2, k7, hk7, rfl, hs7, hb7⟩; have hb67 : Beside b w6 w7 := hbe.trans hb7; have K5 := KS.out w7 hb67; have hsL := hs7)
          | (go_at_call 29; (with_reducible refine (rLink_any fa fc F x nm x2 w7 (HFA.out w7 hb67) HO.out).mono ?_); rintro e w9 ⟨fv, cv, rfl, h1, h2, h3⟩; obtain ⟨ga, gc, rfl⟩ := outF_form h1; have hb9 : Beside b w6 w9 := hb67.trans (.of_below h3); have K7 := KS.out w9 hb9; obtain ⟨o0, of0, hfin⟩ := FIN.out w9 (linkF F x nm x2).files ga gc (linkF F x nm x2).err _ hb9 (hsL.later h3) (by omega) (h1.mono (by have := HBZ.out; have := hb67.size; omega)) (fun he => (HO.out.link x nm x2 he).1); have HFN := Lib.hid hfin; have K8 := HST.out w9 (.slice ga ((linkF F x nm x2).files).length gc) K7; clear hfin h1 h2 h3))
      all_goals
        clear K4 K5 K7 K8 o0 of0
        go_wp2_with fail
        go_meet
        exact HFN.out
    by_cases y1 : y = 1
    · subst y1
      obtain ⟨x0, d0, d1⟩ := K4
      have hsL := HS6.out
      go_wp2_with fail
      refine (rUnlink_any fa fc F x nm w6 (HFA.out w6 (Beside.refl _ _)) HO.out).mono ?_
      rintro e w9 ⟨fv, cv, rfl, h1, h2, h3⟩
      obtain ⟨ga, gc, rfl⟩ := outF_form h1
      have hb9 : Beside b w6 w9 := .of_below h3
      obtain ⟨o0, of0, hfin⟩ := FIN.out w9 (unlinkF F x nm).files ga gc (unlinkF F x nm).err _ hb9 (hsL.later h3) (by omega) (h1.mono HBZ.out) (fun he => (HO.out.unlink x nm he).2)
      have HFN := Lib.hid hfin
      clear hfin h1 h2 h3 x0 d0 d1 hsL
      go_wp2_with fail
      go_meet
      exact HFN.out
    by_cases y2 : y = 2
    · subst y2
      obtain ⟨x0, d0, d1⟩ := K4
      have hsL := HS6.out
      go_wp2_with fail
      refine (rRemoveDir_any fa fc F x nm w6 (HFA.out w6 (Beside.refl _ _)) HO.out).mono ?_
      rintro e w9 ⟨fv, cv, rfl, h1, h2, h3⟩
      obtain ⟨ga, gc, rfl⟩ := outF_form h1
      have hb9 : Beside b w6 w9 := .of_below h3
      obtain ⟨o0, of0, hfin⟩ := FIN.out w9 (rmdirF F x nm).files ga gc (rmdirF F x nm).err _ hb9 (hsL.later h3) (by omega) (h1.mono HBZ.out) (fun he => (HO.out.rmdir x nm he).2)
      have HFN := Lib.hid hfin
      clear hfin h1 h2 h3 x0 d0 d1 hsL
      go_wp2_with fail
      go_meet
      exact HFN.out
    by_cases y3 : y = 3
    · subst y3
      have CFi := Lib.hid (file_b W0 w6.drew b a len cap kk (HS6.out.later hbd) (by omega) B (.slice fa F.length fc) F (HF.out _ (hb6.trans hbe)) HO.out)
      go_upto_region 12 with fail
      go_region_held3 (fun (W : World) => W.cell? ⟨w.heap.size, 0, none⟩ = some (.slice fa F.length fc) ∧ W.cell? ⟨w3.heap.size, 0, none⟩ = some (.int .i64 x.dev) ∧ W.cell? ⟨w3.heap.size, 1, none⟩ = some (.int .i64 x.ino))
        (first
          | (with_reducible exact K4)
          | (with_reducible exact K5)
          | (with_reducible exact K6)
          | (with_reducible exact K7)
          | (with_reducible exact K8)
          | go_keep)
        (first
          | (go_at_call 15; (with_reducible refine (CFi.out).mono ?_); rintro e w7 ⟨x2, k7, hk7, rfl, hs7, hb7⟩; have hb67 : Beside b w6 w7 := hbe.trans hb7; have K5 := KS.out w7 hb67)
          | (go_at_call 16; (with_reducible refine (name_b W0 w7 b a len cap k7 hs7 (by omega)).mono ?_); rintro e w8 ⟨n2, hn2, rfl, hs8, hb8⟩; have hb68 : Beside b w6 w8 := hb67.trans hb8; have K6 := KS.out w8 hb68; have hsL := hs8)
          | (go_at_call 63; (with_reducible refine (rRename_any fa fc F x nm x2 n2 w8 (HFA.out w8 hb68) HO.out).mono ?_); rintro e w9 ⟨fv, cv, rfl, h1, h2, h3⟩; obtain ⟨ga, gc, rfl⟩ := outF_form h1; have hb9 : Beside b w6 w9 := hb68.trans (.of_below h3); have K7 := KS.out w9 hb9; obtain ⟨o0, of0, hfin⟩ := FIN.out w9 (renameF F x nm x2 n2).files ga gc (renameF F x nm x2 n2).err _ hb9 (hsL.later h3) (by omega) (h1.mono (by have := HBZ.out; have := hb68.size; omega)) (fun he => (HO.out.rename x nm x2 n2 he).1); have HFN := Lib.hid hfin; have K8 := HST.out w9 (.slice ga ((renameF F x nm x2 n2).files).length gc) K7; clear hfin h1 h2 h3))
      all_goals
        clear K4 K5 K6 K7 K8 o0 of0
        go_wp2_with fail
        go_meet
        exact HFN.out
    by_cases y4 : y = 4
    · subst y4
      go_upto_region 14 with fail
      go_region_held3 (fun (W : World) => W.cell? ⟨w.heap.size, 0, none⟩ = some (.slice fa F.length fc) ∧ W.cell? ⟨w3.heap.size, 0, none⟩ = some (.int .i64 x.dev) ∧ W.cell? ⟨w3.heap.size, 1, none⟩ = some (.int .i64 x.ino))
        (first
          | (with_reducible exact K4)
          | (with_reducible exact K5)
          | (with_reducible exact K6)
          | (with_reducible exact K7)
          | (with_reducible exact K8)
          | go_keep)
        (first
          | (go_at_call 33; (refine (n_b W0 w6.drew b a len cap kk 9 (HS6.out.later hbd) (by omega) (by omega) (by omega)).mono ?_); rintro e w7 ⟨z1, hz1, rfl, hs7, hb7⟩; have hb67 : Beside b w6 w7 := hbe.trans hb7; have K5 := KS.out w7 hb67)
          | (go_at_call 33; (refine (n_b W0 w7 b a len cap (kk + 1) 9 hs7 (by omega) (by omega) (by omega)).mono ?_); rintro e w8 ⟨z2, hz2, rfl, hs8, hb8⟩; have hb68 : Beside b w6 w8 := hb67.trans hb8; have K6 := KS.out w8 hb68; have hsL := hs8)
          | (go_at_call 32; (with_reducible refine (rSet_any fa fc F x 511 z1 z2 w8 (HFA.out w8 hb68) HO.out).mono ?_); rintro e w9 ⟨fv, rfl, h1, h3⟩; obtain ⟨ga, gc, rfl⟩ := outF_form h1; have hb9 : Beside b w6 w9 := hb68.trans (.of_below h3); have K7 := KS.out w9 hb9; obtain ⟨o0, of0, hfin⟩ := FIN.out w9 (setFF F x 511 z1 z2).1 ga gc (setFF F x 511 z1 z2).2 _ hb9 (hsL.later h3) (by omega) (h1.mono (by have := HBZ.out; have := hb68.size; omega)) (fun he => HO.out.set x 511 z1 z2 he); have HFN := Lib.hid hfin; have K8 := HST.out w9 (.slice ga ((setFF F x 511 z1 z2).1).length gc) K7; clear hfin h1 h3))
      all_goals
        clear K4 K5 K6 K7 K8 o0 of0
        go_wp2_with fail
        go_meet
        exact HFN.out
    have e0 : ((y : Int) == 0) = false := beq_eq_false_iff_ne.2 (by omega)
    have e1 : ((y : Int) == 1) = false := beq_eq_false_iff_ne.2 (by omega)
    have e2 : ((y : Int) == 2) = false := beq_eq_false_iff_ne.2 (by omega)
    have e3 : ((y : Int) == 3) = false := beq_eq_false_iff_ne.2 (by omega)
    have e4 : ((y : Int) == 4) = false := beq_eq_false_iff_ne.2 (by omega)
    clear y0 y1 y2 y3 y4
    go_upto_region 4 with fail
    go_region_held3 (fun (W : World) => W.cell? ⟨w.heap.size, 0, none⟩ = some (.slice fa F.length fc) ∧ W.cell? ⟨w3.heap.size, 0, none⟩ = some (.int .i64 x.dev) ∧ W.cell? ⟨w3.heap.size, 1, none⟩ = some (.int .i64 x.ino))
      (first
        | (with_reducible exact K4)
        | (with_reducible exact K5)
        | (with_reducible exact K6)
        | (with_reducible exact K7)
        | (with_reducible exact K8)
        | go_keep)
      (first
        | (go_at_call 24; (with_reducible refine (attributes_b W0 w6.drew b a len cap kk (HS6.out.later hbd) (by omega)).mono ?_); rintro e w7 ⟨m, k7, hk7, hm60, rfl, hs7, hb7⟩; have hb67 : Beside b w6 w7 := hbe.trans hb7; have K5 := KS.out w7 hb67; have hsL := hs7; have hsz : (clearN m).target.size ≤ 100000 := Nat.le_trans (show m.target.size ≤ 60 from hm60) (by decide))
        | (go_at_call 26; (refine (rMake_any fa fc F x nm (clearN m) none 0 0 w7 (HFA.out w7 hb67) HO.out hsz).mono ?_); rintro e w9 ⟨fv, cv, rfl, h1, h2, h3⟩; obtain ⟨ga, gc, rfl⟩ := outF_form h1; have hb9 : Beside b w6 w9 := hb67.trans (.of_below h3); have K7 := KS.out w9 hb9; obtain ⟨o0, of0, hfin⟩ := FIN.out w9 (makeF F x nm (clearN m)).files ga gc (makeF F x nm (clearN m)).err _ hb9 (hsL.later h3) (by omega) (h1.mono (by have := HBZ.out; have := hb67.size; omega)) (fun he => (HO.out.make x nm (clearN m) he).1); have HFN := Lib.hid hfin; have K8 := HST.out w9 (.slice ga ((makeF F x nm (clearN m)).files).length gc) K7; clear hfin h1 h2 h3))
    all_goals
      clear K4 K5 K7 K8 o0 of0
      go_wp2_with fail
      go_meet
      exact HFN.out
  case rest =>
    obtain ⟨G, ga, gc, er, k2, rfl, hok, hk2, ho, hoF, tO, tN, tR, hs, hb⟩ := hcut
    rename World => w10
    have o0 := tO.blk.c1.1
    have x0 := tN.blk.c1.1
    obtain ⟨r0, rf⟩ := tR.blk.c1
    by_cases c : er = 0
    · have e1 : (er != 0) = false := by simpa using c
      have n0 := (TB.blk (cs := [.slice ga G.length gc]) (tR.set 0 (.slice ga G.length gc))).c1.1
      have HFN : Hid (ChB W0 b a len cap k B w (.returned (.agg #[.slice ga G.length gc])) (w10.setCell ⟨w.heap.size + 1, 0, none⟩ (.slice ga G.length gc))) := Lib.hid
        ⟨G, _, k2, by omega, hok c, rfl, ho.same (tR.same (by decide) 0 _), hs.setNew (by omega) (by omega) 0 _, hb.setNew (by omega) 0 _⟩
      clear ho hoF tO tN tR hs hb hok c K4
      go_wp2_with fail
      exact bodyPost_ret (v := .agg #[.slice ga G.length gc]) (by simp [results, Try.f37, go_sem, n0]) rfl HFN.out
    · have e1 : (er != 0) = true := by simpa using c
      have n0 := (TB.blk (cs := [.slice fa F.length fc]) (tR.set 0 (.slice fa F.length fc))).c1.1
      have HFN : Hid (ChB W0 b a len cap k B w (.returned (.agg #[.slice fa F.length fc])) (w10.setCell ⟨w.heap.size + 1, 0, none⟩ (.slice fa F.length fc))) := Lib.hid
        ⟨F, _, k2, by omega, HO.out, rfl, hoF.same (tR.same (by decide) 0 _), hs.setNew (by omega) (by omega) 0 _, hb.setNew (by omega) 0 _⟩
      clear ho hoF tO tN tR hs hb hok c K4
      go_wp2_with fail
      exact bodyPost_ret (v := .agg #[.slice fa F.length fc]) (by simp [results, Try.f37, go_sem, n0]) rfl HFN.out
end Go.Proofs.Ytafnbpkdenjipaa.fl
namespace Go.Proofs.Ytafnbpkdenjipaa.fl
open Go.RowKit Go.Proofs.Ytafnbpkdenjipaa.cm Go.Proofs.Ytafnbpkdenjipaa.sr

/-- what Files hands out -/
def FilB (W0 : World) (b : Nat) (a : Option Addr) (len cap k : Nat) (w : World) (e : Ending) (w' : World) : Prop :=
  ∃ (F : FilP) (fa : Option Addr) (fc k' : Nat), k' ≤ k + 800 ∧ OKF F ∧ e = .returned (.agg #[.slice fa F.length fc]) ∧ OutF w.heap.size w' (.slice fa F.length fc) F ∧ SrcAt W0 w' b a len cap k' ∧ Beside b w w'

set_option maxRecDepth 100000 in
set_option maxHeartbeats 4000000 in
theorem files_b (W0 w : World) (b : Nat) (a : Option Addr) (len cap k : Nat) (h : SrcAt W0 w b a len cap k) (hk : k + 1000 ≤ 100000) :
    Calls Try.prog 14 #[.pointer (some ⟨b, 0, none⟩)] w (FilB W0 b a len cap k w) := by
  have hbl := h.lt
  have h0w := h.old.size
  have hs1 := h.alloc (.cells #[.slice none 0 0] 24)
  have hb1 := (Beside.refl b w).alloc (.cells #[.slice none 0 0] 24)
  have tR := TB.new1 w [.slice none 0 0] 24 w.heap.size rfl
  have hz1 := size_alloc w (.cells #[.slice none 0 0] 24)
  have CR := Lib.hid (range_b W0 (w.alloc (.cells #[.slice none 0 0] 24)) b a len cap k hs1 (by omega) 1 2 (by omega) (by omega) (by omega) 3 (by omega))
  clear h
  go_enter Try.func14, Try.ntmps14
  go_wp2_with fail
  refine CR.out.mono ?_
  rintro e w2 ⟨x, hx, rfl, hs2, hb2'⟩
  have hb2 := hb1.trans hb2'
  have tR2 := tR.beside (by omega) hb2'
  have hz2 := hb2'.size
  have hx : 1 ≤ x ∧ x ≤ 3 := hx
  have CN := Lib.hid (rNew_any x w2)
  have HNO : Hid (OKF (newP x).1) := Lib.hid (new_ok (by rw [new_eq, if_pos hx]))
  generalize newP x = R at *
  obtain ⟨F0, er⟩ := R
  clear CR hs1 hb1 tR hx hb2'
  go_wp2_with fail
  refine CN.out.mono ?_
  rintro e w3 ⟨v, rfl, ho3, hb3'⟩
  obtain ⟨fa, fc, rfl⟩ := outF_form ho3
  have hb3 := hb2.trans (Beside.of_below hb3')
  have hs3 := hs2.later hb3'
  have tR3 := tR2.stay hb3'
  have hz3 := hb3'.size
  have hb4 := hb3.alloc (.cells #[.slice fa F0.length fc] 24)
  have hs4 := hs3.alloc (.cells #[.slice fa F0.length fc] 24)
  have tR4 := tR3.alloc (.cells #[.slice fa F0.length fc] 24)
  have tD4 := TB.new1 w3 [.slice fa F0.length fc] 24 w3.heap.size rfl
  have ho4 := (ho3.mono (show w.heap.size ≤ w2.heap.size by omega)).stay ((Below.refl w3.heap.size w3).alloc (Nat.le_refl _) (.cells #[.slice fa F0.length fc] 24))
  obtain ⟨w4, hw4⟩ : ∃ w4, w4 = w3.alloc (.cells #[.slice fa F0.length fc] 24) := ⟨_, rfl⟩
  rw [← hw4] at hb4 hs4 tR4 tD4 ho4
  have HW4 := Lib.hid hw4
  have CR := Lib.hid (range_b W0 w4 b a len cap (k + 1) hs4 (by omega) 2 10 (by omega) (by omega) (by omega) 12 (by omega))
  clear CN hs2 hb2 tR2 ho3 hb3' hb3 hs3 tR3 hw4
  go_upto_region 2 with fail
  rw [← HW4.out]
  go_wp2_with fail
  refine CR.out.mono ?_
  rintro e w5 ⟨y, hy, rfl, hs5, hb5'⟩
  have hy : 2 ≤ y ∧ y ≤ 12 := hy
  have hb5 := hb4.trans hb5'
  have hDb : w3.heap.size ≠ b := by omega
  have hRb : w.heap.size ≠ b := by omega
  have hRD : w.heap.size ≠ w3.heap.size := by omega
  have tR5 := tR4.beside hRb hb5'
  have tD5 := tD4.beside hDb hb5'
  have ho5 := ho4.beside hs4 hb5'
  have h0D : W0.heap.size ≤ w3.heap.size := by omega
  have hwD : w.heap.size ≤ w3.heap.size := by omega
  obtain ⟨y0, rfl⟩ := Int.eq_ofNat_of_zero_le (show 0 ≤ y by omega)
  have hy0 : y0 ≤ 12 := by omega
  clear CR hs4 hb4 tR4 tD4 ho4 hb5' HW4 hy
  go_wp2_with fail
  go_loopw [5] (fun i wr => ∃ (n : Nat) (F : FilP) (ga : Option Addr) (gc k' : Nat), i = .int .i64 (n : Int) ∧ n ≤ 12 ∧ k' + 60 * n ≤ k + 2 + 720 ∧ OKF F ∧ OutF w.heap.size wr (.slice ga F.length gc) F ∧ TB 24 wr w3.heap.size [.slice ga F.length gc] ∧ TB 24 wr w.heap.size [.slice none 0 0] ∧ SrcAt W0 wr b a len cap k' ∧ Beside b w wr) (fun i _ => (intOf i).toNat)
  case atStart => exact ⟨y0, F0, fa, fc, k + 1 + 1, rfl, hy0, by omega, HNO.out, ho5, tD5, tR5, hs5, hb5⟩
  case round =>
    obtain ⟨n, F, ga, gc, k', rfl, hn, hk', hO, ho, tD, tR, hs, hb⟩ := hrel
    clear ho5 tD5 tR5 hs5 hb5 HNO
    have x0 := tD.blk.c1.1
    by_cases h0 : 0 < n
    · have CC := Lib.hid (change_b W0 wr b a len cap k' hs (by omega) w.heap.size (.slice ga F.length gc) F ho hO hb.size)
      have hnn : (n : Int) > 0 := by omega
      clear hs ho hO
      go_wp2_with fail
      refine CC.out.mono ?_
      rintro e w7 ⟨G, gv, k2, hk2, hOG, rfl, hoG, hs7, hb7⟩
      obtain ⟨ha, hc, rfl⟩ := outF_form hoG
      have tD7 := tD.beside hDb hb7
      have tR7 := tR.beside hRb hb7
      obtain ⟨d0, df⟩ := tD7.blk.c1
      have KF := Lib.hid (And.intro (hoG.same (tD7.same (by decide) 0 (.slice ha G.length hc))) (And.intro (show TB 24 _ w3.heap.size [.slice ha G.length hc] from tD7.set 0 (.slice ha G.length hc)) (And.intro (tR7.other hRD 0 (.slice ha G.length hc)) (And.intro (hs7.setNew h0D hDb 0 (.slice ha G.length hc)) ((hb.trans hb7).setNew hwD 0 (.slice ha G.length hc))))))
      clear tD tR hb hb7 tD7 tR7 hoG hs7 CC x0
      go_wp2_with fail
      exact ⟨⟨n - 1, G, ha, hc, k2, by go_num, by omega, by omega, hOG, KF.out⟩, by simp [intOf]; omega⟩
    · have hnn : ¬ (n : Int) > 0 := by omega
      obtain ⟨r0, rf⟩ := tR.blk.c1
      have n0 := (TB.blk (cs := [.slice ga F.length gc]) (tR.set 0 (.slice ga F.length gc))).c1.1
      have HFN : Hid (FilB W0 b a len cap k w (.returned (.agg #[.slice ga F.length gc])) (wr.setCell ⟨w.heap.size, 0, none⟩ (.slice ga F.length gc))) := Lib.hid
        ⟨F, ga, gc, k', by omega, hO, rfl, ho.same (tR.same (by decide) 0 _), hs.setNew h0w hRb 0 _, hb.setNew (Nat.le_refl _) 0 _⟩
      clear tD tR hb ho hs hO
      go_wp2_with fail
      exact bodyPost_ret (v := .agg #[.slice ga F.length gc]) (by simp [results, Try.f14, go_sem, n0]) rfl HFN.out
end Go.Proofs.Ytafnbpkdenjipaa.fl
