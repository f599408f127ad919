/-
  edited of package files: the deferred closure, and the frame around a step.
  edited of package files: the frame around a step.
-/
import Derived.Test.YtafnbpkdenjipaaFDr
import Derived.Defers
import Derived.Deep.RegionHeld3
namespace Go.Proofs.Ytafnbpkdenjipaa.fl
open Go.RowKit Go.Proofs.Ytafnbpkdenjipaa.cm

/-- what stands when a step has ended -/
structure EdO (B E : Nat) (w : World) (fa : Option Addr) (fc : Nat) (cv : Value) (F : FilP) (l : List ChgP) : Prop where
  fil : OutF B w (.slice fa F.length fc) F
  ed : TB 100 w E [.slice fa F.length fc, cv]
  own : OwnC B w cv l
  sml : Sml F
  asc : AscF F
  few : l.length ≤ 1000

/-- what the deferred closure leaves of a step without an error -/
def EndR (B G C S : Nat) (fa : Option Addr) (fc : Nat) (cv : Value) (F : FilP) (l : List ChgP) (w : World) (e : Ending) (w' : World) : Prop :=
  e = .returned (.tuple #[]) ∧ OutF B w' (.slice fa F.length fc) (dropsF F l) ∧ OwnC B w' cv l ∧ TB 24 w' G [.slice fa F.length fc] ∧ TB 53 w' C [cv] ∧ TB 46 w' S [.int .i64 0] ∧ Below B w w'

set_option maxRecDepth 100000 in
set_option maxHeartbeats 400000 in
theorem editedEnd_ok (B E G C S : Nat) (fa : Option Addr) (fc : Nat) (cv gv kv : Value) (F : FilP) (l : List ChgP) (u : FrameMode) (w : World) (h : EdO B E w fa fc cv F l) (hG : TB 24 w G [gv]) (hC : TB 53 w C [kv]) (hS : TB 46 w S [.int .i64 0])
    (hB : B ≤ w.heap.size) (hBG : B ≤ G) (hBC : B ≤ C) (hEG : G ≠ E) (hEC : C ≠ E) (hES : S ≠ E) (hGC : G ≠ C) (hGS : G ≠ S) (hCS : C ≠ S) :
    CallsD Try.prog 69 #[.pointer (some ⟨S, 0, none⟩), .pointer (some ⟨E, 0, none⟩), .pointer (some ⟨G, 0, none⟩), .pointer (some ⟨C, 0, none⟩)] u w fun e u' w' => u' = u ∧ EndR B G C S fa fc cv F l w e w' := by
  have CDr := Lib.hid (dropLost_any B E fa fc cv F l w h.fil h.ed h.own h.sml h.asc h.few hB)
  obtain ⟨co, cc, rfl⟩ : ∃ co cc, cv = .slice co l.length cc := by
    obtain ⟨a, c, h, -⟩ := own_slice h.own
    exact ⟨a, c, h⟩
  obtain ⟨s0, -⟩ := hS.blk.c1
  have HGC := Lib.hid hGC
  have H1 := Lib.hid hEG
  have H2 := Lib.hid hEC
  have H3 := Lib.hid hES
  have H4 := Lib.hid hGS
  have H5 := Lib.hid hCS
  clear hGC hEG hEC hES hGS hCS
  go_enter_d Try.func69, Try.ntmps69
  go_wp2_with fail
  refine CDr.out.mono ?_
  rintro e w1 ⟨rfl, k1, k2, k3, k4, k5⟩
  have tG := hG.sameB k4 H1.out (by decide)
  have tC := hC.sameB k4 H2.out (by decide)
  have tS := hS.sameB k4 H3.out (by decide)
  obtain ⟨e0, e1, -⟩ := k1.blk.c2
  obtain ⟨g0, gf⟩ := tG.blk.c1
  obtain ⟨c0, cf⟩ := tC.blk.c1
  have hne1 := HGC.out
  have hne2 := Ne.symm HGC.out
  have HF : Hid (EndR B G C S fa fc (.slice co l.length cc) F l w (.returned (.tuple #[])) ((w1.setCell ⟨G, 0, none⟩ (.slice fa F.length fc)).setCell ⟨C, 0, none⟩ (.slice co l.length cc))) := Lib.hid (by
    have s1 := tG.same (by decide) 0 (.slice fa F.length fc)
    have tC2 := tC.other (Ne.symm HGC.out) 0 (.slice fa F.length fc)
    have o2 := own_other k3 (g := G) (fun e => tG.ne k3 (by decide) e) 0 (.slice fa F.length fc)
    refine ⟨rfl, (k2.same s1).same (tC2.same (by decide) 0 (.slice co l.length cc)), own_other o2 (fun e => tC2.ne o2 (by decide) e) 0 (.slice co l.length cc), (tG.set 0 _).other HGC.out 0 _, tC2.set 0 (.slice co l.length cc), (tS.other (Ne.symm H4.out) 0 _).other (Ne.symm H5.out) 0 _, below_set (below_set k5 hBG 0 _) hBC 0 _⟩)
  clear k1 k2 k3 k4 k5 tG tC tS
  go_wp2_with fail
  exact bodyPost_end (v := .tuple #[]) (by simp [results, Try.f69, go_sem]) rfl HF.out

set_option maxRecDepth 100000 in
set_option maxHeartbeats 400000 in
theorem editedEnd_err (E G C S : Nat) (err : Int) (u : FrameMode) (w : World) (hS : TB 46 w S [.int .i64 err]) (he : err ≠ 0) :
    CallsD Try.prog 69 #[.pointer (some ⟨S, 0, none⟩), .pointer (some ⟨E, 0, none⟩), .pointer (some ⟨G, 0, none⟩), .pointer (some ⟨C, 0, none⟩)] u w fun e u' w' => u' = u ∧ (e = .returned (.tuple #[]) ∧ w' = w) := by
  obtain ⟨s0, -⟩ := hS.blk.c1
  have e1 : (err == 0) = false := by simpa using he
  clear he hS
  go_enter_d Try.func69, Try.ntmps69
  go_wp2_with fail
  exact bodyPost_end (v := .tuple #[]) (by simp [results, Try.f69, go_sem]) rfl ⟨rfl, rfl⟩
end Go.Proofs.Ytafnbpkdenjipaa.fl
namespace Go.Proofs.Ytafnbpkdenjipaa.fl
open Go.RowKit Go.Proofs.Ytafnbpkdenjipaa.cm

/-- what a step leaves of the files that it works on -/
def StepR (B E : Nat) (F : FilP) (l : List ChgP) (err : Int) (w : World) (e : Ending) (w' : World) : Prop :=
  e = .returned (.int .i64 err) ∧ SameB E w w' ∧ Below B w w' ∧ (err = 0 → ∃ fa fc cv, EdO B E w' fa fc cv F l)
/-- what a call that changes files answers -/
def EditR (B : Nat) (r : ResP) (w : World) (e : Ending) (w' : World) : Prop :=
  ∃ fv cv, e = .returned (.tuple #[.agg #[fv], cv, .int .i64 r.err]) ∧ OutF B w' fv r.files ∧ OwnC B w' cv r.chg ∧ Below B w w'

section
variable {w : World} {N : Nat} (hG : TB 24 w (N + 1) [.slice none 0 0]) (hC : TB 53 w (N + 1 + 1) [.slice none 0 0]) (hS : TB 46 w (N + 1 + 1 + 1) [.int .i64 0])
include hG hC hS
theorem three : TB 24 (w.setCell ⟨N + 1, 0, none⟩ (.slice none 0 0)) (N + 1) [.slice none 0 0] ∧ TB 53 (w.setCell ⟨N + 1, 0, none⟩ (.slice none 0 0)) (N + 1 + 1) [.slice none 0 0] ∧ TB 46 (w.setCell ⟨N + 1, 0, none⟩ (.slice none 0 0)) (N + 1 + 1 + 1) [.int .i64 0] :=
  ⟨hG.set 0 (.slice none 0 0), hC.other (by omega) 0 _, hS.other (by omega) 0 _⟩
theorem three' : TB 24 ((w.setCell ⟨N + 1, 0, none⟩ (.slice none 0 0)).setCell ⟨N + 1 + 1, 0, none⟩ (.slice none 0 0)) (N + 1) [.slice none 0 0] ∧ TB 53 ((w.setCell ⟨N + 1, 0, none⟩ (.slice none 0 0)).setCell ⟨N + 1 + 1, 0, none⟩ (.slice none 0 0)) (N + 1 + 1) [.slice none 0 0] ∧ TB 46 ((w.setCell ⟨N + 1, 0, none⟩ (.slice none 0 0)).setCell ⟨N + 1 + 1, 0, none⟩ (.slice none 0 0)) (N + 1 + 1 + 1) [.int .i64 0] := by
  obtain ⟨h1, h2, h3⟩ := three hG hC hS
  exact ⟨h1.other (by omega) 0 _, h2.set 0 (.slice none 0 0), h3.other (by omega) 0 _⟩
theorem three'' (e : Int) : TB 24 (((w.setCell ⟨N + 1, 0, none⟩ (.slice none 0 0)).setCell ⟨N + 1 + 1, 0, none⟩ (.slice none 0 0)).setCell ⟨N + 1 + 1 + 1, 0, none⟩ (.int .i64 e)) (N + 1) [.slice none 0 0] ∧ TB 53 (((w.setCell ⟨N + 1, 0, none⟩ (.slice none 0 0)).setCell ⟨N + 1 + 1, 0, none⟩ (.slice none 0 0)).setCell ⟨N + 1 + 1 + 1, 0, none⟩ (.int .i64 e)) (N + 1 + 1) [.slice none 0 0] ∧ TB 46 (((w.setCell ⟨N + 1, 0, none⟩ (.slice none 0 0)).setCell ⟨N + 1 + 1, 0, none⟩ (.slice none 0 0)).setCell ⟨N + 1 + 1 + 1, 0, none⟩ (.int .i64 e)) (N + 1 + 1 + 1) [.int .i64 e] := by
  obtain ⟨h1, h2, h3⟩ := three' hG hC hS
  exact ⟨h1.other (by omega) 0 _, h2.other (by omega) 0 _, h3.set 0 (.int .i64 e)⟩
end

set_option maxRecDepth 100000 in
set_option maxHeartbeats 400000 in
theorem edited_any (f : Nat) (capt : Array Value) (hcf : ∀ (args : Array Value) (w : World), (callFunc f args).run Try.prog w = .ok (.enter f args) w) (a : Option Addr) (cap : Nat) (F : FilP) (w : World) (hF : FilesAt w a F) (hS : Sml F) (r : ResP) (F' : FilP) (l' : List ChgP)
    (hst : ∀ W E fa fc, Below w.heap.size w W → w.heap.size ≤ E → TB 100 W E [.slice fa F.length fc, .slice none 0 0] → OutF w.heap.size W (.slice fa F.length fc) F → Calls Try.prog f (#[.pointer (some ⟨E, 0, none⟩)] ++ capt) W (StepR w.heap.size E F' l' r.err W))
    (hok : r.err = 0 → r.files = dropsF F' l' ∧ r.chg = l') (hbad : r.err ≠ 0 → r.files = [] ∧ r.chg = []) :
    Calls Try.prog 45 #[.agg #[.slice a F.length cap], .func (.func f) #[] capt] w (EditR w.heap.size r w) := by
  have hmf : ∀ (fn : Fn) (first cap : Array Value) (w : World), (Instr.makeFunc fn first cap).run Try.prog w = .ok (.func fn first cap) w := fun _ _ _ _ => rfl
  have HST := Lib.hid hst
  have HOK := Lib.hid hok
  have HBAD := Lib.hid hbad
  have hb1 : Below w.heap.size w (w.alloc (.cells #[.slice a F.length cap] 24)) := (Below.refl _ _).alloc (Nat.le_refl _) _
  have hb2 := hb1.alloc hb1.size (.cells #[.slice none 0 0] 24)
  have hb3 := hb2.alloc hb2.size (.cells #[.slice none 0 0] 53)
  have hb4 := hb3.alloc hb3.size (.cells #[.int .i64 0] 46)
  obtain ⟨w4, hw4⟩ : ∃ w4, w4 = (((w.alloc (.cells #[.slice a F.length cap] 24)).alloc (.cells #[.slice none 0 0] 24)).alloc (.cells #[.slice none 0 0] 53)).alloc (.cells #[.int .i64 0] 46) := ⟨_, rfl⟩
  have t0 : TB 24 w4 w.heap.size [.slice a F.length cap] := by rw [hw4]; exact (((TB.new1 w [.slice a F.length cap] _ _ rfl).alloc _).alloc _).alloc _
  have tG : TB 24 w4 (w.heap.size + 1) [.slice none 0 0] := by rw [hw4]; exact ((TB.new1 _ [.slice none 0 0] _ _ (size_alloc _ _)).alloc _).alloc _
  have tC : TB 53 w4 (w.heap.size + 1 + 1) [.slice none 0 0] := by rw [hw4]; exact (TB.new1 _ [.slice none 0 0] _ _ (by rw [size_alloc, size_alloc])).alloc _
  have tS : TB 46 w4 (w.heap.size + 1 + 1 + 1) [.int .i64 0] := by rw [hw4]; exact TB.new1 _ [.int .i64 0] _ _ (by rw [size_alloc, size_alloc, size_alloc])
  rw [← hw4] at hb4
  obtain ⟨x0, -⟩ := t0.blk.c1
  have CF := Lib.hid (copyFiles_any a cap F w4 (hF.below hb4) hS)
  have HW := Lib.hid hw4
  clear hw4 hb1 hb2 hb3 hst hok hbad hF hS
  go_enter_defers Try.func45, Try.ntmps45
  go_wp2_with fail
  rw [← HW.out]
  refine CF.out.mono ?_
  rintro e w5 ⟨v, rfl, hF5, hb5⟩
  obtain ⟨fa, fc, rfl⟩ : ∃ fa fc, v = .slice fa F.length fc := by
    obtain ⟨a, c, h, -⟩ := hF5.at_
    exact ⟨a, c, h⟩
  have hb6 : Below w4.heap.size w4 (w5.alloc (.cells #[.slice fa F.length fc, .slice none 0 0] 100)) := hb5.alloc hb5.size _
  obtain ⟨w6, hw6⟩ : ∃ w6, w6 = w5.alloc (.cells #[.slice fa F.length fc, .slice none 0 0] 100) := ⟨_, rfl⟩
  have tE : TB 100 w6 w5.heap.size [.slice fa F.length fc, .slice none 0 0] := by rw [hw6]; exact TB.new1 w5 _ _ _ rfl
  have hF6 : OutF w.heap.size w6 (.slice fa F.length fc) F := by rw [hw6]; exact (hF5.mono hb4.size).stay ((Below.refl _ _).alloc (Nat.le_refl _) _)
  rw [← hw6] at hb6
  have hbw := hb4.trans (hb6.mono hb4.size)
  have uG := tG.stay hb6
  have uC := tC.stay hb6
  have uS := tS.stay hb6
  have hle : w.heap.size ≤ w5.heap.size := Nat.le_trans hb4.size hb5.size
  have h45 := hb5.size
  have nG : w.heap.size + 1 ≠ w5.heap.size := by have := tG.lt; omega
  have nC : w.heap.size + 1 + 1 ≠ w5.heap.size := by have := tC.lt; omega
  have nS : w.heap.size + 1 + 1 + 1 ≠ w5.heap.size := by have := tS.lt; omega
  have NG := Lib.hid nG
  have NC := Lib.hid nC
  have NS := Lib.hid nS
  have CS := Lib.hid (HST.out w6.drew w5.heap.size fa fc hbw.drew hle tE.drew (hF6.stay (Below.refl _ _).drew))
  obtain ⟨g0, gf⟩ := uG.blk.c1
  obtain ⟨c0, cf⟩ := uC.blk.c1
  have HW6 := Lib.hid hw6
  have UG := Lib.hid uG.drew
  have UC := Lib.hid uC.drew
  have US := Lib.hid uS.drew
  have HBW := Lib.hid hbw.drew
  clear hw6 uG uC uS tG tC tS t0 x0 hF6 hF5 tE hb5 hb6 hb4 nG nC nS h45 CF HST hbw
  go_wp2_with fail
  rw [← HW6.out]
  go_region_held3 (fun W => W.cell? ⟨w.heap.size + 1, 0, none⟩ = some (.slice none 0 0) ∧ W.cell? ⟨w.heap.size + 1 + 1, 0, none⟩ = some (.slice none 0 0))
    (first
      | go_keep
      | (with_reducible exact ⟨b0, a0⟩)
      | (with_reducible exact ⟨b1, a1⟩)
      | (with_reducible exact ⟨b2, a2⟩)
      | (with_reducible exact ⟨b3, a3⟩))
    (((with_reducible refine CS.out.mono ?_); rintro e w7 ⟨rfl, k1, k2, k3⟩; have vG := UG.out.sameB k1 NG.out (by decide); have vC := UC.out.sameB k1 NC.out (by decide); have vS := US.out.sameB k1 NS.out (by decide); obtain ⟨s0, sf⟩ := vS.blk.c1; obtain ⟨b0, bf⟩ := vG.blk.c1; obtain ⟨a0, af⟩ := vC.blk.c1;
      obtain ⟨v1, v2, v3⟩ := three vG vC vS; obtain ⟨v4, v5, v6⟩ := three' vG vC vS; obtain ⟨v7, v8, v9⟩ := three'' vG vC vS r.err; obtain ⟨b1, -⟩ := v1.blk.c1; obtain ⟨a1, af1⟩ := v2.blk.c1; obtain ⟨b2, -⟩ := v4.blk.c1; obtain ⟨a2, -⟩ := v5.blk.c1; obtain ⟨s2, sf2⟩ := v6.blk.c1; obtain ⟨b3, -⟩ := v7.blk.c1; obtain ⟨a3, -⟩ := v8.blk.c1))
  have hbw7 := HBW.out.trans (k2.mono (Nat.le_refl _))
  obtain ⟨wd, hwd⟩ : ∃ wd, wd = (((w7.setCell ⟨w.heap.size + 1, 0, none⟩ (.slice none 0 0)).setCell ⟨w.heap.size + 1 + 1, 0, none⟩ (.slice none 0 0)).setCell ⟨w.heap.size + 1 + 1 + 1, 0, none⟩ (.int .i64 r.err)) := ⟨_, rfl⟩
  have hbd : Below w.heap.size w wd := by rw [hwd]; exact below_set (below_set (below_set hbw7 (by omega) 0 _) (by omega) 0 _) (by omega) 0 _
  have HED : Hid (r.err = 0 → ∃ fa fc cv, EdO w.heap.size w5.heap.size wd fa fc cv F' l') := Lib.hid (fun he => by
    obtain ⟨fa', fc', cv', h1, h2, h3, h4, h5, h6⟩ := k3 he
    have s1 := vG.same (by decide) 0 (.slice none 0 0)
    have s2 := v2.same (by decide) 0 (.slice none 0 0)
    have s3 := v6.same (by decide) 0 (.int .i64 r.err)
    have o1 := own_other h3 (g := w.heap.size + 1) (fun e => vG.ne h3 (by decide) e) 0 (.slice none 0 0)
    have o2 := own_other o1 (g := w.heap.size + 1 + 1) (fun e => v2.ne o1 (by decide) e) 0 (.slice none 0 0)
    have o3 := own_other o2 (g := w.heap.size + 1 + 1 + 1) (fun e => v6.ne o2 (by decide) e) 0 (.int .i64 r.err)
    refine ⟨fa', fc', cv', ?_⟩
    rw [hwd]
    exact ⟨((h1.same s1).same s2).same s3, ((h2.other (Ne.symm NG.out) 0 _).other (Ne.symm NC.out) 0 _).other (Ne.symm NS.out) 0 _, o3, h4, h5, h6⟩)
  rw [← hwd] at v7 v8 v9
  have HWD := Lib.hid hwd
  have V7 := Lib.hid v7
  have V8 := Lib.hid v8
  have V9 := Lib.hid v9
  clear hwd v1 v2 v3 v4 v5 v6 v7 v8 v9 b0 b1 b2 b3 a0 a1 a2 a3 s0 sf bf af af1 s2 sf2 k1 k2 k3 vG vC vS hbw7 hle g0 gf c0 cf
  go_wp2_with fail
  rw [← HWD.out]
  by_cases he : r.err = 0
  · obtain ⟨fa', fc', cv', hE⟩ := HED.out he
    have t9 := V9.out
    rw [he] at t9
    refine leaves_cons (f := 69) (args := #[.pointer (some ⟨w.heap.size + 1 + 1 + 1, 0, none⟩), .pointer (some ⟨w5.heap.size, 0, none⟩), .pointer (some ⟨w.heap.size + 1, 0, none⟩), .pointer (some ⟨w.heap.size + 1 + 1, 0, none⟩)]) (by simp) (by simp [go_sem]) ?_
    refine (editedEnd_ok w.heap.size w5.heap.size (w.heap.size + 1) (w.heap.size + 1 + 1) (w.heap.size + 1 + 1 + 1) fa' fc' cv' _ _ F' l' .returning wd hE V7.out V8.out t9 hbd.size (by omega) (by omega) NG.out NC.out NS.out (by omega) (by omega) (by omega)).mono ?_
    rintro e u' w8 ⟨rfl, rfl, m1, m2, m3, m4, m5, m6⟩
    obtain ⟨n1, -⟩ := m3.blk.c1
    obtain ⟨n2, -⟩ := m4.blk.c1
    obtain ⟨n3, -⟩ := m5.blk.c1
    refine ⟨.tuple #[.agg #[.slice fa' F'.length fc'], cv', .int .i64 0], by simp [results, Try.f45, go_sem, n1, n2, n3], _, _, by rw [he], ?_, ?_, hbd.trans m6⟩
    · rw [(HOK.out he).1]; exact m1
    · rw [(HOK.out he).2]; exact m2
  · refine leaves_cons (f := 69) (args := #[.pointer (some ⟨w.heap.size + 1 + 1 + 1, 0, none⟩), .pointer (some ⟨w5.heap.size, 0, none⟩), .pointer (some ⟨w.heap.size + 1, 0, none⟩), .pointer (some ⟨w.heap.size + 1 + 1, 0, none⟩)]) (by simp) (by simp [go_sem]) ?_
    refine (editedEnd_err w5.heap.size (w.heap.size + 1) (w.heap.size + 1 + 1) (w.heap.size + 1 + 1 + 1) r.err .returning wd V9.out he).mono ?_
    rintro e u' w8 ⟨rfl, rfl, rfl⟩
    obtain ⟨n1, -⟩ := V7.out.blk.c1
    obtain ⟨n2, -⟩ := V8.out.blk.c1
    obtain ⟨n3, -⟩ := V9.out.blk.c1
    refine ⟨.tuple #[.agg #[.slice none 0 0], .slice none 0 0, .int .i64 r.err], by simp [results, Try.f45, go_sem, n1, n2, n3], _, _, rfl, ?_, ?_, hbd⟩
    · rw [(HBAD.out he).1]; exact OutF.nil _ _
    · rw [(HBAD.out he).2]; exact OwnC.nil _ _
end Go.Proofs.Ytafnbpkdenjipaa.fl
