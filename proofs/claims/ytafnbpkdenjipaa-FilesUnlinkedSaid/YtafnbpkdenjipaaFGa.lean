/-
  Unlink of package files.
  RemoveDir of package files.
  Link of package files.
-/
import Derived.Test.YtafnbpkdenjipaaFGq
namespace Go.Proofs.Ytafnbpkdenjipaa.fl
open Go.RowKit Go.Proofs.Ytafnbpkdenjipaa.cm

set_option maxRecDepth 100000 in
set_option maxHeartbeats 400000 in
theorem unlinkClo_any (B E D M : Nat) (fa : Option Addr) (fc : Nat) (cv : Value) (F : FilP) (l : List ChgP) (x : At) (s : ByteArray) (w : World) (h : EdI B E w fa fc cv F l) (h0 : w.cell? ⟨D, 0, none⟩ = some (.int .i64 x.dev)) (h1 : w.cell? ⟨D, 1, none⟩ = some (.int .i64 x.ino)) (h2 : w.cell? ⟨M, 0, none⟩ = some (.string s)) :
    Calls Try.prog 59 #[.pointer (some ⟨E, 0, none⟩), .pointer (some ⟨D, 0, none⟩), .pointer (some ⟨M, 0, none⟩)] w (StepR B E (pointF F x s zA) (l ++ [pointC F x s zA]) (unlE F x s) w) := by
  have CU := Lib.hid (unlink_any B E fa fc cv F l x s w h)
  clear h
  go_enter Try.func59, Try.ntmps59
  go_wp2_with fail
  refine CU.out.mono ?_
  intro e w1 hp
  obtain rfl := hp.1
  have HP := Lib.hid hp
  clear hp CU
  go_wp2_with fail
  go_ret
  exact HP.out

theorem OKF.low {F : FilP} (h : OKF F) : LowF F := fun d hd n hn => by have := ((h.2 d hd).pre.dir n hn).1; omega
/-- the answer of edited is handed on: the files lie in a variable of the caller's -/
theorem EditR.out {B : Nat} {r : ResP} {w0 w w' : World} {G : Nat} {fv cv gv : Value} (hB : B ≤ w.heap.size) (hb : Below B w0 w) (h1 : OutF w.heap.size w' fv r.files) (h2 : OwnC w.heap.size w' cv r.chg) (h3 : Below w.heap.size w w') (hG : TB 24 w' G [gv]) (hBG : B ≤ G) :
    EditR B r w0 (.returned (.tuple #[.agg #[fv], cv, .int .i64 r.err])) (w'.setCell ⟨G, 0, none⟩ fv) :=
  ⟨fv, cv, rfl, (h1.mono hB).same (hG.same (by decide) 0 fv), own_other (own_mono h2 hB) (fun e => hG.ne h2 (by decide) e) 0 fv, below_set (hb.trans (h3.mono hB)) hBG 0 fv⟩

set_option maxRecDepth 100000 in
set_option maxHeartbeats 400000 in
theorem Unlink_any (a : Option Addr) (cap : Nat) (F : FilP) (x : At) (s : ByteArray) (w : World) (hF : FilesAt w a F) (hO : OKF F) :
    Calls Try.prog 34 #[.agg #[.slice a F.length cap], .agg #[.int .i64 x.dev, .int .i64 x.ino], .string s] w (EditR w.heap.size (unlinkF F x s) w) := by
  obtain ⟨k1, k2, k3⟩ := unl_eq F x s
  have hb1 : Below w.heap.size w (w.alloc (.cells #[.slice a F.length cap] 24)) := (Below.refl _ _).alloc (Nat.le_refl _) _
  have hb2 := hb1.alloc hb1.size (.cells #[.int .i64 x.dev, .int .i64 x.ino] 36)
  have hb3 := hb2.alloc hb2.size (.cells #[.string s] 9)
  have hb4 := hb3.alloc hb3.size (.cells #[.slice none 0 0] 24)
  obtain ⟨w4, hw4⟩ : ∃ w4, w4 = (((w.alloc (.cells #[.slice a F.length cap] 24)).alloc (.cells #[.int .i64 x.dev, .int .i64 x.ino] 36)).alloc (.cells #[.string s] 9)).alloc (.cells #[.slice none 0 0] 24) := ⟨_, rfl⟩
  have t0 : TB 24 w4 w.heap.size [.slice a F.length cap] := by rw [hw4]; exact (((TB.new1 w [.slice a F.length cap] _ _ rfl).alloc _).alloc _).alloc _
  have tD : TB 36 w4 (w.heap.size + 1) [.int .i64 x.dev, .int .i64 x.ino] := by rw [hw4]; exact ((TB.new1 _ [.int .i64 x.dev, .int .i64 x.ino] _ _ (size_alloc _ _)).alloc _).alloc _
  have tM : TB 9 w4 (w.heap.size + 1 + 1) [.string s] := by rw [hw4]; exact (TB.new1 _ [.string s] _ _ (by rw [size_alloc, size_alloc])).alloc _
  have tG : TB 24 w4 (w.heap.size + 1 + 1 + 1) [.slice none 0 0] := by rw [hw4]; exact TB.new1 _ [.slice none 0 0] _ _ (by rw [size_alloc, size_alloc, size_alloc])
  rw [← hw4] at hb4
  obtain ⟨x0, -⟩ := t0.blk.c1
  have CE := Lib.hid (edited_any 59 #[.pointer (some ⟨w.heap.size + 1, 0, none⟩), .pointer (some ⟨w.heap.size + 1 + 1, 0, none⟩)] (fun _ _ => by kernel_rfl) a cap F w4 (hF.below hb4) hO.sml (unlinkF F x s) (pointF F x s zA) [pointC F x s zA]
    (fun W E fa fc hb hE hed hfil => by
      rw [k1]
      exact unlinkClo_any w4.heap.size E (w.heap.size + 1) (w.heap.size + 1 + 1) fa fc (.slice none 0 0) F [] x s W ⟨hfil, hed, OwnC.nil _ _, hO.sml, hO.srt, hO.asc, hO.low, Nat.zero_le _, hb.size, hE⟩ (tD.stay hb).blk.c2.1 (tD.stay hb).blk.c2.2.1 (tM.stay hb).blk.c1.1) k2 k3)
  have hmf : ∀ (fn : Fn) (first cap : Array Value) (w : World), (Instr.makeFunc fn first cap).run Try.prog w = .ok (.func fn first cap) w := fun _ _ _ _ => rfl
  have HW := Lib.hid hw4
  clear hw4 hb1 hb2 hb3 hF hO k1 k2 k3
  go_enter Try.func34, Try.ntmps34
  go_wp2_with fail
  rw [← HW.out]
  go_wp2_with fail
  refine CE.out.mono ?_
  rintro e w5 ⟨fv, cv, rfl, h1, h2, h3⟩
  obtain ⟨fa, fc, rfl⟩ : ∃ fa fc, fv = .slice fa (unlinkF F x s).files.length fc := by
    obtain ⟨a, c, h, -⟩ := h1.at_
    exact ⟨a, c, h⟩
  have uG := tG.stay h3
  obtain ⟨g0, gf⟩ := uG.blk.c1
  have n0 := (TB.blk (cs := [.slice fa (unlinkF F x s).files.length fc]) (uG.set 0 (.slice fa (unlinkF F x s).files.length fc))).c1.1
  have HFN := Lib.hid (EditR.out hb4.size hb4 h1 h2 h3 uG (by omega))
  clear h1 h2 h3 CE
  go_wp2_with fail
  exact bodyPost_ret (v := .tuple #[.agg #[.slice fa (unlinkF F x s).files.length fc], cv, .int .i64 (unlinkF F x s).err]) (by simp [results, Try.f34, go_sem, n0]) rfl HFN.out
end Go.Proofs.Ytafnbpkdenjipaa.fl
namespace Go.Proofs.Ytafnbpkdenjipaa.fl
open Go.RowKit Go.Proofs.Ytafnbpkdenjipaa.cm

end Go.Proofs.Ytafnbpkdenjipaa.fl
namespace Go.Proofs.Ytafnbpkdenjipaa.fl
open Go.RowKit Go.Proofs.Ytafnbpkdenjipaa.cm

set_option maxRecDepth 100000 in
set_option maxHeartbeats 400000 in
theorem linkClo_any (B E D M Y : Nat) (fa : Option Addr) (fc : Nat) (cv : Value) (F : FilP) (l : List ChgP) (x : At) (s : ByteArray) (y : At) (w : World) (h : EdI B E w fa fc cv F l) (hz : nodeF F zA = none) (h0 : w.cell? ⟨D, 0, none⟩ = some (.int .i64 x.dev)) (h1 : w.cell? ⟨D, 1, none⟩ = some (.int .i64 x.ino)) (h2 : w.cell? ⟨M, 0, none⟩ = some (.string s))
    (h3 : w.cell? ⟨Y, 0, none⟩ = some (.int .i64 y.dev)) (h4 : w.cell? ⟨Y, 1, none⟩ = some (.int .i64 y.ino)) :
    Calls Try.prog 55 #[.pointer (some ⟨E, 0, none⟩), .pointer (some ⟨D, 0, none⟩), .pointer (some ⟨M, 0, none⟩), .pointer (some ⟨Y, 0, none⟩)] w (StepR B E (pointF F x s y) (l ++ [pointC F x s y]) (lnkE F x s y) w) := by
  have CU := Lib.hid (link_any B E fa fc cv F l x s y w h hz)
  clear h hz
  go_enter Try.func55, Try.ntmps55
  go_wp2_with fail
  refine CU.out.mono ?_
  intro e w1 hp
  obtain rfl := hp.1
  have HP := Lib.hid hp
  clear hp CU
  go_wp2_with fail
  go_ret
  exact HP.out

set_option maxRecDepth 100000 in
set_option maxHeartbeats 400000 in
theorem Link_any (a : Option Addr) (cap : Nat) (F : FilP) (x : At) (s : ByteArray) (y : At) (w : World) (hF : FilesAt w a F) (hO : OKF F) :
    Calls Try.prog 28 #[.agg #[.slice a F.length cap], .agg #[.int .i64 x.dev, .int .i64 x.ino], .string s, .agg #[.int .i64 y.dev, .int .i64 y.ino]] w (EditR w.heap.size (linkF F x s y) w) := by
  obtain ⟨k1, k2, k3⟩ := lnk_eq hO x s y
  have hb1 : Below w.heap.size w (w.alloc (.cells #[.slice a F.length cap] 24)) := (Below.refl _ _).alloc (Nat.le_refl _) _
  have hb2 := hb1.alloc hb1.size (.cells #[.int .i64 x.dev, .int .i64 x.ino] 36)
  have hb3 := hb2.alloc hb2.size (.cells #[.string s] 9)
  have hby := hb3.alloc hb3.size (.cells #[.int .i64 y.dev, .int .i64 y.ino] 36)
  have hb4 := hby.alloc hby.size (.cells #[.slice none 0 0] 24)
  obtain ⟨w4, hw4⟩ : ∃ w4, w4 = ((((w.alloc (.cells #[.slice a F.length cap] 24)).alloc (.cells #[.int .i64 x.dev, .int .i64 x.ino] 36)).alloc (.cells #[.string s] 9)).alloc (.cells #[.int .i64 y.dev, .int .i64 y.ino] 36)).alloc (.cells #[.slice none 0 0] 24) := ⟨_, rfl⟩
  have t0 : TB 24 w4 w.heap.size [.slice a F.length cap] := by rw [hw4]; exact ((((TB.new1 w [.slice a F.length cap] _ _ rfl).alloc _).alloc _).alloc _).alloc _
  have tD : TB 36 w4 (w.heap.size + 1) [.int .i64 x.dev, .int .i64 x.ino] := by rw [hw4]; exact (((TB.new1 _ [.int .i64 x.dev, .int .i64 x.ino] _ _ (size_alloc _ _)).alloc _).alloc _).alloc _
  have tM : TB 9 w4 (w.heap.size + 1 + 1) [.string s] := by rw [hw4]; exact ((TB.new1 _ [.string s] _ _ (by rw [size_alloc, size_alloc])).alloc _).alloc _
  have tY : TB 36 w4 (w.heap.size + 1 + 1 + 1) [.int .i64 y.dev, .int .i64 y.ino] := by rw [hw4]; exact (TB.new1 _ [.int .i64 y.dev, .int .i64 y.ino] _ _ (by rw [size_alloc, size_alloc, size_alloc])).alloc _
  have tG : TB 24 w4 (w.heap.size + 1 + 1 + 1 + 1) [.slice none 0 0] := by rw [hw4]; exact TB.new1 _ [.slice none 0 0] _ _ (by rw [size_alloc, size_alloc, size_alloc, size_alloc])
  rw [← hw4] at hb4
  obtain ⟨x0, -⟩ := t0.blk.c1
  have CE := Lib.hid (edited_any 55 #[.pointer (some ⟨w.heap.size + 1, 0, none⟩), .pointer (some ⟨w.heap.size + 1 + 1, 0, none⟩), .pointer (some ⟨w.heap.size + 1 + 1 + 1, 0, none⟩)] (fun _ _ => by kernel_rfl) a cap F w4 (hF.below hb4) hO.sml (linkF F x s y) (pointF F x s y) [pointC F x s y]
    (fun W E fa fc hb hE hed hfil => by
      rw [k1]
      exact linkClo_any w4.heap.size E (w.heap.size + 1) (w.heap.size + 1 + 1) (w.heap.size + 1 + 1 + 1) fa fc (.slice none 0 0) F [] x s y W ⟨hfil, hed, OwnC.nil _ _, hO.sml, hO.srt, hO.asc, hO.low, Nat.zero_le _, hb.size, hE⟩ hO.zero (tD.stay hb).blk.c2.1 (tD.stay hb).blk.c2.2.1 (tM.stay hb).blk.c1.1 (tY.stay hb).blk.c2.1 (tY.stay hb).blk.c2.2.1) k2 k3)
  have hmf : ∀ (fn : Fn) (first cap : Array Value) (w : World), (Instr.makeFunc fn first cap).run Try.prog w = .ok (.func fn first cap) w := fun _ _ _ _ => rfl
  have HW := Lib.hid hw4
  clear hw4 hb1 hb2 hb3 hby hF hO k1 k2 k3
  go_enter Try.func28, Try.ntmps28
  go_wp2_with fail
  rw [← HW.out]
  go_wp2_with fail
  refine CE.out.mono ?_
  rintro e w5 ⟨fv, cv, rfl, h1, h2, h3⟩
  obtain ⟨fa, fc, rfl⟩ : ∃ fa fc, fv = .slice fa (linkF F x s y).files.length fc := by
    obtain ⟨a, c, h, -⟩ := h1.at_
    exact ⟨a, c, h⟩
  have uG := tG.stay h3
  obtain ⟨g0, gf⟩ := uG.blk.c1
  have n0 := (TB.blk (cs := [.slice fa (linkF F x s y).files.length fc]) (uG.set 0 (.slice fa (linkF F x s y).files.length fc))).c1.1
  have HFN := Lib.hid (EditR.out hb4.size hb4 h1 h2 h3 uG (by omega))
  clear h1 h2 h3 CE
  go_wp2_with fail
  exact bodyPost_ret (v := .tuple #[.agg #[.slice fa (linkF F x s y).files.length fc], cv, .int .i64 (linkF F x s y).err]) (by simp [results, Try.f28, go_sem, n0]) rfl HFN.out
end Go.Proofs.Ytafnbpkdenjipaa.fl
