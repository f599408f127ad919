/-
  Make of package files.
-/
import Derived.Test.YtihngdpgiknkaaaFMk
import Derived.Test.YtihngdpgiknkaaaFMp
import Derived.Test.YtihngdpgiknkaaaFGa
namespace Go.Proofs.Ytihngdpgiknkaaa.fl
open Go.RowKit Go.Proofs.Ytihngdpgiknkaaa.cm

theorem makeNode_any (B E : Nat) (fa : Option Addr) (fc : Nat) (cv : Value) (F : FilP) (l : List ChgP) (x : At) (s : ByteArray) (n : NodeP) (ra : Option Addr) (rl rc : Nat) (w : World) (h : EdI B E w fa fc cv F l) (hO : OKF F) :
    Calls Try.prog 47 #[.pointer (some ⟨E, 0, none⟩), .agg #[.int .i64 x.dev, .int .i64 x.ino, .string s], .agg #[.int .i64 n.ino, .int .i64 n.kind, .int .i64 n.mode, .int .i64 n.uid, .int .i64 n.gid, .int .i64 n.parent, .string n.target, .slice ra rl rc]] w (StepR B E (pointF (mkF F x n) x s (mkT F x)) (l ++ [pointC (mkF F x n) x s (mkT F x)]) (mkE F x s n) w) := by
  by_cases hP : placesE F [(x, s)] = 0
  · obtain ⟨pn, hpn⟩ := places_node hP
    obtain ⟨j, k, d, hj, hd, -, -⟩ := node_where hpn
    obtain ⟨xd, xi⟩ := x
    obtain rfl : xd = (j : Int) := hj
    obtain ⟨vn, ev, hf⟩ := h.fil
    obtain ⟨gd, cD, hfv, -, -, -⟩ := hf.gD hd
    injection hfv with hfa hf2 hf3
    clear hf2
    subst hfa
    subst hf3
    have hT : mkT F ⟨(j : Int), xi⟩ = ⟨(j : Int), d.next⟩ := by
      unfold mkT
      rw [show devF F (⟨(j : Int), xi⟩ : At).dev = some d from devF_idx.trans hd]
    rw [hT]
    exact makeNode_ok B E j gd fc cv F l xi s n ra rl rc w d pn h hO hP hd hpn
  · exact makeNode_bad B E fa fc cv F l x s n ra rl rc w h hP _ _

set_option maxRecDepth 100000 in
set_option maxHeartbeats 400000 in
theorem makeClo_any (B E D M Y : Nat) (fa : Option Addr) (fc : Nat) (cv : Value) (F : FilP) (l : List ChgP) (x : At) (s : ByteArray) (n : NodeP) (ra : Option Addr) (rl rc : Nat) (w : World) (h : EdI B E w fa fc cv F l) (hO : OKF F) (h0 : w.cell? ⟨D, 0, none⟩ = some (.int .i64 x.dev)) (h1 : w.cell? ⟨D, 1, none⟩ = some (.int .i64 x.ino)) (h2 : w.cell? ⟨M, 0, none⟩ = some (.string s))
    (hY : TB 43 w Y (ncs n (.slice ra rl rc))) :
    Calls Try.prog 46 #[.pointer (some ⟨E, 0, none⟩), .pointer (some ⟨D, 0, none⟩), .pointer (some ⟨M, 0, none⟩), .pointer (some ⟨Y, 0, none⟩)] w (StepR B E (pointF (mkF F x n) x s (mkT F x)) (l ++ [pointC (mkF F x n) x s (mkT F x)]) (mkE F x s n) w) := by
  have CU := Lib.hid (makeNode_any B E fa fc cv F l x s n ra rl rc w h hO)
  obtain ⟨⟨y0, y1, y2, y3, y4, y5, y6, y7⟩, -⟩ := hY.blk.c8
  clear h hO hY
  go_enter Try.func46, Try.ntmps46
  go_wp2_with fail
  refine CU.out.mono ?_
  intro e w1 hp
  obtain rfl := hp.1
  have HP := Lib.hid hp
  clear hp CU
  go_wp2_with fail
  go_ret
  exact HP.out

set_option maxRecDepth 100000 in
set_option maxHeartbeats 400000 in
theorem Make_any (a : Option Addr) (cap : Nat) (F : FilP) (x : At) (s : ByteArray) (n : NodeP) (ra : Option Addr) (rl rc : Nat) (w : World) (hF : FilesAt w a F) (hO : OKF F) :
    Calls Try.prog 25 #[.agg #[.slice a F.length cap], .agg #[.int .i64 x.dev, .int .i64 x.ino], .string s, .agg #[.int .i64 n.ino, .int .i64 n.kind, .int .i64 n.mode, .int .i64 n.uid, .int .i64 n.gid, .int .i64 n.parent, .string n.target, .slice ra rl rc]] w (EditR w.heap.size (makeF F x s n) w) := by
  obtain ⟨k1, k2, k3⟩ := mk_eq hO x s n
  have hb1 : Below w.heap.size w (w.alloc (.cells #[.slice a F.length cap] 24)) := (Below.refl _ _).alloc (Nat.le_refl _) _
  have hb2 := hb1.alloc hb1.size (.cells #[.int .i64 x.dev, .int .i64 x.ino] 36)
  have hb3 := hb2.alloc hb2.size (.cells #[.string s] 9)
  have hby := hb3.alloc hb3.size (.cells #[.int .i64 n.ino, .int .i64 n.kind, .int .i64 n.mode, .int .i64 n.uid, .int .i64 n.gid, .int .i64 n.parent, .string n.target, .slice ra rl rc] 43)
  have hb4 := hby.alloc hby.size (.cells #[.slice none 0 0] 24)
  obtain ⟨w4, hw4⟩ : ∃ w4, w4 = ((((w.alloc (.cells #[.slice a F.length cap] 24)).alloc (.cells #[.int .i64 x.dev, .int .i64 x.ino] 36)).alloc (.cells #[.string s] 9)).alloc (.cells #[.int .i64 n.ino, .int .i64 n.kind, .int .i64 n.mode, .int .i64 n.uid, .int .i64 n.gid, .int .i64 n.parent, .string n.target, .slice ra rl rc] 43)).alloc (.cells #[.slice none 0 0] 24) := ⟨_, rfl⟩
  have t0 : TB 24 w4 w.heap.size [.slice a F.length cap] := by rw [hw4]; exact ((((TB.new1 w [.slice a F.length cap] _ _ rfl).alloc _).alloc _).alloc _).alloc _
  have tD : TB 36 w4 (w.heap.size + 1) [.int .i64 x.dev, .int .i64 x.ino] := by rw [hw4]; exact (((TB.new1 _ [.int .i64 x.dev, .int .i64 x.ino] _ _ (size_alloc _ _)).alloc _).alloc _).alloc _
  have tM : TB 9 w4 (w.heap.size + 1 + 1) [.string s] := by rw [hw4]; exact ((TB.new1 _ [.string s] _ _ (by rw [size_alloc, size_alloc])).alloc _).alloc _
  have tY : TB 43 w4 (w.heap.size + 1 + 1 + 1) (ncs n (.slice ra rl rc)) := by rw [hw4]; exact (TB.new1 _ (ncs n (.slice ra rl rc)) _ _ (by rw [size_alloc, size_alloc, size_alloc])).alloc _
  have tG : TB 24 w4 (w.heap.size + 1 + 1 + 1 + 1) [.slice none 0 0] := by rw [hw4]; exact TB.new1 _ [.slice none 0 0] _ _ (by rw [size_alloc, size_alloc, size_alloc, size_alloc])
  rw [← hw4] at hb4
  obtain ⟨x0, -⟩ := t0.blk.c1
  have CE := Lib.hid (edited_any 46 #[.pointer (some ⟨w.heap.size + 1, 0, none⟩), .pointer (some ⟨w.heap.size + 1 + 1, 0, none⟩), .pointer (some ⟨w.heap.size + 1 + 1 + 1, 0, none⟩)] (fun _ _ => by kernel_rfl) a cap F w4 (hF.below hb4) hO.sml (makeF F x s n) (pointF (mkF F x n) x s (mkT F x)) [pointC (mkF F x n) x s (mkT F x)]
    (fun W E fa fc hb hE hed hfil => by
      rw [k1]
      exact makeClo_any w4.heap.size E (w.heap.size + 1) (w.heap.size + 1 + 1) (w.heap.size + 1 + 1 + 1) fa fc (.slice none 0 0) F [] x s n ra rl rc W ⟨hfil, hed, OwnC.nil _ _, hO.sml, hO.srt, hO.asc, hO.low, Nat.zero_le _, hb.size, hE⟩ hO (tD.stay hb).blk.c2.1 (tD.stay hb).blk.c2.2.1 (tM.stay hb).blk.c1.1 (tY.stay hb)) k2 k3)
  have hmf : ∀ (fn : Fn) (first cap : Array Value) (w : World), (Instr.makeFunc fn first cap).run Try.prog w = .ok (.func fn first cap) w := fun _ _ _ _ => rfl
  have HW := Lib.hid hw4
  clear hw4 hb1 hb2 hb3 hby hF hO k1 k2 k3
  go_enter Try.func25, Try.ntmps25
  go_wp2_with fail
  rw [← HW.out]
  go_wp2_with fail
  refine CE.out.mono ?_
  rintro e w5 ⟨fv, cv, rfl, h1, h2, h3⟩
  obtain ⟨fa, fc, rfl⟩ : ∃ fa fc, fv = .slice fa (makeF F x s n).files.length fc := by
    obtain ⟨a, c, h, -⟩ := h1.at_
    exact ⟨a, c, h⟩
  have uG := tG.stay h3
  obtain ⟨g0, gf⟩ := uG.blk.c1
  have n0 := (TB.blk (cs := [.slice fa (makeF F x s n).files.length fc]) (uG.set 0 (.slice fa (makeF F x s n).files.length fc))).c1.1
  have HFN := Lib.hid (EditR.out hb4.size hb4 h1 h2 h3 uG (by omega))
  clear h1 h2 h3 CE
  go_wp2_with fail
  exact bodyPost_ret (v := .tuple #[.agg #[.slice fa (makeF F x s n).files.length fc], cv, .int .i64 (makeF F x s n).err]) (by simp [results, Try.f25, go_sem, n0]) rfl HFN.out
end Go.Proofs.Ytihngdpgiknkaaa.fl
