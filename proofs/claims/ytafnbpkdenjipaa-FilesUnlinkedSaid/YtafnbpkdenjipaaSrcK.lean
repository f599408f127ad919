/-
  Files stay as they are beside the source of numbers; it hands out a node of files.
  The source of numbers hands out the attributes of a node.
-/
import Derived.Test.YtafnbpkdenjipaaSrcM
import Derived.Test.YtafnbpkdenjipaaRSz
import Derived.Test.YtafnbpkdenjipaaRQc
import Derived.Test.YtafnbpkdenjipaaFGl
namespace Go.Proofs.Ytafnbpkdenjipaa.fl
open Go.RowKit Go.Proofs.Ytafnbpkdenjipaa.cm Go.Proofs.Ytafnbpkdenjipaa.sr

theorem sameT_beside {W0 w w' : World} {b : Nat} {a : Option Addr} {len cap k : Nat} (hs : SrcAt W0 w b a len cap k) (hb : Beside b w w') : SameT w w' :=
  ⟨hb.size, fun g cs T fr hg hT => hb.block g (Array.getElem?_eq_some_iff.1 hg).1 (fun e => by
    subst e
    have h1 := hs.blk
    rw [hg] at h1
    injection h1 with h1
    injection h1 with _ h2 _
    subst h2
    revert hT
    decide)⟩
theorem OutF.beside {B : Nat} {W0 w w' : World} {v : Value} {F : FilP} {b : Nat} {a : Option Addr} {len cap k : Nat} (h : OutF B w v F) (hs : SrcAt W0 w b a len cap k) (hb : Beside b w w') : OutF B w' v F := h.same (sameT_beside hs hb)
theorem TB.beside {T g b : Nat} {w w' : World} {cs : List Value} (h : TB T w g cs) (hne : g ≠ b) (hb : Beside b w w') : TB T w' g cs := h.keep (hb.block g h.lt hne)
/-- what File hands out -/
def FileB (W0 : World) (b : Nat) (a : Option Addr) (len cap k : Nat) (w : World) (e : Ending) (w' : World) : Prop :=
  ∃ (x : At) (k' : Nat), k' ≤ k + 4 ∧ e = .returned (.agg #[.int .i64 x.dev, .int .i64 x.ino]) ∧ SrcAt W0 w' b a len cap k' ∧ Beside b w w'

set_option maxRecDepth 100000 in
set_option maxHeartbeats 2000000 in
theorem file_b (W0 w : World) (b : Nat) (a : Option Addr) (len cap k : Nat) (h : SrcAt W0 w b a len cap k) (hk : k + 4 ≤ 100000) (B : Nat) (fv : Value) (F : FilP) (hF : OutF B w fv F) (hO : OKF F) :
    Calls Try.prog 15 #[.pointer (some ⟨b, 0, none⟩), .agg #[fv]] w (FileB W0 b a len cap k w) := by
  obtain ⟨vn, ev, hF⟩ := hF
  have hl1 := hO.1.1
  have hl3 := hO.1.2
  obtain ⟨gd, fc, rfl, -⟩ := hF.gD (List.getElem?_eq_getElem (show 0 < F.length by omega))
  have hbl := h.lt
  have hbs := h.own
  have hb2 : Beside b w ((w.alloc (.cells #[.slice (some ⟨gd, 0, none⟩) F.length fc] 24)).alloc (.cells #[.int .i64 0, .int .i64 0] 36)) := ((Beside.refl b w).alloc _).alloc _
  have hs2 := (h.alloc (.cells #[.slice (some ⟨gd, 0, none⟩) F.length fc] 24)).alloc (.cells #[.int .i64 0, .int .i64 0] 36)
  obtain ⟨w2, hw2⟩ : ∃ w2, w2 = (w.alloc (.cells #[.slice (some ⟨gd, 0, none⟩) F.length fc] 24)).alloc (.cells #[.int .i64 0, .int .i64 0] 36) := ⟨_, rfl⟩
  have tF : TB 24 w2 w.heap.size [.slice (some ⟨gd, 0, none⟩) F.length fc] := by rw [hw2]; exact (TB.new1 w _ _ _ rfl).alloc _
  have tR : TB 36 w2 (w.heap.size + 1) [.int .i64 0, .int .i64 0] := by rw [hw2]; exact TB.new1 _ [.int .i64 0, .int .i64 0] _ _ (size_alloc _ _)
  rw [← hw2] at hb2 hs2
  have HF := Lib.hid (fun W (hb : Beside b w W) => hF.same (sameT_beside h hb))
  have HK := Lib.hid (fun W (hb : Beside b w2 W) => And.intro (tF.beside (by omega) hb) (tR.beside (by omega) hb))
  have FIN : Hid (∀ W (d i : Int) k', k' ≤ k + 4 → SrcAt W0 W b a len cap k' → Beside b w2 W →
      W.cell? ⟨w.heap.size + 1, 0, none⟩ = some (.int .i64 0) ∧ W.cell? ⟨w.heap.size + 1, 1, none⟩ = some (.int .i64 0) ∧ W.frozen? ⟨w.heap.size + 1, 0, none⟩ = false ∧ W.frozen? ⟨w.heap.size + 1, 1, none⟩ = false ∧
      ((W.setCell ⟨w.heap.size + 1, 0, none⟩ (.int .i64 d)).setCell ⟨w.heap.size + 1, 1, none⟩ (.int .i64 i)).cell? ⟨w.heap.size + 1, 0, none⟩ = some (.int .i64 d) ∧
      ((W.setCell ⟨w.heap.size + 1, 0, none⟩ (.int .i64 d)).setCell ⟨w.heap.size + 1, 1, none⟩ (.int .i64 i)).cell? ⟨w.heap.size + 1, 1, none⟩ = some (.int .i64 i) ∧
      FileB W0 b a len cap k w (.returned (.agg #[.int .i64 d, .int .i64 i])) ((W.setCell ⟨w.heap.size + 1, 0, none⟩ (.int .i64 d)).setCell ⟨w.heap.size + 1, 1, none⟩ (.int .i64 i))) := Lib.hid (fun W d i k' hk' hs hb => by
    have t := (HK.out W hb).2
    have t2 := (t.set 0 (.int .i64 d)).set 1 (.int .i64 i)
    have t3 : TB 36 _ (w.heap.size + 1) [.int .i64 d, .int .i64 i] := t2
    have hh := t.blk.c2
    refine ⟨hh.1, hh.2.1, hh.2.2.1, hh.2.2.2, t3.blk.c2.1, t3.blk.c2.2.1, ⟨d, i⟩, k', hk', rfl, (hs.setNew (by omega) (by omega) 0 _).setNew (by omega) (by omega) 1 _, ?_⟩
    have hbw := hb2.trans hb
    exact ⟨hbw.os, hbw.tape, hbw.output, by rw [size_set, size_set]; exact hbw.size, fun g hg hne => ((Below.heap_setCell _ ⟨w.heap.size + 1, 1, none⟩ _ g (by show g ≠ w.heap.size + 1; omega)).trans (Below.heap_setCell W ⟨w.heap.size + 1, 0, none⟩ _ g (by show g ≠ w.heap.size + 1; omega))).trans (hbw.block g hg hne)⟩)
  have CN := Lib.hid (n_b W0 w2 b a len cap k F.length hs2 (by omega) (by omega) (by omega))
  have HO := Lib.hid hO
  have HB2 := Lib.hid hb2
  have HW := Lib.hid hw2
  have x0 := tF.blk.c1.1
  clear h hF hO hb2 hs2 hw2 tF tR
  go_enter Try.func15, Try.ntmps15
  go_upto_region 1 with fail
  rw [← HW.out]
  go_wp2_with fail
  refine CN.out.mono ?_
  rintro e w3 ⟨x, hx, rfl, hs3, hb3⟩
  clear x0 CN
  have x0 := (HK.out w3 hb3).1.blk.c1.1
  have CN := Lib.hid (n_b W0 w3 b a len cap (k + 1) 24 hs3 (by omega) (by omega) (by omega))
  have e0 : ((F.length : Int) == 0) = false := beq_eq_false_iff_ne.2 (by omega)
  clear hs3
  go_wp2_with fail
  refine CN.out.mono ?_
  rintro e w4 ⟨y, hy, rfl, hs4, hb4'⟩
  have hb4 : Beside b w2 w4 := hb3.trans hb4'
  clear x0 CN hb3 hb4' e0
  by_cases hz : y = 23
  · subst hz
    have CR := Lib.hid (range_b W0 w4 b a len cap (k + 1 + 1) hs4 (by omega) (-1) 4 (by omega) (by omega) (by omega) 3 (by omega))
    clear hs4
    go_wp2_with fail
    refine CR.out.mono ?_
    rintro e w5 ⟨p, -, rfl, hs5, hb5'⟩
    have hb5 : Beside b w2 w5 := hb4.trans hb5'
    have CR2 := Lib.hid (range_b W0 w5 b a len cap (k + 1 + 1 + 1) hs5 (by omega) (-1) 10 (by omega) (by omega) (by omega) 9 (by omega))
    clear hs5 CR hb4 hb5'
    go_wp2_with fail
    refine CR2.out.mono ?_
    rintro e w6 ⟨q, -, rfl, hs6, hb6'⟩
    obtain ⟨r0, r1, f0, f1, n0, n1, hfin⟩ := FIN.out w6 p q (k + 1 + 1 + 1 + 1) (by omega) hs6 (hb5.trans hb6')
    have HFN := Lib.hid hfin
    clear hs6 hb5 hb6' CR2 hfin FIN
    go_wp2_with fail
    exact bodyPost_ret (v := .agg #[.int .i64 p, .int .i64 q]) (by simp [results, Try.f15, go_sem, n0, n1]) rfl HFN.out
  · have e1 : ((y : Int) == 23) = false := beq_eq_false_iff_ne.2 (by omega)
    obtain ⟨d, hd⟩ : ∃ d, F[x]? = some d := ⟨_, List.getElem?_eq_getElem hx⟩
    have hpre := (HO.out.2 d (List.mem_of_getElem? hd)).pre
    have hl16 := hpre.few
    have hl0 : 0 < d.nodes.length := by
      obtain ⟨n, hn, -⟩ := hpre.root
      have := mem_of hn
      exact List.length_pos_of_mem this
    have h4 := HF.out w4 (HB2.out.trans hb4)
    obtain ⟨gn, cn, hvn, hgn, -⟩ := h4.gN hd (List.getElem?_eq_getElem hl0)
    have z0 : w4.cell? ⟨gd, x * 2 + 1, none⟩ = some (.slice (some ⟨gn, 0, none⟩) d.nodes.length cn) := by rw [← hvn]; exact h4.cellY hd rfl
    have x0 := (HK.out w4 hb4).1.blk.c1.1
    have hxx : (x : Int) < (F.length : Int) := by omega
    have CN := Lib.hid (n_b W0 w4 b a len cap (k + 1 + 1) d.nodes.length hs4 (by omega) (by omega) (by omega))
    have HD := Lib.hid hd
    have HGN := Lib.hid hgn
    clear hs4 hd hvn hgn h4 hpre hz
    go_wp2_with fail
    refine CN.out.mono ?_
    rintro e w5 ⟨z, hz, rfl, hs5, hb5'⟩
    have hb5 : Beside b w2 w5 := hb4.trans hb5'
    obtain ⟨n, hn⟩ : ∃ n, d.nodes[z]? = some n := ⟨_, List.getElem?_eq_getElem hz⟩
    have z1 : w5.cell? ⟨gn, z * 8, none⟩ = some (.int .i64 n.ino) := (HF.out w5 (HB2.out.trans hb5)).cellN HD.out hn HGN.out (c := 0) (by omega)
    have hzz : (z : Int) < (d.nodes.length : Int) := by omega
    obtain ⟨r0, r1, f0, f1, n0, n1, hfin⟩ := FIN.out w5 x n.ino (k + 1 + 1 + 1) (by omega) hs5 hb5
    have HFN := Lib.hid hfin
    clear hs5 hb5 hb5' hb4 CN hfin FIN x0 z0 hn
    go_wp2_with fail
    exact bodyPost_ret (v := .agg #[.int .i64 (x : Int), .int .i64 n.ino]) (by simp [results, Try.f15, go_sem, n0, n1]) rfl HFN.out
end Go.Proofs.Ytafnbpkdenjipaa.fl
namespace Go.Proofs.Ytafnbpkdenjipaa.fl
open Go.RowKit Go.Proofs.Ytafnbpkdenjipaa.cm Go.Proofs.Ytafnbpkdenjipaa.sr

theorem src_set8 {W0 w : World} {b len cap k : Nat} {a : Option Addr} (h : SrcAt W0 w b a len cap k) {c : Nat} (hc : W0.heap.size ≤ c) (hne : c ≠ b) (v0 v1 v2 v3 v4 v5 v6 v7 : Value) : SrcAt W0 ((((((((w.setCell ⟨c, 0, none⟩ (v0)).setCell ⟨c, 1, none⟩ (v1)).setCell ⟨c, 2, none⟩ (v2)).setCell ⟨c, 3, none⟩ (v3)).setCell ⟨c, 4, none⟩ (v4)).setCell ⟨c, 5, none⟩ (v5)).setCell ⟨c, 6, none⟩ (v6)).setCell ⟨c, 7, none⟩ (v7)) b a len cap k :=
  (((((((h.setNew hc hne 0 v0).setNew hc hne 1 v1).setNew hc hne 2 v2).setNew hc hne 3 v3).setNew hc hne 4 v4).setNew hc hne 5 v5).setNew hc hne 6 v6).setNew hc hne 7 v7
theorem bes_set8 {b : Nat} {w0 w : World} (h : Beside b w0 w) {c : Nat} (hc : w0.heap.size ≤ c) (v0 v1 v2 v3 v4 v5 v6 v7 : Value) : Beside b w0 ((((((((w.setCell ⟨c, 0, none⟩ (v0)).setCell ⟨c, 1, none⟩ (v1)).setCell ⟨c, 2, none⟩ (v2)).setCell ⟨c, 3, none⟩ (v3)).setCell ⟨c, 4, none⟩ (v4)).setCell ⟨c, 5, none⟩ (v5)).setCell ⟨c, 6, none⟩ (v6)).setCell ⟨c, 7, none⟩ (v7)) :=
  (((((((h.setNew hc 0 v0).setNew hc 1 v1).setNew hc 2 v2).setNew hc 3 v3).setNew hc 4 v4).setNew hc 5 v5).setNew hc 6 v6).setNew hc 7 v7
/-- what Attributes hands out -/
def AttB (W0 : World) (b : Nat) (a : Option Addr) (len cap k : Nat) (w : World) (e : Ending) (w' : World) : Prop :=
  ∃ (m : NodeP) (k' : Nat), k' ≤ k + 40 ∧ m.target.size ≤ 60 ∧ e = .returned (.agg #[.int .i64 0, .int .i64 m.kind, .int .i64 m.mode, .int .i64 m.uid, .int .i64 m.gid, .int .i64 0, .string m.target, .slice none 0 0]) ∧ SrcAt W0 w' b a len cap k' ∧ Beside b w w'

set_option maxRecDepth 100000 in
set_option maxHeartbeats 4000000 in
theorem attributes_b (W0 w : World) (b : Nat) (a : Option Addr) (len cap k : Nat) (h : SrcAt W0 w b a len cap k) (hk : k + 40 ≤ 100000) :
    Calls Try.prog 24 #[.pointer (some ⟨b, 0, none⟩)] w (AttB W0 b a len cap k w) := by
  have hbl := h.lt
  have h0w := h.old.size
  have hs0 := h.alloc (.cells #[.int .i64 0, .int .i64 0, .int .i64 0, .int .i64 0, .int .i64 0, .int .i64 0, .string ⟨#[]⟩, .slice none 0 0] 43)
  have hb0 := (Beside.refl b w).alloc (.cells #[.int .i64 0, .int .i64 0, .int .i64 0, .int .i64 0, .int .i64 0, .int .i64 0, .string ⟨#[]⟩, .slice none 0 0] 43)
  obtain ⟨w0, hw0⟩ : ∃ w0, w0 = w.alloc (.cells #[.int .i64 0, .int .i64 0, .int .i64 0, .int .i64 0, .int .i64 0, .int .i64 0, .string ⟨#[]⟩, .slice none 0 0] 43) := ⟨_, rfl⟩
  have tR : TB 43 w0 w.heap.size [.int .i64 0, .int .i64 0, .int .i64 0, .int .i64 0, .int .i64 0, .int .i64 0, .string ⟨#[]⟩, .slice none 0 0] := by rw [hw0]; exact TB.new1 w [.int .i64 0, .int .i64 0, .int .i64 0, .int .i64 0, .int .i64 0, .int .i64 0, .string ⟨#[]⟩, .slice none 0 0] _ _ rfl
  rw [← hw0] at hs0 hb0
  have HW0 := Lib.hid hw0
  have hne : w.heap.size ≠ b := by omega
  clear hw0 h
  have C1 := Lib.hid (pick_b W0 (w0.alloc (.cells #[.int .i64 1, .int .i64 1, .int .i64 2, .int .i64 2, .int .i64 3] 3)) b a len cap (k) (hs0.alloc _) (by omega) w0.heap.size (by have := hs0.lt; omega) (by simp) 5 (by omega) (by omega) 5 (fun x => x = 1 ∨ x = 2 ∨ x = 3) (fun j hj => by
    match j, hj with
    | 0, _ => exact ⟨_, by first | (simp; rfl) | simp, by decide⟩
    | 1, _ => exact ⟨_, by first | (simp; rfl) | simp, by decide⟩
    | 2, _ => exact ⟨_, by first | (simp; rfl) | simp, by decide⟩
    | 3, _ => exact ⟨_, by first | (simp; rfl) | simp, by decide⟩
    | 4, _ => exact ⟨_, by first | (simp; rfl) | simp, by decide⟩))
  go_enter Try.func24, Try.ntmps24
  go_upto_region 1 with fail
  rw [← HW0.out]
  go_wp2_with fail
  refine C1.out.mono ?_
  rintro e w1 ⟨kd, hkd, rfl, hs1, hb1⟩
  have hb01 := (hb0.alloc (.cells #[.int .i64 1, .int .i64 1, .int .i64 2, .int .i64 2, .int .i64 3] 3)).trans hb1
  have tR1 := (tR.alloc (.cells #[.int .i64 1, .int .i64 1, .int .i64 2, .int .i64 2, .int .i64 3] 3)).beside hne hb1
  have hkd : kd = 1 ∨ kd = 2 ∨ kd = 3 := hkd
  clear C1 hb1 hb0 tR hs0
  have C2 := Lib.hid (pick_b W0 (w1.alloc (.cells #[.int .i64 420, .int .i64 493, .int .i64 511, .int .i64 0, .int .i64 384, .int .i64 73] 3)) b a len cap (k + 1) (hs1.alloc _) (by omega) w1.heap.size (by have := hs1.lt; omega) (by simp) 6 (by omega) (by omega) 6 (fun _ => True) (fun j hj => by
    match j, hj with
    | 0, _ => exact ⟨_, by first | (simp; rfl) | simp, trivial⟩
    | 1, _ => exact ⟨_, by first | (simp; rfl) | simp, trivial⟩
    | 2, _ => exact ⟨_, by first | (simp; rfl) | simp, trivial⟩
    | 3, _ => exact ⟨_, by first | (simp; rfl) | simp, trivial⟩
    | 4, _ => exact ⟨_, by first | (simp; rfl) | simp, trivial⟩
    | 5, _ => exact ⟨_, by first | (simp; rfl) | simp, trivial⟩))
  go_wp2_with fail
  refine C2.out.mono ?_
  rintro e w2 ⟨md, -, rfl, hs2, hb2⟩
  have hb02 := (hb01.alloc (.cells #[.int .i64 420, .int .i64 493, .int .i64 511, .int .i64 0, .int .i64 384, .int .i64 73] 3)).trans hb2
  have tR2 := (tR1.alloc (.cells #[.int .i64 420, .int .i64 493, .int .i64 511, .int .i64 0, .int .i64 384, .int .i64 73] 3)).beside hne hb2
  clear C2 hb2 hb01 tR1 hs1
  have C3 := Lib.hid (pick_b W0 (w2.alloc (.cells #[.int .i64 0, .int .i64 0, .int .i64 5, .int .i64 7] 3)) b a len cap (k + 1 + 1) (hs2.alloc _) (by omega) w2.heap.size (by have := hs2.lt; omega) (by simp) 4 (by omega) (by omega) 4 (fun _ => True) (fun j hj => by
    match j, hj with
    | 0, _ => exact ⟨_, by first | (simp; rfl) | simp, trivial⟩
    | 1, _ => exact ⟨_, by first | (simp; rfl) | simp, trivial⟩
    | 2, _ => exact ⟨_, by first | (simp; rfl) | simp, trivial⟩
    | 3, _ => exact ⟨_, by first | (simp; rfl) | simp, trivial⟩))
  go_wp2_with fail
  refine C3.out.mono ?_
  rintro e w3 ⟨ud, -, rfl, hs3, hb3⟩
  have hb03 := (hb02.alloc (.cells #[.int .i64 0, .int .i64 0, .int .i64 5, .int .i64 7] 3)).trans hb3
  have tR3 := (tR2.alloc (.cells #[.int .i64 0, .int .i64 0, .int .i64 5, .int .i64 7] 3)).beside hne hb3
  clear C3 hb3 hb02 tR2 hs2
  have C4 := Lib.hid (pick_b W0 (w3.alloc (.cells #[.int .i64 0, .int .i64 5, .int .i64 7] 3)) b a len cap (k + 1 + 1 + 1) (hs3.alloc _) (by omega) w3.heap.size (by have := hs3.lt; omega) (by simp) 3 (by omega) (by omega) 3 (fun _ => True) (fun j hj => by
    match j, hj with
    | 0, _ => exact ⟨_, by first | (simp; rfl) | simp, trivial⟩
    | 1, _ => exact ⟨_, by first | (simp; rfl) | simp, trivial⟩
    | 2, _ => exact ⟨_, by first | (simp; rfl) | simp, trivial⟩))
  go_wp2_with fail
  refine C4.out.mono ?_
  rintro e w4 ⟨gd, -, rfl, hs4, hb4⟩
  have hb04 := (hb03.alloc (.cells #[.int .i64 0, .int .i64 5, .int .i64 7] 3)).trans hb4
  have tR4 := (tR3.alloc (.cells #[.int .i64 0, .int .i64 5, .int .i64 7] 3)).beside hne hb4
  clear C4 hb4 hb03 tR3 hs3
  have hs5 := hs4.alloc (.cells #[.int .i64 0, .int .i64 kd, .int .i64 md, .int .i64 ud, .int .i64 gd, .int .i64 0, .string ⟨#[]⟩, .slice none 0 0] 43)
  have hb05 := hb04.alloc (.cells #[.int .i64 0, .int .i64 kd, .int .i64 md, .int .i64 ud, .int .i64 gd, .int .i64 0, .string ⟨#[]⟩, .slice none 0 0] 43)
  have tR5 := tR4.alloc (.cells #[.int .i64 0, .int .i64 kd, .int .i64 md, .int .i64 ud, .int .i64 gd, .int .i64 0, .string ⟨#[]⟩, .slice none 0 0] 43)
  obtain ⟨w5, hw5⟩ : ∃ w5, w5 = w4.alloc (.cells #[.int .i64 0, .int .i64 kd, .int .i64 md, .int .i64 ud, .int .i64 gd, .int .i64 0, .string ⟨#[]⟩, .slice none 0 0] 43) := ⟨_, rfl⟩
  have tP : TB 43 w5 w4.heap.size [.int .i64 0, .int .i64 kd, .int .i64 md, .int .i64 ud, .int .i64 gd, .int .i64 0, .string ⟨#[]⟩, .slice none 0 0] := by rw [hw5]; exact TB.new1 w4 [.int .i64 0, .int .i64 kd, .int .i64 md, .int .i64 ud, .int .i64 gd, .int .i64 0, .string ⟨#[]⟩, .slice none 0 0] _ _ rfl
  rw [← hw5] at hs5 hb05 tR5
  have HW5 := Lib.hid hw5
  have hPb : w4.heap.size ≠ b := by have := hs4.lt; omega
  have hP0 : W0.heap.size ≤ w4.heap.size := hs4.old.size
  have hPw : w.heap.size ≤ w4.heap.size := hb04.size
  have hRP : w.heap.size ≠ w4.heap.size := by have := tR4.lt; omega
  have hR0 : W0.heap.size ≤ w.heap.size := h0w
  clear hw5 hs4 hb04 tR4
  go_upto_region 2 with fail
  rw [← HW5.out]
  obtain ⟨⟨-, p1, -⟩, -⟩ := tP.blk.c8
  clear HW5
  go_upto_if 19 with fail
  go_cut [] (fun W => ∃ (tt : ByteArray) (k' : Nat), tt.size ≤ 60 ∧ k' ≤ k + 19 ∧ SrcAt W0 W b a len cap k' ∧ TB 43 W w4.heap.size [.int .i64 0, .int .i64 kd, .int .i64 md, .int .i64 ud, .int .i64 gd, .int .i64 0, .string tt, .slice none 0 0] ∧ TB 43 W w.heap.size [.int .i64 0, .int .i64 0, .int .i64 0, .int .i64 0, .int .i64 0, .int .i64 0, .string ⟨#[]⟩, .slice none 0 0] ∧ Beside b w W)
  case first =>
    by_cases c : kd = 3
    · have e1 : (kd == 3) = true := by simpa using c
      have CP := Lib.hid (path_b W0 w5 b a len cap (k + 1 + 1 + 1 + 1) hs5 (by omega))
      clear c hkd
      go_wp2_with fail
      refine CP.out.mono ?_
      rintro e w6 ⟨k', hk', tt, htt, rfl, hs6, hb6⟩
      have tP6 := tP.beside hPb hb6
      have tR6 := tR5.beside hne hb6
      obtain ⟨⟨-, -, -, -, -, -, p6, -⟩, -, -, -, -, -, -, f6, -⟩ := tP6.blk.c8
      have KF := Lib.hid (And.intro (hs6.setNew hP0 hPb 6 (.string tt)) (And.intro (show TB 43 _ w4.heap.size [.int .i64 0, .int .i64 kd, .int .i64 md, .int .i64 ud, .int .i64 gd, .int .i64 0, .string tt, .slice none 0 0] from tP6.set 6 (.string tt)) (And.intro (tR6.other hRP 6 (.string tt)) ((hb05.trans hb6).setNew hPw 6 (.string tt)))))
      clear tP tR5 hb05 hs5 tP6 tR6 hs6 hb6 CP p1
      go_wp2_with fail
      go_meet
      exact ⟨tt, k', htt, by omega, KF.out⟩
    · have e1 : (kd == 3) = false := by simpa using c
      have KF := Lib.hid (And.intro hs5 (And.intro tP (And.intro tR5 hb05)))
      clear c hkd tP tR5 hb05 hs5 p1
      go_wp2_with fail
      go_meet
      exact ⟨_, k + 1 + 1 + 1 + 1, by decide, by omega, KF.out⟩
  case rest =>
    clear tP tR5 hb05 hs5 p1
    rename World => w6
    obtain ⟨tt, k6, htt, hk6, hs6, tP, tR, hb06⟩ := hcut
    have CN := Lib.hid (n_b W0 w6 b a len cap k6 20 hs6 (by omega) (by omega) (by omega))
    clear hs6
    go_wp2_with fail
    refine CN.out.mono ?_
    rintro e w7 ⟨z, hz, rfl, hs7, hb7⟩
    have tP7 := tP.beside hPb hb7
    have tR7 := tR.beside hne hb7
    have hb07 := hb06.trans hb7
    clear tP tR hb06 hb7 CN
    go_upto_if 25 with fail
    go_cut [] (fun W => ∃ (md : Int) (tt : ByteArray) (k' : Nat), tt.size ≤ 60 ∧ k' ≤ k + 40 ∧ SrcAt W0 W b a len cap k' ∧ TB 43 W w4.heap.size [.int .i64 0, .int .i64 kd, .int .i64 md, .int .i64 ud, .int .i64 gd, .int .i64 0, .string tt, .slice none 0 0] ∧ TB 43 W w.heap.size [.int .i64 0, .int .i64 0, .int .i64 0, .int .i64 0, .int .i64 0, .int .i64 0, .string ⟨#[]⟩, .slice none 0 0] ∧ Beside b w W)
    case first =>
      by_cases c : z = 19
      · subst c
        have CK := Lib.hid (pick_b W0 (w7.alloc (.cells #[.int .i64 (-1), .int .i64 512, .int .i64 420] 3)) b a len cap (k6 + 1) (hs7.alloc _) (by omega) w7.heap.size (by have := hs7.lt; omega) (by simp) 3 (by omega) (by omega) 3 (fun _ => True) (fun j hj => by
          match j, hj with
          | 0, _ => exact ⟨_, by first | (simp; rfl) | simp, trivial⟩
          | 1, _ => exact ⟨_, by first | (simp; rfl) | simp, trivial⟩
          | 2, _ => exact ⟨_, by first | (simp; rfl) | simp, trivial⟩))
        go_wp2_with fail
        refine CK.out.mono ?_
        rintro e w8 ⟨m2, -, rfl, hs8, hb8⟩
        have hb08 := (hb07.alloc (.cells #[.int .i64 (-1), .int .i64 512, .int .i64 420] 3)).trans hb8
        have tP8 := (tP7.alloc (.cells #[.int .i64 (-1), .int .i64 512, .int .i64 420] 3)).beside hPb hb8
        have tR8 := (tR7.alloc (.cells #[.int .i64 (-1), .int .i64 512, .int .i64 420] 3)).beside hne hb8
        have CP := Lib.hid (path_b W0 w8 b a len cap (k6 + 1 + 1) hs8 (by omega))
        clear CK hb8 hb07 tP7 tR7 hs7 hs8
        go_wp2_with fail
        refine CP.out.mono ?_
        rintro e w9 ⟨k', hk', t2, ht2, rfl, hs9, hb9⟩
        have tP9 := tP8.beside hPb hb9
        have tR9 := tR8.beside hne hb9
        have hb09 := hb08.trans hb9
        obtain ⟨⟨-, -, p2, -, -, -, p6, -⟩, -, -, f2, -, -, -, f6, -⟩ := tP9.blk.c8
        have KF := Lib.hid (And.intro ((hs9.setNew hP0 hPb 2 (.int .i64 m2)).setNew hP0 hPb 6 (.string t2)) (And.intro (show TB 43 _ w4.heap.size [.int .i64 0, .int .i64 kd, .int .i64 m2, .int .i64 ud, .int .i64 gd, .int .i64 0, .string t2, .slice none 0 0] from (tP9.set 2 (.int .i64 m2)).set 6 (.string t2)) (And.intro ((tR9.other hRP 2 (.int .i64 m2)).other hRP 6 (.string t2)) ((hb09.setNew hPw 2 (.int .i64 m2)).setNew hPw 6 (.string t2)))))
        clear tP8 tR8 hb08 hb9 tP9 tR9 hb09 hs9 CP
        go_wp2_with fail
        go_meet
        exact ⟨m2, t2, k', ht2, by omega, KF.out⟩
      · have e1 : ((z : Int) == 19) = false := beq_eq_false_iff_ne.2 (by omega)
        have KF := Lib.hid (And.intro hs7 (And.intro tP7 (And.intro tR7 hb07)))
        clear c tP7 tR7 hb07 hs7
        go_wp2_with fail
        go_meet
        exact ⟨md, tt, k6 + 1, htt, by omega, KF.out⟩
    case rest =>
      clear tP7 tR7 hb07 hs7
      rename World => w8
      obtain ⟨m2, t2, k8, ht2, hk8, hs8, tP, tR, hb08⟩ := hcut
      obtain ⟨⟨p0, p1, p2, p3, p4, p5, p6, p7⟩, -⟩ := tP.blk.c8
      obtain ⟨⟨r0, r1, r2, r3, r4, r5, r6, r7⟩, f0, f1, f2, f3, f4, f5, f6, f7⟩ := tR.blk.c8
      have t8 := node_cells tR (.int .i64 0) (.int .i64 kd) (.int .i64 m2) (.int .i64 ud) (.int .i64 gd) (.int .i64 0) (.string t2) (.slice none 0 0)
      obtain ⟨⟨n0, n1, n2, n3, n4, n5, n6, n7⟩, -⟩ := t8.blk.c8
      have HFN : Hid (AttB W0 b a len cap k w (.returned (.agg #[.int .i64 0, .int .i64 kd, .int .i64 m2, .int .i64 ud, .int .i64 gd, .int .i64 0, .string t2, .slice none 0 0])) ((((((((w8.setCell ⟨w.heap.size, 0, none⟩ (.int .i64 0)).setCell ⟨w.heap.size, 1, none⟩ (.int .i64 kd)).setCell ⟨w.heap.size, 2, none⟩ (.int .i64 m2)).setCell ⟨w.heap.size, 3, none⟩ (.int .i64 ud)).setCell ⟨w.heap.size, 4, none⟩ (.int .i64 gd)).setCell ⟨w.heap.size, 5, none⟩ (.int .i64 0)).setCell ⟨w.heap.size, 6, none⟩ (.string t2)).setCell ⟨w.heap.size, 7, none⟩ (.slice none 0 0))) := Lib.hid
        ⟨⟨0, kd, m2, ud, gd, 0, t2, []⟩, k8, hk8, ht2, rfl, src_set8 hs8 hR0 hne _ _ _ _ _ _ _ _, bes_set8 hb08 (Nat.le_refl _) _ _ _ _ _ _ _ _⟩
      clear tP tR t8 hs8 hb08
      go_wp2_with fail
      exact bodyPost_ret (v := .agg #[.int .i64 0, .int .i64 kd, .int .i64 m2, .int .i64 ud, .int .i64 gd, .int .i64 0, .string t2, .slice none 0 0]) (by simp [results, Try.f24, go_sem, n0, n1, n2, n3, n4, n5, n6, n7]) rfl HFN.out
end Go.Proofs.Ytafnbpkdenjipaa.fl
