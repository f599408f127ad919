/-
  point of package files: the walk.
-/
import Derived.Test.YtafnbpkdenjipaaFPt
import Derived.Deep.DeepCutAuto
namespace Go.Proofs.Ytafnbpkdenjipaa.fl
open Go.RowKit Go.Proofs.Ytafnbpkdenjipaa.cm

/-- what point leaves -/
def PointR (B E : Nat) (fa : Option Addr) (fc : Nat) (F : FilP) (l : List ChgP) (x : At) (s : ByteArray) (tg : At) (w : World) (e : Ending) (w' : World) : Prop :=
  e = .returned (.tuple #[]) ∧ ∃ cv', TB 100 w' E [.slice fa F.length fc, cv'] ∧ OutF B w' (.slice fa F.length fc) (pointF F x s tg) ∧ OwnC B w' cv' (l ++ [pointC F x s tg]) ∧ SameB E w w' ∧ Below B w w'

/-- the end of point -/
theorem MidP.done {B E C : Nat} {w0 wx wA : World} {fa : Option Addr} {fc : Nat} {cv cv' : Value} {F : FilP} {vn : Nat → Value} {ev : Nat → Nat → Value} {j : Nat} {d : DevP} {k : Nat} {n : NodeP} {l : List ChgP} {x : At} {s : ByteArray} {tg : At} {es : List EntP} {old : At}
    (h : MidP B E C w0 wx (.slice fa F.length fc) cv F vn ev j d k n l x s tg es old) (hB : B ≤ wx.heap.size) (hBE : B ≤ E) (o : Obj) (hg : (wx.alloc o).drew.grownBy wA cv.ownBlock) (ho : wA.ownsRow B 66 7 cv' (l.length + 1) (crow l ++ ccs ⟨x, s, old, tg⟩))
    (hF : F.set j (setN d k { n with ents := es }) = pointF F x s tg) (hold : old = (atF F x s).getD zA) : PointR B E fa fc F l x s tg w0 (.returned (.tuple #[])) (wA.setCell ⟨E, 1, none⟩ cv') := by
  have hbA : Below wx.heap.size wx (wx.alloc o).drew := ((Below.refl _ _).alloc (Nat.le_refl _) _).drew
  have h2 := h.stay hbA hB
  have sT : SameT (wx.alloc o).drew wA := SameT.grown hg fun C' hC' => by
    obtain ⟨c, fz, h1⟩ := Lib.ownsRow_kind h2.own C' hC'
    exact ⟨c, _, fz, h1, by decide⟩
  have hed : TB 100 wA E [.slice fa F.length fc, cv] := h2.ed.grown h2.own (by decide) hg
  refine ⟨rfl, cv', hed.set 1 cv', ?_, ?_, ?_, ?_⟩
  · rw [← hF]
    exact ⟨_, _, (h2.fil.same sT).same (hed.same (by decide) 1 cv')⟩
  · unfold OwnC
    rw [List.length_append, crow_app]
    have : crow [pointC F x s tg] = ccs ⟨x, s, old, tg⟩ := by unfold pointC; rw [hold]; simp [crow]
    rw [this]
    exact own_other ho (fun e => hed.ne ho (by decide) e) 1 cv'
  · exact (h2.same.trans (.grown h2.own (.inr (.inr (.inr rfl))) hg)).trans (.setE _ 1 cv')
  · exact below_set (h2.bel.trans ((Below.refl B _).grown hg (Nat.le_trans hB hbA.size) (fun g hg' => (own_lt h2.own hg').1))) hBE 1 cv'

theorem own_isS {B T size n : Nat} {w : World} {v : Value} {xs : List Value} (h : w.ownsRow B T size v n xs) : ∃ a c, v = .slice a n c := by
  obtain ⟨a, c, h, -⟩ := own_slice h
  exact ⟨a, c, h⟩

set_option maxRecDepth 100000 in
set_option maxHeartbeats 4000000 in
theorem point_any (B E : Nat) (fa : Option Addr) (fc : Nat) (cv : Value) (F : FilP) (l : List ChgP) (x : At) (s : ByteArray) (tg : At) (w : World) (vn : Nat → Value) (ev : Nat → Nat → Value) (n : NodeP)
    (h : FilesO B w (.slice fa F.length fc) F vn ev) (hE : TB 100 w E [.slice fa F.length fc, cv]) (hC : OwnC B w cv l) (hS : Sml F) (hO : SrtF F) (hA : AscF F) (hx : nodeF F x = some n) (hl : l.length ≤ 1000) (hB : B ≤ w.heap.size) (hBE : B ≤ E) (hne : tg = zA → (findE n.ents s).isSome = true) :
    Calls Try.prog 75 #[.pointer (some ⟨E, 0, none⟩), .agg #[.int .i64 x.dev, .int .i64 x.ino, .string s], .agg #[.int .i64 tg.dev, .int .i64 tg.ino]] w (PointR B E fa fc F l x s tg w) := by
  have hb1 : Below w.heap.size w (w.alloc (.cells #[.int .i64 x.dev, .int .i64 x.ino, .string s] 82)) := (Below.refl _ _).alloc (Nat.le_refl _) _
  have hb2 := hb1.alloc hb1.size (.cells #[.int .i64 tg.dev, .int .i64 tg.ino] 36)
  have bP := (TB.new1 w [.int .i64 x.dev, .int .i64 x.ino, .string s] 82 w.heap.size rfl).alloc (.cells #[.int .i64 tg.dev, .int .i64 tg.ino] 36)
  have bT := TB.new1 (w.alloc (.cells #[.int .i64 x.dev, .int .i64 x.ino, .string s] 82)) [.int .i64 tg.dev, .int .i64 tg.ino] 36 (w.heap.size + 1) (size_alloc _ _)
  have bE := hE.stay hb2
  obtain ⟨j, k, d, hj, hd, hi, hk⟩ := node_where hx
  have hm : d ∈ F := List.mem_of_getElem? hd
  have hmn : n ∈ d.nodes := List.mem_of_getElem? hk
  have hso := hO d hm n hmn
  have hsm := hS.ents d hm n hmn
  obtain ⟨g, cg, -, hgn, -, -⟩ := h.gN hd hk
  obtain ⟨va, cva, hev, hcv, -, -⟩ := (h.ents j d k n hd hk).at_
  have hat := atF_some (s := s) hx
  have hset := fun f => setN_on (n := n) hA hj hd hi hk f
  have hq := (h.stay hb2).cellN hd hk hgn (c := 7) (by omega)
  have HF := Lib.hid (h.stay hb2)
  have CN := Lib.hid (fun W (hw : Below w.heap.size w W) => nodeAtO_some B fa fc F x W vn ev (h.stay hw) hS hj hd hi hgn)
  obtain ⟨q0, q1, q2, -⟩ := bP.blk.c3
  obtain ⟨r0, r1, -⟩ := bE.blk.c2
  have hEl := bE.lt
  have hPl := bP.lt
  have hb2d := hb2.drew
  have HO := Lib.hid hso
  obtain ⟨i0, hi0, hz0, hz1, hz2⟩ := info_parts infoC
  obtain ⟨co, cc, rfl⟩ : ∃ co cc, cv = .slice co l.length cc := by
    obtain ⟨a, c, h, -⟩ := own_slice hC
    exact ⟨a, c, h⟩
  have HAT := Lib.hid hat
  have HSET := Lib.hid hset
  have HEV := Lib.hid hev
  have hq : ((w.alloc (.cells #[.int .i64 x.dev, .int .i64 x.ino, .string s] 82)).alloc (.cells #[.int .i64 tg.dev, .int .i64 tg.ino] 36)).cell? ⟨g, k * 8 + 7, none⟩ = some (.slice va n.ents.length cva) := by
    rw [hq, ← hev]; rfl
  have hgl : g < ((w.alloc (.cells #[.int .i64 x.dev, .int .i64 x.ino, .string s] 82)).alloc (.cells #[.int .i64 tg.dev, .int .i64 tg.ino] 36)).heap.size := World.block_lt_of_cell? _ _ hq
  clear h hS hO hA hx hso hat hset hev hj hi
  obtain ⟨w2, hw2⟩ : ∃ w2, w2 = (w.alloc (.cells #[.int .i64 x.dev, .int .i64 x.ino, .string s] 82)).alloc (.cells #[.int .i64 tg.dev, .int .i64 tg.ino] 36) := ⟨_, rfl⟩
  rw [← hw2] at bP bT bE HF q0 q1 q2 r0 r1 hEl hPl hb2 hb2d hq hgl
  have HW2 := Lib.hid hw2
  go_enter Try.func75, Try.ntmps75
  go_wp2_with fail
  rw [← HW2.out]
  clear HW2 hw2
  go_region_held3 (fun W => W.cell? ⟨w.heap.size, 0, none⟩ = some (.int .i64 x.dev) ∧ W.cell? ⟨w.heap.size, 1, none⟩ = some (.int .i64 x.ino) ∧ W.cell? ⟨E, 0, none⟩ = some (.slice fa F.length fc))
    (first
      | go_keep
      | (with_reducible exact ⟨(hb3.cell (p := ⟨w.heap.size, 0, none⟩) hPl).trans q0, (hb3.cell (p := ⟨w.heap.size, 1, none⟩) hPl).trans q1, (hb3.cell (p := ⟨E, 0, none⟩) hEl).trans r0⟩))
    ((go_at_call 39; (with_reducible refine (CN.out _ hb2d).mono ?_); rintro e w1 ⟨rfl, hb30⟩; have hb3 : Below w2.heap.size w2 w1 := (Below.refl w2.heap.size w2).drew.trans hb30))
  have hb4 := hb2.trans (hb3.mono hb2.size)
  obtain ⟨wC, hwC⟩ : ∃ wC, wC = w1.alloc (.cells #[.int .i64 x.dev, .int .i64 x.ino, .string s, .int .i64 0, .int .i64 0, .int .i64 tg.dev, .int .i64 tg.ino] 66) := ⟨_, rfl⟩
  have hbC : Below w1.heap.size w1 wC := by rw [hwC]; exact (Below.refl _ _).alloc (Nat.le_refl _) _
  have hb5 := hb4.trans (hbC.mono hb4.size)
  have hb35 := hb3.trans (hbC.mono hb3.size)
  have pC := bP.stay hb35
  have tC := bT.stay hb35
  have eC := bE.stay hb35
  have cC : TB 66 wC w1.heap.size [.int .i64 x.dev, .int .i64 x.ino, .string s, .int .i64 0, .int .i64 0, .int .i64 tg.dev, .int .i64 tg.ino] := by rw [hwC]; exact TB.new1 w1 _ _ _ rfl
  have FC := Lib.hid (HF.out.stay hb35)
  have n7 := (hb35.cell (p := ⟨g, k * 8 + 7, none⟩) hgl).trans hq
  have hglC : g < wC.heap.size := Nat.lt_of_lt_of_le hgl hb35.size
  have p1 := bP.stay hb3
  have t1 := bT.stay hb3
  obtain ⟨p10, p11, p12, -⟩ := p1.blk.c3
  obtain ⟨t10, t11, -⟩ := t1.blk.c2
  have HOWN := Lib.hid (FC.out.ents j d k n hd hk)
  have CE := Lib.hid (fun W (hw : Below wC.heap.size wC W) => entryOf_any va cva n.ents s W (by
    have hoW : OwnE B W (ev j k) n.ents := own_keep HOWN.out (w' := W) (fun g' hg' => hw.block g' (own_lt HOWN.out hg').2)
    obtain ⟨a', c', hv, -, -, hE'⟩ := hoW.at_
    rw [HEV.out] at hv
    injection hv with hv _ _
    subst hv
    exact hE') hsm HO.out)
  clear q0 q1 q2 r0 r1 hq hb2d hb3 bP bT bE HF hgl CN hb1 hEl hPl hb35 hbC p1 t1
  obtain ⟨c0, c1, c2, c3, c4, c5, c6⟩ := cC.blk.c7.1
  obtain ⟨-, -, p2, -⟩ := pC.blk.c3
  have hPl := pC.lt
  have hbCd := (Below.refl wC.heap.size wC).drew
  have HWC := Lib.hid hwC
  clear hwC
  go_wp2_with fail
  rw [← HWC.out]
  clear HWC p10 p11 p12 t10 t11
  go_region_held3 (fun W => W.cell? ⟨w.heap.size, 2, none⟩ = some (.string s) ∧ W.cell? ⟨g, k * 8 + 7, none⟩ = some (.slice va n.ents.length cva))
    (first
      | go_keep
      | (with_reducible exact ⟨(hb6.cell (p := ⟨w.heap.size, 2, none⟩) hPl).trans p2, (hb6.cell (p := ⟨g, k * 8 + 7, none⟩) hglC).trans n7⟩))
    ((go_at_call 67; (with_reducible refine (CE.out _ hbCd).mono ?_); rintro e wE ⟨rfl, hb60⟩; have hb6 : Below wC.heap.size wC wE := (Below.refl wC.heap.size wC).drew.trans hb60))
  have hb7 := hb5.trans (hb6.mono hb5.size)
  have hws : w.heap.size ≤ w1.heap.size := by have := hb4.size; omega
  have MC : Hid (MidP B E w1.heap.size w wE (.slice fa F.length fc) (.slice co l.length cc) F vn ev j d k n l x s tg n.ents zA) := Lib.hid (by
    refine ⟨?_, eC.stay hb6, pC.stay hb6, tC.stay hb6, cC.stay hb6, fun e => ?_, hws, own_keep hC fun g' hg' => hb7.block g' (own_lt hC hg').2, .of_below hb7, hb7.mono hB⟩
    · have e : F.set j (setN d k { n with ents := n.ents }) = F := by
        have e1 : setN d k { n with ents := n.ents } = d := by
          unfold setN
          have : ({ n with ents := n.ents } : NodeP) = n := rfl
          rw [this]
          obtain ⟨hkl, hke⟩ := List.getElem?_eq_some_iff.1 hk
          rw [← hke, List.set_getElem_self]
        rw [e1]
        obtain ⟨hjl, hje⟩ := List.getElem?_eq_some_iff.1 hd
        rw [← hje, List.set_getElem_self]
      rw [e]
      exact FC.out.stay hb6
    · have := (own_lt hC e).2
      omega)
  have hEC : E ≠ w1.heap.size := by have := hE.lt; omega
  have HBE : Hid (B ≤ wE.heap.size) := Lib.hid (by have := hb7.size; omega)
  have HPOS := Lib.hid (pos_le n.ents s)
  have HPF := Lib.hid (fun i h => pos_find HO.out (s := s) (i := i) h)
  clear c0 c1 c2 c3 c4 c5 c6 p2 n7 hPl hbCd hb6 pC tC eC cC FC HOWN CE hglC hb5 hb4 hb7 hE hC hb30 hb60
  cases hh : hasE n.ents s with
  | true =>
    obtain ⟨i, hfi⟩ : ∃ i, findE n.ents s = some i := by
      unfold hasE at hh
      cases hf : findE n.ents s with
      | none => rw [hf] at hh; cases hh
      | some i => exact ⟨i, rfl⟩
    obtain ⟨en, hen, -, hei, hpl⟩ := HPF.out i hfi
    obtain ⟨ge, rfl, hge⟩ : ∃ ge, va = some ⟨ge, 0, none⟩ ∧ (ev j k).ownBlock = some ge := by
      obtain ⟨a', c', h1, _, h2, h3⟩ := own_slice (MC.out.fil.ents j _ k _ (setN_at hd _) (setN_node hk _))
      rw [HEV.out] at h1
      injection h1 with h1 _ _
      cases ha : va with
      | none => rw [ha] at h1; have := (h2 h1.symm).2; simp at this; rw [this] at hpl; simp at hpl
      | some p => rw [ha] at h1; obtain ⟨g', h4, h5, -⟩ := h3 p h1.symm; exact ⟨g', by rw [h4], h5⟩
    have hE7 : wE.cell? ⟨g, k * 8 + 7, none⟩ = some (.slice (some ⟨ge, 0, none⟩) n.ents.length cva) := by
      rw [MC.out.fil.cellN (setN_at hd _) (setN_node hk _) hgn (by omega), ← HEV.out]; rfl
    have hEn : wE.cell? ⟨ge, posE n.ents s * 2 + 1, none⟩ = some (.int .i64 i) := by
      have := own_cell (MC.out.fil.ents j _ k _ (setN_at hd _) (setN_node hk _)) HEV.out (j := posE n.ents s * 2 + 1) (by simp; omega)
      rw [this, erow_at n.ents _ en hen 1 (by omega), ← hei]; rfl
    have HFI := Lib.hid hfi
    have hpl' : (posE n.ents s : Int) < (n.ents.length : Int) := by omega
    have M1 : Hid _ := Lib.hid (MC.out.note hB hEC ⟨x.dev, i⟩)
    obtain ⟨p0, p1, p2, -⟩ := MC.out.pl.blk.c3
    obtain ⟨-, f0, f1, f2, f3, f4, f5, f6⟩ := MC.out.ch.blk.c7
    obtain ⟨⟨c0, c1, c2, c3, c4, c5, c6⟩, -⟩ := MC.out.ch.blk.c7
    clear hh hen hei hfi
    obtain ⟨wN, hwN⟩ : ∃ wN, wN = ((wE.setCell ⟨w1.heap.size, 3, none⟩ (.int .i64 x.dev)).setCell ⟨w1.heap.size, 4, none⟩ (.int .i64 i)).drew := ⟨_, rfl⟩
    have HBN : Hid (B ≤ wN.heap.size) := Lib.hid (by rw [hwN]; exact Nat.le_trans HBE.out (by show _ ≤ ((wE.setCell ⟨w1.heap.size, 3, none⟩ (.int .i64 x.dev)).setCell ⟨w1.heap.size, 4, none⟩ (.int .i64 i)).heap.size; rw [size_set, size_set]; exact Nat.le_refl _))
    have M2 : Hid (MidP B E w1.heap.size w wN (.slice fa F.length fc) (.slice co l.length cc) F vn ev j d k n l x s tg n.ents ⟨x.dev, i⟩) := Lib.hid (by
      rw [hwN]; exact M1.out.drew (by rw [size_set, size_set]; exact HBE.out))
    have hrow := M2.out.row hd hk
    rw [HEV.out] at hrow
    have CD := Lib.hid (deleteE_any B wN ge cva n.ents.length (posE n.ents s) (erow n.ents) hrow hpl hsm (erow_one _))
    have HER := Lib.hid (erow_rem HO.out HFI.out)
    have HWN := Lib.hid hwN
    clear hwN hrow M1
    go_wp2_with fail
    go_region
    go_wp2_with fail
    rw [← HWN.out]
    refine CD.out.mono ?_
    rintro e wD ⟨rfl, hown, hgrow⟩
    rw [HER.out.1] at hown
    have hgr : wN.grownBy wD (ev j k).ownBlock := by rw [hge]; exact hgrow
    obtain ⟨s7, f7⟩ := M2.out.cell7 hd hk hgr hgn
    have M3 : Hid (MidP B E w1.heap.size w (wD.setCell ⟨g, k * 8 + 7, none⟩ (.slice (some ⟨ge, 0, none⟩) (n.ents.length - 1) cva)) (.slice fa F.length fc) (.slice co l.length cc) F vn (updE ev j k (.slice (some ⟨ge, 0, none⟩) (n.ents.length - 1) cva)) j d k n l x s tg (remE n.ents s) ⟨x.dev, i⟩) := Lib.hid
      (M2.out.step hd hk HBN.out hgr (by unfold OwnE; rw [HER.out.2]; exact hown) (fun g' hg' => .inl (by rw [hge]; exact hg')) hgn)
    rw [HEV.out] at s7
    have hsz := hgrow.size
    have HBD : Hid (B ≤ (wD.setCell ⟨g, k * 8 + 7, none⟩ (.slice (some ⟨ge, 0, none⟩) (n.ents.length - 1) cva)).heap.size) := Lib.hid (by rw [size_set]; exact Nat.le_trans HBN.out hsz)
    clear hown hgrow hgr CD M2 p0 p1 p2 f0 f1 f2 f3 f4 f5 f6 c0 c1 c2 c3 c4 c5 c6 hE7 hEn HWN
    obtain ⟨t0, t1, -⟩ := M3.out.tt.blk.c2
    obtain ⟨wR, hwR⟩ : ∃ wR, wR = wD.setCell ⟨g, k * 8 + 7, none⟩ (.slice (some ⟨ge, 0, none⟩) (n.ents.length - 1) cva) := ⟨_, rfl⟩
    rw [← hwR] at M3 HBD t0 t1
    have HWR := Lib.hid hwR
    clear hwR
    go_upto_region 7 with fail
    rw [← HWR.out]
    clear HWR s7 f7
    by_cases hz : tg = zA
    · subst hz
      have NF := fun W => neq_file zA.dev zA.ino 0 0 W
      have HPF1 : Hid (F.set j (setN d k { n with ents := remE n.ents s }) = pointF F x s zA) := Lib.hid (by
        unfold pointF
        rw [if_pos rfl]
        exact HSET.out (remF s))
      have HOLD : Hid ((⟨x.dev, i⟩ : At) = (atF F x s).getD zA) := Lib.hid (by rw [HAT.out, HFI.out]; rfl)
      obtain ⟨u0, u1, uf0, uf1⟩ := M3.out.ed.blk.c2
      obtain ⟨⟨v0, v1, v2, v3, v4, v5, v6⟩, -⟩ := M3.out.ch.blk.c7
      have hownC : wR.ownsRow B 66 7 (.slice co l.length cc) l.length (crow l) := M3.out.own
      have HDN := Lib.hid (fun wA cv' h1 h2 => MidP.done (wA := wA) (cv' := cv') M3.out HBD.out hBE (.cells #[.int .i64 x.dev, .int .i64 x.ino, .string s, .int .i64 x.dev, .int .i64 i, .int .i64 zA.dev, .int .i64 zA.ino] 66) h1 h2 HPF1.out HOLD.out)
      have HFZ := Lib.hid (fun wA (hg : ((wR.alloc (.cells #[.int .i64 x.dev, .int .i64 x.ino, .string s, .int .i64 x.dev, .int .i64 i, .int .i64 zA.dev, .int .i64 zA.ino] 66)).drew).grownBy wA (Value.slice co l.length cc).ownBlock) => ((M3.out.ed.alloc (.cells #[.int .i64 x.dev, .int .i64 x.ino, .string s, .int .i64 x.dev, .int .i64 i, .int .i64 zA.dev, .int .i64 zA.ino] 66)).drew.grown ((hownC.alloc _).drew) (by decide) hg).blk.c2)
      have hbx := HBD.out
      have HWC := Lib.hid hownC
      have HNW := Lib.hid (World.news_of_block (w := (wR.alloc (.cells #[.int .i64 x.dev, .int .i64 x.ino, .string s, .int .i64 x.dev, .int .i64 i, .int .i64 zA.dev, .int .i64 zA.ino] 66)).drew) (cs := #[.int .i64 x.dev, .int .i64 x.ino, .string s, .int .i64 x.dev, .int .i64 i, .int .i64 zA.dev, .int .i64 zA.ino]) (t := 66) (fr := (0, 0)) (heap_alloc_new wR _))
      have H5 : Hid (∀ u ∈ ccs ⟨x, s, (⟨x.dev, i⟩ : At), zA⟩, u.oneCell' = true) := Lib.hid (by simp [Value.oneCell', ccs])
      have H6 : Hid (l.length + 1 ≤ maxLen) := Lib.hid (by unfold maxLen; omega)
      have H7 : Hid ((l.length + 1) * 64 ≤ 140737488355328) := Lib.hid (by omega)
      have H8 : Hid (B ≤ (wR.alloc (.cells #[.int .i64 x.dev, .int .i64 x.ino, .string s, .int .i64 x.dev, .int .i64 i, .int .i64 zA.dev, .int .i64 zA.ino] 66)).drew.heap.size) := Lib.hid (by show B ≤ (wR.alloc _).heap.size; rw [size_alloc]; omega)
      clear M3 HBD HPF1 HOLD hownC
      go_wp2_with fail
      have ea1 : (wR.alloc (.cells #[.int .i64 x.dev, .int .i64 x.ino, .string s, .int .i64 x.dev, .int .i64 i, .int .i64 zA.dev, .int .i64 zA.ino] 66)).cell? ⟨E, 1, none⟩ = some (.slice co l.length cc) := cell_stays u1 ((Below.refl _ _).alloc (Nat.le_refl _) _)
      go_region_law (
        (refine step_append_lies _ (by rfl) _ _ _ (by rfl) B 66 i0 _ 7 64 Try.underlying53 hi0 hz0 hz1 hz2 rfl (by omega) _ l.length _ (by rfl) ((HWC.out.alloc _).drew)
           ⟨wR.heap.size, 0, none⟩ 1 1 (ccs ⟨x, s, (⟨x.dev, i⟩ : At), zA⟩) (by rfl) (by rfl) HNW.out H5.out (by omega) H6.out H7.out H8.out (wR.heap.size + 1) (by simp) ?_
         intro gg capA wA hownA hgrow hatA hltA
         obtain ⟨qE0, qE1, qf0, qf1⟩ := HFZ.out wA hgrow))
      all_goals
        have HFIN := Lib.hid (HDN.out wA _ hgrow hownA)
        clear hownA hgrow
        go_wp2_with fail
        exact bodyPost_ret (v := .tuple #[]) (by simp [results, Try.f75, go_sem]) rfl HFIN.out
    · skip
      have hz1 : (tg.dev == 0 && tg.ino == 0) = false := by
        have h1 := sameA_dec tg zA
        rw [decide_eq_false hz] at h1
        exact h1
      have NF := fun W => neq_file tg.dev tg.ino 0 0 W
      rw [hz1] at NF
      obtain ⟨y0, y1, y2, -⟩ := M3.out.pl.blk.c3
      have hrow := M3.out.row hd hk
      obtain ⟨vb, vc, hevb⟩ : ∃ vb vc, (updE ev j k (.slice (some ⟨ge, 0, none⟩) (n.ents.length - 1) cva)) j k = .slice vb (remE n.ents s).length vc := by
        obtain ⟨a, c, h, -⟩ := own_slice hrow
        exact ⟨a, c, h⟩
      have y7 : wR.cell? ⟨g, k * 8 + 7, none⟩ = some (.slice vb (remE n.ents s).length vc) := by
        rw [M3.out.fil.cellN (setN_at hd _) (setN_node hk _) hgn (by omega), ← hevb]; rfl
      have HROW : Hid (World.ownsRow wR B 87 2 (.slice vb (remE n.ents s).length vc) (remE n.ents s).length (erow (remE n.ents s))) := Lib.hid (by rw [← hevb]; exact hrow)
      obtain ⟨wI, hwI⟩ : ∃ wI, wI = (wR.alloc (.cells #[.string s, .int .i64 tg.ino] 87)).drew := ⟨_, rfl⟩
      have hbI : Below wR.heap.size wR wI := by rw [hwI]; exact ((Below.refl _ _).alloc (Nat.le_refl _) _).drew
      have HBI : Hid (B ≤ wI.heap.size) := Lib.hid (Nat.le_trans HBD.out hbI.size)
      have MI : Hid (MidP B E w1.heap.size w wI (.slice fa F.length fc) (.slice co l.length cc) F vn (updE ev j k (.slice (some ⟨ge, 0, none⟩) (n.ents.length - 1) cva)) j d k n l x s tg (remE n.ents s) ⟨x.dev, i⟩) := Lib.hid (M3.out.stay hbI HBD.out)
      have HROWI : Hid (World.ownsRow wI B 87 2 (.slice vb (remE n.ents s).length vc) (remE n.ents s).length (erow (remE n.ents s))) := Lib.hid (own_keep HROW.out fun g' hg' => hbI.block g' (own_lt HROW.out hg').2)
      have CI := Lib.hid (insert_any B wI vb vc (remE n.ents s).length (posE n.ents s) wR.heap.size (erow (remE n.ents s)) s tg.ino HROWI.out (by rw [HER.out.2]; omega) (by rw [HER.out.2]; omega) HBI.out (erow_one _) (fun e => by have := (own_lt HROW.out e).2; omega) (by rw [hwI]; exact heap_alloc_new wR _))
      have HEI : Hid ((erow (remE n.ents s)).take (posE n.ents s * 2) ++ [.string s, .int .i64 tg.ino] ++ (erow (remE n.ents s)).drop (posE n.ents s * 2) = erow (insE n.ents s tg.ino) ∧ (insE n.ents s tg.ino).length = (remE n.ents s).length + 1) := Lib.hid (by
        have h1 := erow_ins (sort_rem HO.out s) (find_rem n.ents s) tg.ino
        rw [(rem_at HO.out HFI.out).2, ins_rem] at h1
        exact h1)
      have HWI := Lib.hid hwI
      have HEVB := Lib.hid hevb
      have hlW : wR.heap.size < wI.heap.size := by rw [hwI]; show _ < (wR.alloc _).heap.size; rw [size_alloc]; exact Nat.lt_succ_self _
      clear hwI hevb hrow hz1 HROW HROWI M3 HBD hbI
      have ea7 : (wR.alloc (.cells #[.string s, .int .i64 tg.ino] 87)).cell? ⟨g, k * 8 + 7, none⟩ = some (.slice vb (remE n.ents s).length vc) := cell_stays y7 ((Below.refl _ _).alloc (Nat.le_refl _) _)
      have HC7 : Hid (∀ wD, wI.grownBy wD (Value.slice vb (remE n.ents s).length vc).ownBlock → wD.cell? ⟨g, k * 8 + 7, none⟩ = some (.slice vb (remE n.ents s).length vc) ∧ wD.frozen? ⟨g, k * 8 + 7, none⟩ = false) := Lib.hid (fun wD hg => by
        have := MI.out.cell7 hd hk (w' := wD) (by rw [HEVB.out]; exact hg) hgn
        rwa [HEVB.out] at this)
      go_upto_region 8 with fail
      go_cut [] (fun W => B ≤ W.heap.size ∧ ∃ vx, MidP B E w1.heap.size w W (.slice fa F.length fc) (.slice co l.length cc) F vn (updE (updE ev j k (.slice (some ⟨ge, 0, none⟩) (n.ents.length - 1) cva)) j k vx) j d k n l x s tg (insE n.ents s tg.ino) ⟨x.dev, i⟩)
      case first =>
        go_region_with ((go_at_call 93; rw [← HWI.out]; (with_reducible refine CI.out.mono ?_); rintro e wD2 ⟨vI, rfl, hownI, hgrowI, hatI⟩; rw [HEI.out.1] at hownI; obtain ⟨vio, vic, rfl⟩ := own_isS hownI; obtain ⟨s7, f7⟩ := HC7.out wD2 hgrowI))
        all_goals
          have hgrI : wI.grownBy wD2 ((updE ev j k (.slice (some ⟨ge, 0, none⟩) (n.ents.length - 1) cva)) j k).ownBlock := by rw [HEVB.out]; exact hgrowI
          have hszI := hgrowI.size
          have MS := Lib.hid (MI.out.step hd hk HBI.out hgrI (by unfold OwnE; rw [HEI.out.2]; exact hownI) (fun g' hg' => by
            rcases hatI with h | h
            · left; rw [HEVB.out, ← h]; exact hg'
            · right; rw [h] at hg'; injection hg' with hg'; omega) hgn)
          have HBS := Lib.hid (show B ≤ (wD2.setCell ⟨g, k * 8 + 7, none⟩ (.slice vio ((remE n.ents s).length + 1) vic)).heap.size by rw [size_set]; exact Nat.le_trans HBI.out hszI)
          clear hownI hgrowI hatI hgrI
          go_wp2_with fail
          go_meet
          exact ⟨HBS.out, _, MS.out⟩
      case rest =>
        obtain ⟨hB5, vx, M5⟩ := hcut
        have HB5 := Lib.hid hB5
        have M5 := Lib.hid M5
        clear MI CI HBI y0 y1 y2 y7 HWI hlW HC7 ea7
        have HPF1 : Hid (F.set j (setN d k { n with ents := insE n.ents s tg.ino }) = pointF F x s tg) := Lib.hid (by
          unfold pointF
          rw [if_neg hz]
          exact HSET.out (insF s tg.ino))
        have HOLD : Hid ((⟨x.dev, i⟩ : At) = (atF F x s).getD zA) := Lib.hid (by rw [HAT.out, HFI.out]; rfl)
        obtain ⟨u0, u1, uf0, uf1⟩ := M5.out.ed.blk.c2
        obtain ⟨⟨v0, v1, v2, v3, v4, v5, v6⟩, -⟩ := M5.out.ch.blk.c7
        have hownC : wc.ownsRow B 66 7 (.slice co l.length cc) l.length (crow l) := M5.out.own
        have HDN := Lib.hid (fun wA cv' h1 h2 => MidP.done (wA := wA) (cv' := cv') M5.out HB5.out hBE (.cells #[.int .i64 x.dev, .int .i64 x.ino, .string s, .int .i64 x.dev, .int .i64 i, .int .i64 tg.dev, .int .i64 tg.ino] 66) h1 h2 HPF1.out HOLD.out)
        have HFZ := Lib.hid (fun wA (hg : ((wc.alloc (.cells #[.int .i64 x.dev, .int .i64 x.ino, .string s, .int .i64 x.dev, .int .i64 i, .int .i64 tg.dev, .int .i64 tg.ino] 66)).drew).grownBy wA (Value.slice co l.length cc).ownBlock) => ((M5.out.ed.alloc (.cells #[.int .i64 x.dev, .int .i64 x.ino, .string s, .int .i64 x.dev, .int .i64 i, .int .i64 tg.dev, .int .i64 tg.ino] 66)).drew.grown ((hownC.alloc _).drew) (by decide) hg).blk.c2)
        have hbx := HB5.out
        have HWC := Lib.hid hownC
        have HNW := Lib.hid (World.news_of_block (w := (wc.alloc (.cells #[.int .i64 x.dev, .int .i64 x.ino, .string s, .int .i64 x.dev, .int .i64 i, .int .i64 tg.dev, .int .i64 tg.ino] 66)).drew) (cs := #[.int .i64 x.dev, .int .i64 x.ino, .string s, .int .i64 x.dev, .int .i64 i, .int .i64 tg.dev, .int .i64 tg.ino]) (t := 66) (fr := (0, 0)) (heap_alloc_new wc _))
        have H5 : Hid (∀ u ∈ ccs ⟨x, s, (⟨x.dev, i⟩ : At), tg⟩, u.oneCell' = true) := Lib.hid (by simp [Value.oneCell', ccs])
        have H6 : Hid (l.length + 1 ≤ maxLen) := Lib.hid (by unfold maxLen; omega)
        have H7 : Hid ((l.length + 1) * 64 ≤ 140737488355328) := Lib.hid (by omega)
        have H8 : Hid (B ≤ (wc.alloc (.cells #[.int .i64 x.dev, .int .i64 x.ino, .string s, .int .i64 x.dev, .int .i64 i, .int .i64 tg.dev, .int .i64 tg.ino] 66)).drew.heap.size) := Lib.hid (by show B ≤ (wc.alloc _).heap.size; rw [size_alloc]; omega)
        clear M5 HB5 HPF1 HOLD hownC 
        go_wp2_with fail
        have ea1 : (wc.alloc (.cells #[.int .i64 x.dev, .int .i64 x.ino, .string s, .int .i64 x.dev, .int .i64 i, .int .i64 tg.dev, .int .i64 tg.ino] 66)).cell? ⟨E, 1, none⟩ = some (.slice co l.length cc) := cell_stays u1 ((Below.refl _ _).alloc (Nat.le_refl _) _)
        go_region_law (
          (refine step_append_lies _ (by rfl) _ _ _ (by rfl) B 66 i0 _ 7 64 Try.underlying53 hi0 hz0 hz1 hz2 rfl (by omega) _ l.length _ (by rfl) ((HWC.out.alloc _).drew)
             ⟨wc.heap.size, 0, none⟩ 1 1 (ccs ⟨x, s, (⟨x.dev, i⟩ : At), tg⟩) (by rfl) (by rfl) HNW.out H5.out (by omega) H6.out H7.out H8.out (wc.heap.size + 1) (by simp) ?_
           intro gg capA wA hownA hgrow hatA hltA
           obtain ⟨qE0, qE1, qf0, qf1⟩ := HFZ.out wA hgrow))
        all_goals
          have HFIN := Lib.hid (HDN.out wA _ hgrow hownA)
          clear hownA hgrow
          go_wp2_with fail
          exact bodyPost_ret (v := .tuple #[]) (by simp [results, Try.f75, go_sem]) rfl HFIN.out
  | false =>
    have hfn : findE n.ents s = none := by
      unfold hasE at hh
      cases hf : findE n.ents s with
      | none => rfl
      | some i => rw [hf] at hh; cases hh
    have hz : ¬ tg = zA := fun e => by have := hne e; rw [hfn] at this; cases this
    have HFI := Lib.hid hfn
    clear hh hfn
    obtain ⟨t0, t1, -⟩ := MC.out.tt.blk.c2
    go_upto_region 7 with fail
    · skip
      have hz1 : (tg.dev == 0 && tg.ino == 0) = false := by
        have h1 := sameA_dec tg zA
        rw [decide_eq_false hz] at h1
        exact h1
      have NF := fun W => neq_file tg.dev tg.ino 0 0 W
      rw [hz1] at NF
      obtain ⟨y0, y1, y2, -⟩ := MC.out.pl.blk.c3
      have hrow := MC.out.row hd hk
      have hevb : ev j k = .slice va (n.ents).length cva := HEV.out
      have y7 : wE.cell? ⟨g, k * 8 + 7, none⟩ = some (.slice va (n.ents).length cva) := by
        rw [MC.out.fil.cellN (setN_at hd _) (setN_node hk _) hgn (by omega), ← hevb]; rfl
      have HROW : Hid (World.ownsRow wE B 87 2 (.slice va (n.ents).length cva) (n.ents).length (erow (n.ents))) := Lib.hid (by rw [← hevb]; exact hrow)
      obtain ⟨wI, hwI⟩ : ∃ wI, wI = (wE.alloc (.cells #[.string s, .int .i64 tg.ino] 87)).drew := ⟨_, rfl⟩
      have hbI : Below wE.heap.size wE wI := by rw [hwI]; exact ((Below.refl _ _).alloc (Nat.le_refl _) _).drew
      have HBI : Hid (B ≤ wI.heap.size) := Lib.hid (Nat.le_trans HBE.out hbI.size)
      have MI : Hid (MidP B E w1.heap.size w wI (.slice fa F.length fc) (.slice co l.length cc) F vn ev j d k n l x s tg (n.ents) zA) := Lib.hid (MC.out.stay hbI HBE.out)
      have HROWI : Hid (World.ownsRow wI B 87 2 (.slice va (n.ents).length cva) (n.ents).length (erow (n.ents))) := Lib.hid (own_keep HROW.out fun g' hg' => hbI.block g' (own_lt HROW.out hg').2)
      have CI := Lib.hid (insert_any B wI va cva (n.ents).length (posE n.ents s) wE.heap.size (erow (n.ents)) s tg.ino HROWI.out HPOS.out hsm HBI.out (erow_one _) (fun e => by have := (own_lt HROW.out e).2; omega) (by rw [hwI]; exact heap_alloc_new wE _))
      have HEI : Hid ((erow (n.ents)).take (posE n.ents s * 2) ++ [.string s, .int .i64 tg.ino] ++ (erow (n.ents)).drop (posE n.ents s * 2) = erow (insE n.ents s tg.ino) ∧ (insE n.ents s tg.ino).length = (n.ents).length + 1) := Lib.hid (erow_ins HO.out HFI.out tg.ino)
      have HWI := Lib.hid hwI
      have HEVB := Lib.hid hevb
      have hlW : wE.heap.size < wI.heap.size := by rw [hwI]; show _ < (wE.alloc _).heap.size; rw [size_alloc]; exact Nat.lt_succ_self _
      clear hwI hevb hrow hz1 HROW HROWI MC HBE hbI
      have ea7 : (wE.alloc (.cells #[.string s, .int .i64 tg.ino] 87)).cell? ⟨g, k * 8 + 7, none⟩ = some (.slice va (n.ents).length cva) := cell_stays y7 ((Below.refl _ _).alloc (Nat.le_refl _) _)
      have HC7 : Hid (∀ wD, wI.grownBy wD (Value.slice va (n.ents).length cva).ownBlock → wD.cell? ⟨g, k * 8 + 7, none⟩ = some (.slice va (n.ents).length cva) ∧ wD.frozen? ⟨g, k * 8 + 7, none⟩ = false) := Lib.hid (fun wD hg => by
        have := MI.out.cell7 hd hk (w' := wD) (by rw [HEVB.out]; exact hg) hgn
        rwa [HEVB.out] at this)
      go_upto_region 8 with fail
      go_cut [] (fun W => B ≤ W.heap.size ∧ ∃ vx, MidP B E w1.heap.size w W (.slice fa F.length fc) (.slice co l.length cc) F vn (updE ev j k vx) j d k n l x s tg (insE n.ents s tg.ino) zA)
      case first =>
        go_region_with ((go_at_call 93; rw [← HWI.out]; (with_reducible refine CI.out.mono ?_); rintro e wD2 ⟨vI, rfl, hownI, hgrowI, hatI⟩; rw [HEI.out.1] at hownI; obtain ⟨vio, vic, rfl⟩ := own_isS hownI; obtain ⟨s7, f7⟩ := HC7.out wD2 hgrowI))
        all_goals
          have hgrI : wI.grownBy wD2 (ev j k).ownBlock := by rw [HEVB.out]; exact hgrowI
          have hszI := hgrowI.size
          have MS := Lib.hid (MI.out.step hd hk HBI.out hgrI (by unfold OwnE; rw [HEI.out.2]; exact hownI) (fun g' hg' => by
            rcases hatI with h | h
            · left; rw [HEVB.out, ← h]; exact hg'
            · right; rw [h] at hg'; injection hg' with hg'; omega) hgn)
          have HBS := Lib.hid (show B ≤ (wD2.setCell ⟨g, k * 8 + 7, none⟩ (.slice vio ((n.ents).length + 1) vic)).heap.size by rw [size_set]; exact Nat.le_trans HBI.out hszI)
          clear hownI hgrowI hatI hgrI
          go_wp2_with fail
          go_meet
          exact ⟨HBS.out, _, MS.out⟩
      case rest =>
        obtain ⟨hB5, vx, M5⟩ := hcut
        have HB5 := Lib.hid hB5
        have M5 := Lib.hid M5
        clear MI CI HBI y0 y1 y2 y7 HWI hlW HC7 ea7
        have HPF1 : Hid (F.set j (setN d k { n with ents := insE n.ents s tg.ino }) = pointF F x s tg) := Lib.hid (by
          unfold pointF
          rw [if_neg hz]
          exact HSET.out (insF s tg.ino))
        have HOLD : Hid (zA = (atF F x s).getD zA) := Lib.hid (by rw [HAT.out, HFI.out]; rfl)
        obtain ⟨u0, u1, uf0, uf1⟩ := M5.out.ed.blk.c2
        obtain ⟨⟨v0, v1, v2, v3, v4, v5, v6⟩, -⟩ := M5.out.ch.blk.c7
        have hownC : wc.ownsRow B 66 7 (.slice co l.length cc) l.length (crow l) := M5.out.own
        have HDN := Lib.hid (fun wA cv' h1 h2 => MidP.done (wA := wA) (cv' := cv') M5.out HB5.out hBE (.cells #[.int .i64 x.dev, .int .i64 x.ino, .string s, .int .i64 zA.dev, .int .i64 zA.ino, .int .i64 tg.dev, .int .i64 tg.ino] 66) h1 h2 HPF1.out HOLD.out)
        have HFZ := Lib.hid (fun wA (hg : ((wc.alloc (.cells #[.int .i64 x.dev, .int .i64 x.ino, .string s, .int .i64 zA.dev, .int .i64 zA.ino, .int .i64 tg.dev, .int .i64 tg.ino] 66)).drew).grownBy wA (Value.slice co l.length cc).ownBlock) => ((M5.out.ed.alloc (.cells #[.int .i64 x.dev, .int .i64 x.ino, .string s, .int .i64 zA.dev, .int .i64 zA.ino, .int .i64 tg.dev, .int .i64 tg.ino] 66)).drew.grown ((hownC.alloc _).drew) (by decide) hg).blk.c2)
        have hbx := HB5.out
        have HWC := Lib.hid hownC
        have HNW := Lib.hid (World.news_of_block (w := (wc.alloc (.cells #[.int .i64 x.dev, .int .i64 x.ino, .string s, .int .i64 zA.dev, .int .i64 zA.ino, .int .i64 tg.dev, .int .i64 tg.ino] 66)).drew) (cs := #[.int .i64 x.dev, .int .i64 x.ino, .string s, .int .i64 zA.dev, .int .i64 zA.ino, .int .i64 tg.dev, .int .i64 tg.ino]) (t := 66) (fr := (0, 0)) (heap_alloc_new wc _))
        have H5 : Hid (∀ u ∈ ccs ⟨x, s, zA, tg⟩, u.oneCell' = true) := Lib.hid (by simp [Value.oneCell', ccs])
        have H6 : Hid (l.length + 1 ≤ maxLen) := Lib.hid (by unfold maxLen; omega)
        have H7 : Hid ((l.length + 1) * 64 ≤ 140737488355328) := Lib.hid (by omega)
        have H8 : Hid (B ≤ (wc.alloc (.cells #[.int .i64 x.dev, .int .i64 x.ino, .string s, .int .i64 zA.dev, .int .i64 zA.ino, .int .i64 tg.dev, .int .i64 tg.ino] 66)).drew.heap.size) := Lib.hid (by show B ≤ (wc.alloc _).heap.size; rw [size_alloc]; omega)
        clear M5 HB5 HPF1 HOLD hownC 
        go_wp2_with fail
        have ea1 : (wc.alloc (.cells #[.int .i64 x.dev, .int .i64 x.ino, .string s, .int .i64 zA.dev, .int .i64 zA.ino, .int .i64 tg.dev, .int .i64 tg.ino] 66)).cell? ⟨E, 1, none⟩ = some (.slice co l.length cc) := cell_stays u1 ((Below.refl _ _).alloc (Nat.le_refl _) _)
        go_region_law (
          (refine step_append_lies _ (by rfl) _ _ _ (by rfl) B 66 i0 _ 7 64 Try.underlying53 hi0 hz0 hz1 hz2 rfl (by omega) _ l.length _ (by rfl) ((HWC.out.alloc _).drew)
             ⟨wc.heap.size, 0, none⟩ 1 1 (ccs ⟨x, s, zA, tg⟩) (by rfl) (by rfl) HNW.out H5.out (by omega) H6.out H7.out H8.out (wc.heap.size + 1) (by simp) ?_
           intro gg capA wA hownA hgrow hatA hltA
           obtain ⟨qE0, qE1, qf0, qf1⟩ := HFZ.out wA hgrow))
        all_goals
          have HFIN := Lib.hid (HDN.out wA _ hgrow hownA)
          clear hownA hgrow
          go_wp2_with fail
          exact bodyPost_ret (v := .tuple #[]) (by simp [results, Try.f75, go_sem]) rfl HFIN.out
end Go.Proofs.Ytafnbpkdenjipaa.fl
