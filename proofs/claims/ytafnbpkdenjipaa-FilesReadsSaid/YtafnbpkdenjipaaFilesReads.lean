/-
  FilesReads: the walk.
-/
import Derived.Test.YtafnbpkdenjipaaSrcL
import Derived.Test.YtafnbpkdenjipaaRSz
import Derived.Test.YtafnbpkdenjipaaFWk
import Derived.Test.YtafnbpkdenjipaaRows
import Derived.Test.YtafnbpkdenjipaaRow
namespace Go.Proofs.Ytafnbpkdenjipaa.fl
open Go.RowKit Go.Proofs.Ytafnbpkdenjipaa.cm Go.Proofs.Ytafnbpkdenjipaa.sr

theorem ownE_stay {B : Nat} {w w' : World} {v : Value} {l : List EntP} (h : OwnE B w v l) (hb : Below w.heap.size w w') : OwnE B w' v l := own_keep h fun g hg => hb.block g (own_lt h hg).2
theorem got_form {f : Nat} {ag : Array Value} {o : Option NodeP} {w : World} {N : NodeP} {O : Bool} (h : Calls Try.prog f ag w (GotR o w)) (hN : o.getD noN = N) (hO : o.isSome = O) :
    Calls Try.prog f ag w fun e w' => ∃ va vc, e = .returned (.tuple #[.agg #[.int .i64 N.ino, .int .i64 N.kind, .int .i64 N.mode, .int .i64 N.uid, .int .i64 N.gid, .int .i64 N.parent, .string N.target, .slice va N.ents.length vc], .bool O]) ∧ OwnE w.heap.size w' (.slice va N.ents.length vc) N.ents ∧ Below w.heap.size w w' := by
  refine h.mono ?_
  rintro e w' ⟨v, rfl, hv, hb⟩
  rw [hN] at hv ⊢
  rw [hO]
  obtain ⟨va, vc, rfl, -⟩ := hv.at_
  exact ⟨va, vc, rfl, hv, hb⟩

set_option maxRecDepth 100000 in
set_option maxHeartbeats 1000000 in
theorem SameNode_true (n : NodeP) (va vb : Option Addr) (ca cb : Nat) (w : World) (hA : Ents w va n.ents) (hB : Ents w vb n.ents) (hl : n.ents.length ≤ 1000) :
    Calls Try.prog 21 #[.agg #[.int .i64 n.ino, .int .i64 n.kind, .int .i64 n.mode, .int .i64 n.uid, .int .i64 n.gid, .int .i64 n.parent, .string n.target, .slice va n.ents.length ca], .agg #[.int .i64 n.ino, .int .i64 n.kind, .int .i64 n.mode, .int .i64 n.uid, .int .i64 n.gid, .int .i64 n.parent, .string n.target, .slice vb n.ents.length cb]] w fun e w' => e = .returned (.bool true) ∧ Below w.heap.size w w' := by
  have hb1 : Below w.heap.size w (w.alloc (.cells #[.int .i64 n.ino, .int .i64 n.kind, .int .i64 n.mode, .int .i64 n.uid, .int .i64 n.gid, .int .i64 n.parent, .string n.target, .slice va n.ents.length ca] 43)) := (Below.refl _ _).alloc (Nat.le_refl _) _
  have hb2 := hb1.alloc hb1.size (.cells #[.int .i64 n.ino, .int .i64 n.kind, .int .i64 n.mode, .int .i64 n.uid, .int .i64 n.gid, .int .i64 n.parent, .string n.target, .slice vb n.ents.length cb] 43)
  have CS := Lib.hid (sameNode_true n va vb ca cb _ (RowAt.below EntAt.stays hA hb2) (RowAt.below EntAt.stays hB hb2) hl)
  clear hA hB hl
  go_enter Try.func21, Try.ntmps21
  go_wp2_with fail
  refine CS.out.mono ?_
  rintro e w3 ⟨rfl, hb3⟩
  have hb := hb2.trans (hb3.mono hb2.size)
  clear hb3 CS
  go_wp2_with fail
  go_ret
  exact ⟨rfl, hb⟩

set_option maxRecDepth 100000 in
set_option maxHeartbeats 8000000 in
theorem filesReads_any (a : Option Addr) (len cap : Nat) (dev ino : Int) (s : ByteArray) (w : World) (hr : Nums w a len) : Calls Try.prog 4 #[.slice a len cap, .int .i64 dev, .int .i64 ino, .string s] w fun e w' => e = .returned (.bool true) ∧ Below w.heap.size w w' := by
  obtain ⟨w1, hw1⟩ : ∃ w1, w1 = w.alloc (.cells #[.slice a len cap, .int .i64 0] 74) := ⟨_, rfl⟩
  have hs1 : SrcAt w w1 w.heap.size a len cap 0 := by rw [hw1]; exact src_new w a len cap hr
  have hb1 : Beside w.heap.size w w1 := by rw [hw1]; exact (Beside.refl _ _).alloc _
  have CS := Lib.hid (new_any a len cap w)
  have CF := Lib.hid (files_b w w1 w.heap.size a len cap 0 hs1 (by omega))
  have CA := Lib.hid (fun W => awake_any W)
  have HW1 := Lib.hid hw1
  have hz1 : w1.heap.size = w.heap.size + 1 := by rw [hw1, size_alloc]
  clear hw1 hs1 hr
  go_enter Try.func4, Try.ntmps4
  go_wp2_with fail
  refine CS.out.mono ?_
  rintro e w1' ⟨rfl, hw1'⟩
  obtain rfl : w1' = w1 := hw1'.trans HW1.out.symm
  rename World => w1
  clear CS HW1 hw1'
  go_wp2_with fail
  refine CF.out.mono ?_
  rintro e w2 ⟨F, fa, fc, k0, hk0, hO, rfl, ho2, hs2, hb2⟩
  have hb3 := (hb1.trans hb2).alloc (.cells #[.slice fa F.length fc] 24)
  have hs3 := hs2.alloc (.cells #[.slice fa F.length fc] 24)
  have ho3 := ho2.stay ((Below.refl w2.heap.size w2).alloc (Nat.le_refl _) (.cells #[.slice fa F.length fc] 24))
  obtain ⟨w3, hw3⟩ : ∃ w3, w3 = w2.alloc (.cells #[.slice fa F.length fc] 24) := ⟨_, rfl⟩
  have tD3 : TB 24 w3 w2.heap.size [.slice fa F.length fc] := by rw [hw3]; exact TB.new1 w2 _ _ _ rfl
  have hwz : w.heap.size < w2.heap.size := by have := hb2.size; omega
  have hDb : w2.heap.size ≠ w.heap.size := by omega
  rw [← hw3] at hb3 hs3 ho3
  have HW3 := Lib.hid hw3
  have HO := Lib.hid hO
  have hbd3 : Below w3.heap.size w3 w3.drew := (Below.refl _ _).drew
  have hbe3 : Beside w.heap.size w3 w3.drew := .of_below hbd3
  have HF := Lib.hid (fun W (hb : Beside w.heap.size w3 W) => ho3.beside hs3 hb)
  have HS3 := Lib.hid (hs3.later hbd3)
  have x0 := tD3.blk.c1.1
  clear CF hw3 hO ho2 hs2 hb2 hb1 hs3 ho3
  go_upto_region 3 with fail
  rw [← HW3.out]
  clear HW3
  go_region_held3 (fun (W : World) => W.cell? ⟨w2.heap.size, 0, none⟩ = some (.slice fa F.length fc))
    (first
      | (with_reducible exact x0)
      | (with_reducible exact L1)
      | (with_reducible exact L2)
      | (with_reducible exact L3)
      | (exact M3)
      | go_keep)
    (first
      | (go_at_call 15; (with_reducible refine (file_b w w3.drew w.heap.size a len cap k0 HS3.out (by omega) w1.heap.size (.slice fa F.length fc) F (HF.out _ hbe3) HO.out).mono ?_); rintro e w4 ⟨x1, k1, hk1, rfl, hs4, hbx1⟩; have hb34 : Beside w.heap.size w3 w4 := hbe3.trans hbx1; have L1 := (tD3.beside hDb hb34).blk.c1.1)
      | (go_at_call 15; (with_reducible refine (file_b w w4 w.heap.size a len cap k1 hs4 (by omega) w1.heap.size (.slice fa F.length fc) F (HF.out _ hb34) HO.out).mono ?_); rintro e w5 ⟨x2, k2, hk2, rfl, hs5, hbx2⟩; have hb35 : Beside w.heap.size w3 w5 := hb34.trans hbx2; have L2 := (tD3.beside hDb hb35).blk.c1.1)
      | (go_at_call 15; (with_reducible refine (file_b w w5 w.heap.size a len cap k2 hs5 (by omega) w1.heap.size (.slice fa F.length fc) F (HF.out _ hb35) HO.out).mono ?_); rintro e w6 ⟨x3, k3, hk3, rfl, hs6, hbx3⟩; have hb36 : Beside w.heap.size w3 w6 := hb35.trans hbx3; have L3 := (tD3.beside hDb hb36).blk.c1.1; have M3 := ((tD3.beside hDb hb36).alloc (.cells #[.int .i64 x1.dev, .int .i64 x1.ino, .int .i64 x2.dev, .int .i64 x2.ino, .int .i64 x3.dev, .int .i64 x3.ino, .int .i64 dev, .int .i64 ino, .int .i64 0, .int .i64 ino] 36)).blk.c1.1))
  clear x0 L1 L2 L3 M3 hs4 hs5 hbx1 hbx2 hbx3 hb34 hb35
  have hb7 := hb36.alloc (.cells #[.int .i64 x1.dev, .int .i64 x1.ino, .int .i64 x2.dev, .int .i64 x2.ino, .int .i64 x3.dev, .int .i64 x3.ino, .int .i64 dev, .int .i64 ino, .int .i64 0, .int .i64 ino] 36)
  have hs7 := hs6.alloc (.cells #[.int .i64 x1.dev, .int .i64 x1.ino, .int .i64 x2.dev, .int .i64 x2.ino, .int .i64 x3.dev, .int .i64 x3.ino, .int .i64 dev, .int .i64 ino, .int .i64 0, .int .i64 ino] 36)
  obtain ⟨w7, hw7⟩ : ∃ w7, w7 = w6.alloc (.cells #[.int .i64 x1.dev, .int .i64 x1.ino, .int .i64 x2.dev, .int .i64 x2.ino, .int .i64 x3.dev, .int .i64 x3.ino, .int .i64 dev, .int .i64 ino, .int .i64 0, .int .i64 ino] 36) := ⟨_, rfl⟩
  have tL7 : TB 36 w7 w6.heap.size [.int .i64 x1.dev, .int .i64 x1.ino, .int .i64 x2.dev, .int .i64 x2.ino, .int .i64 x3.dev, .int .i64 x3.ino, .int .i64 dev, .int .i64 ino, .int .i64 0, .int .i64 ino] := by rw [hw7]; exact TB.new1 w6 [.int .i64 x1.dev, .int .i64 x1.ino, .int .i64 x2.dev, .int .i64 x2.ino, .int .i64 x3.dev, .int .i64 x3.ino, .int .i64 dev, .int .i64 ino, .int .i64 0, .int .i64 ino] _ _ rfl
  have hz6 := hb36.size
  have hz3 := tD3.lt
  have hLb : w6.heap.size ≠ w.heap.size := by omega
  rw [← hw7] at hb7 hs7
  have HW7 := Lib.hid hw7
  have CN := Lib.hid (name_b w w7 w.heap.size a len cap k3 hs7 (by omega))
  clear hw7 hs6 hb36 hs7
  go_upto_region 4 with fail
  rw [← HW7.out]
  clear HW7
  go_wp2_with fail
  refine CN.out.mono ?_
  rintro e w8 ⟨n1, -, rfl, hs8, hb8'⟩
  have hb8 := hb7.trans hb8'
  have tL8 := tL7.beside hLb hb8'
  have CN2 := Lib.hid (name_b w w8 w.heap.size a len cap (k3 + 2) hs8 (by omega))
  clear CN hs8 hb7 hb8' tL7
  go_wp2_with fail
  refine CN2.out.mono ?_
  rintro e w9 ⟨n2, -, rfl, hs9, hb9'⟩
  have hb9 := hb8.trans hb9'
  have tL9 := tL8.beside hLb hb9'
  have CN3 := Lib.hid (name_b w w9 w.heap.size a len cap (k3 + 2 + 2) hs9 (by omega))
  clear CN2 hs9 hb8 hb9' tL8
  go_wp2_with fail
  refine CN3.out.mono ?_
  rintro e w10 ⟨n3, -, rfl, -, hb10'⟩
  have hb10 := hb9.trans hb10'
  have tL10 := tL9.beside hLb hb10'
  have tD10 := tD3.beside hDb hb10
  clear CN3 hb9 hb10' tL9 tD3
  obtain ⟨u0, hu0⟩ : ∃ u0, u0 = w10.alloc (.cells #[.string n1, .string n2, .string n3, .string s, .string s] 9) := ⟨_, rfl⟩
  obtain ⟨LF, hLF⟩ : ∃ LF, LF = w6.heap.size := ⟨_, rfl⟩
  obtain ⟨LN, hLN⟩ : ∃ LN, LN = w10.heap.size := ⟨_, rfl⟩
  have tD : TB 24 u0 w2.heap.size [.slice fa F.length fc] := by rw [hu0]; exact tD10.alloc _
  have tL : TB 36 u0 LF [.int .i64 x1.dev, .int .i64 x1.ino, .int .i64 x2.dev, .int .i64 x2.ino, .int .i64 x3.dev, .int .i64 x3.ino, .int .i64 dev, .int .i64 ino, .int .i64 0, .int .i64 ino] := by rw [hu0, hLF]; exact tL10.alloc _
  have tN : TB 9 u0 LN [.string n1, .string n2, .string n3, .string s, .string s] := by rw [hu0, hLN]; exact TB.new1 w10 [.string n1, .string n2, .string n3, .string s, .string s] _ _ rfl
  have hbu : Beside w.heap.size w3 u0 := by rw [hu0]; exact hb10.alloc _
  have hou := HF.out u0 hbu
  have hbwu : Below w.heap.size w u0 := (hb3.trans hbu).below (Nat.le_refl _) (Nat.le_refl _)
  have HFA : Hid (∀ W, Below u0.heap.size u0 W → FilesAt W fa F) := Lib.hid (fun W hb => by
    obtain ⟨a', c', hv, -, -, hF⟩ := (hou.stay hb).at_
    injection hv with hv _ _
    rw [hv]
    exact hF)
  have HU0 := Lib.hid (show u0 = w10.alloc (.cells #[.string n1, .string n2, .string n3, .string s, .string s] 9) from hu0)
  have HLF := Lib.hid hLF
  have HLN := Lib.hid hLN
  have HB := Lib.hid hbwu
  have KT : Hid (∀ q, q < 5 → ∃ (x : At) (nm : ByteArray), ∀ W, Below u0.heap.size u0 W → W.cell? ⟨w2.heap.size, 0, none⟩ = some (.slice fa F.length fc) ∧ W.cell? ⟨LF, q * 2, none⟩ = some (.int .i64 x.dev) ∧ W.cell? ⟨LF, q * 2 + 1, none⟩ = some (.int .i64 x.ino) ∧ W.cell? ⟨LN, q, none⟩ = some (.string nm)) := Lib.hid (fun q hq => by
    match q, hq with
    | 0, _ => exact ⟨x1, n1, fun W hb => ⟨(tD.stay hb).blk.c1.1, (tL.stay hb).blk.cell 0 _ rfl, (tL.stay hb).blk.cell 1 _ rfl, (tN.stay hb).blk.cell 0 _ rfl⟩⟩
    | 1, _ => exact ⟨x2, n2, fun W hb => ⟨(tD.stay hb).blk.c1.1, (tL.stay hb).blk.cell 2 _ rfl, (tL.stay hb).blk.cell 3 _ rfl, (tN.stay hb).blk.cell 1 _ rfl⟩⟩
    | 2, _ => exact ⟨x3, n3, fun W hb => ⟨(tD.stay hb).blk.c1.1, (tL.stay hb).blk.cell 4 _ rfl, (tL.stay hb).blk.cell 5 _ rfl, (tN.stay hb).blk.cell 2 _ rfl⟩⟩
    | 3, _ => exact ⟨⟨dev, ino⟩, s, fun W hb => ⟨(tD.stay hb).blk.c1.1, (tL.stay hb).blk.cell 6 _ rfl, (tL.stay hb).blk.cell 7 _ rfl, (tN.stay hb).blk.cell 3 _ rfl⟩⟩
    | 4, _ => exact ⟨⟨0, ino⟩, s, fun W hb => ⟨(tD.stay hb).blk.c1.1, (tL.stay hb).blk.cell 8 _ rfl, (tL.stay hb).blk.cell 9 _ rfl, (tN.stay hb).blk.cell 4 _ rfl⟩⟩)
  clear hu0 hLF hLN tD10 tL10 hb10 tD tL tN hbu hou hbwu HF hb3
  go_upto_region 5 with fail
  rw [← HU0.out, ← HLF.out, ← HLN.out]
  clear HU0 HLF HLN
  go_wp2_with fail
  go_loopw [13] (fun i wr => ∃ q : Nat, q ≤ 5 ∧ i = .int .i64 q ∧ Below u0.heap.size u0 wr) (fun i _ => 5 - (intOf i).toNat)
  case atStart => exact ⟨0, by omega, rfl, Below.refl _ _⟩
  case round =>
    obtain ⟨q, hq, rfl, hbur⟩ := hrel
    rename World => ur
    by_cases hlt : q < 5
    · have hqq : (q : Int) < 5 := by omega
      obtain ⟨x, nm, hkt⟩ := KT.out q hlt
      have KS := Lib.hid hkt
      obtain ⟨N, hN⟩ : ∃ N, (nodeF F x).getD noN = N := ⟨_, rfl⟩
      obtain ⟨O, hOO⟩ : ∃ O, (nodeF F x).isSome = O := ⟨_, rfl⟩
      obtain ⟨r, hr⟩ : ∃ r, r = lookF F x nm := ⟨_, rfl⟩
      obtain ⟨⟨pd, pi⟩, pe⟩ := r
      have HN := Lib.hid hN
      have HOO := Lib.hid hOO
      have HRL := Lib.hid hr
      clear hkt hN hOO hr
      have hbdv1 : Below ur.heap.size ur ur.drew := (Below.refl _ _).drew
      have hbev1 : Below ur.heap.size ur (ur.alloc (.cells #[.int .i64 0, .int .i64 0, .int .i64 0, .int .i64 0, .int .i64 0, .int .i64 0, .string ⟨#[]⟩, .slice none 0 0] 43)).drew := ((Below.refl _ _).alloc (Nat.le_refl _) _).drew
      have tAv1 : TB 43 (ur.alloc (.cells #[.int .i64 0, .int .i64 0, .int .i64 0, .int .i64 0, .int .i64 0, .int .i64 0, .string ⟨#[]⟩, .slice none 0 0] 43)).drew ur.heap.size [.int .i64 0, .int .i64 0, .int .i64 0, .int .i64 0, .int .i64 0, .int .i64 0, .string ⟨#[]⟩, .slice none 0 0] := (TB.new1 ur [.int .i64 0, .int .i64 0, .int .i64 0, .int .i64 0, .int .i64 0, .int .i64 0, .string ⟨#[]⟩, .slice none 0 0] _ _ rfl).drew
      have K4 := KS.out ur hbur
      have CSv1 : Hid (∀ W, Below ur.heap.size ur W → Calls Try.prog 17 #[.agg #[.slice fa F.length fc], .agg #[.int .i64 x.dev, .int .i64 x.ino]] W fun e w' => ∃ va vc, e = .returned (.tuple #[.agg #[.int .i64 N.ino, .int .i64 N.kind, .int .i64 N.mode, .int .i64 N.uid, .int .i64 N.gid, .int .i64 N.parent, .string N.target, .slice va N.ents.length vc], .bool O]) ∧ OwnE W.heap.size w' (.slice va N.ents.length vc) N.ents ∧ Below W.heap.size W w') := Lib.hid (fun W hb => got_form (Node_any fa fc F x W (HFA.out W (hbur.trans (hb.mono hbur.size))) HO.out.sml) HN.out HOO.out)
      go_upto_region 8 with fail
      go_cut [14, 15] (fun sA sE W => ∃ (A : Nat) (va : Option Addr) (vc : Nat), sA = .pointer (some ⟨A, 0, none⟩) ∧ sE = .bool O ∧ TB 43 W A [.int .i64 N.ino, .int .i64 N.kind, .int .i64 N.mode, .int .i64 N.uid, .int .i64 N.gid, .int .i64 N.parent, .string N.target, .slice va N.ents.length vc] ∧ OwnE ur.heap.size W (.slice va N.ents.length vc) N.ents ∧ Below ur.heap.size ur W)
      case first =>
        go_region_held3 (fun (W : World) => W.cell? ⟨w2.heap.size, 0, none⟩ = some (.slice fa F.length fc) ∧ W.cell? ⟨LF, q * 2, none⟩ = some (.int .i64 x.dev) ∧ W.cell? ⟨LF, q * 2 + 1, none⟩ = some (.int .i64 x.ino) ∧ W.cell? ⟨LN, q, none⟩ = some (.string nm))
          (first
            | (with_reducible exact K4)
            | (with_reducible exact K5)
            | (exact K6)
            | go_keep)
          (first
            | (go_at_call 17; (with_reducible refine (CSv1.out _ hbdv1).mono ?_); rintro e v1 ⟨va, vc, rfl, h1, h3⟩; have hb9 : Below ur.heap.size ur v1 := hbdv1.trans h3; have K5 := KS.out v1 (hbur.trans (hb9.mono hbur.size)); have hbz := (Below.refl v1.heap.size v1).alloc (Nat.le_refl _) (.cells #[.int .i64 N.ino, .int .i64 N.kind, .int .i64 N.mode, .int .i64 N.uid, .int .i64 N.gid, .int .i64 N.parent, .string N.target, .slice va N.ents.length vc] 43); have K6 := KS.out _ ((hbur.trans (hb9.mono hbur.size)).trans (hbz.mono (by have := hb9.size; have := hbur.size; omega))); have HFN := Lib.hid (And.intro (TB.new1 v1 [.int .i64 N.ino, .int .i64 N.kind, .int .i64 N.mode, .int .i64 N.uid, .int .i64 N.gid, .int .i64 N.parent, .string N.target, .slice va N.ents.length vc] 43 v1.heap.size rfl) (And.intro (ownE_stay h1 hbz) ((hb9.trans (hbz.mono hb9.size))))); clear h3 hbz)
            | (go_at_call 17; (with_reducible refine (CSv1.out _ hbev1).mono ?_); rintro e v1 ⟨va, vc, rfl, h1, h3⟩; have hb9 : Below ur.heap.size ur v1 := hbev1.trans (h3.mono hbev1.size); have K5 := KS.out v1 (hbur.trans (hb9.mono hbur.size)); have t9 := tAv1.stay h3; have ab := t9.blk.c8; have K6 := KS.out _ (below_set (below_set (below_set (below_set (below_set (below_set (below_set (below_set (hbur.trans (hb9.mono hbur.size)) (hbur.size) 0 (.int .i64 N.ino)) (hbur.size) 1 (.int .i64 N.kind)) (hbur.size) 2 (.int .i64 N.mode)) (hbur.size) 3 (.int .i64 N.uid)) (hbur.size) 4 (.int .i64 N.gid)) (hbur.size) 5 (.int .i64 N.parent)) (hbur.size) 6 (.string N.target)) (hbur.size) 7 (.slice va N.ents.length vc)); have HFN := Lib.hid (And.intro (show TB 43 ((((((((v1.setCell ⟨ur.heap.size, 0, none⟩ (.int .i64 N.ino)).setCell ⟨ur.heap.size, 1, none⟩ (.int .i64 N.kind)).setCell ⟨ur.heap.size, 2, none⟩ (.int .i64 N.mode)).setCell ⟨ur.heap.size, 3, none⟩ (.int .i64 N.uid)).setCell ⟨ur.heap.size, 4, none⟩ (.int .i64 N.gid)).setCell ⟨ur.heap.size, 5, none⟩ (.int .i64 N.parent)).setCell ⟨ur.heap.size, 6, none⟩ (.string N.target)).setCell ⟨ur.heap.size, 7, none⟩ (.slice va N.ents.length vc)) ur.heap.size [.int .i64 N.ino, .int .i64 N.kind, .int .i64 N.mode, .int .i64 N.uid, .int .i64 N.gid, .int .i64 N.parent, .string N.target, .slice va N.ents.length vc] from node_cells t9 (.int .i64 N.ino) (.int .i64 N.kind) (.int .i64 N.mode) (.int .i64 N.uid) (.int .i64 N.gid) (.int .i64 N.parent) (.string N.target) (.slice va N.ents.length vc)) (And.intro (show OwnE ur.heap.size ((((((((v1.setCell ⟨ur.heap.size, 0, none⟩ (.int .i64 N.ino)).setCell ⟨ur.heap.size, 1, none⟩ (.int .i64 N.kind)).setCell ⟨ur.heap.size, 2, none⟩ (.int .i64 N.mode)).setCell ⟨ur.heap.size, 3, none⟩ (.int .i64 N.uid)).setCell ⟨ur.heap.size, 4, none⟩ (.int .i64 N.gid)).setCell ⟨ur.heap.size, 5, none⟩ (.int .i64 N.parent)).setCell ⟨ur.heap.size, 6, none⟩ (.string N.target)).setCell ⟨ur.heap.size, 7, none⟩ (.slice va N.ents.length vc)) (.slice va N.ents.length vc) N.ents from own_set8 (own_mono h1 hbev1.size) (fun e => t9.ne h1 (by decide) e) (.int .i64 N.ino) (.int .i64 N.kind) (.int .i64 N.mode) (.int .i64 N.uid) (.int .i64 N.gid) (.int .i64 N.parent) (.string N.target) (.slice va N.ents.length vc)) ((below_set (below_set (below_set (below_set (below_set (below_set (below_set (below_set hb9 (Nat.le_refl _) 0 (.int .i64 N.ino)) (Nat.le_refl _) 1 (.int .i64 N.kind)) (Nat.le_refl _) 2 (.int .i64 N.mode)) (Nat.le_refl _) 3 (.int .i64 N.uid)) (Nat.le_refl _) 4 (.int .i64 N.gid)) (Nat.le_refl _) 5 (.int .i64 N.parent)) (Nat.le_refl _) 6 (.string N.target)) (Nat.le_refl _) 7 (.slice va N.ents.length vc))))); clear h3 t9))
        all_goals
          try clear K5
          try clear K6
          try obtain ⟨⟨a0, a1, a2, a3, a4, a5, a6, a7⟩, b0, b1, b2, b3, b4, b5, b6, b7⟩ := ab
          clear K4
          go_wp2_with fail
          go_meet
          exact ⟨_, va, vc, rfl, rfl, HFN.out⟩
      case rest =>
        obtain ⟨Av1, vav1, vcv1, rfl, rfl, tv1, ov1, hxv1⟩ := hcut
        rename World => v1
        clear K4 hbdv1 hbev1 tAv1 CSv1
        have hbv1 : Below u0.heap.size u0 v1 := hbur.trans (hxv1.mono hbur.size)
        have hbdv2 : Below v1.heap.size v1 v1.drew := (Below.refl _ _).drew
        have hbev2 : Below v1.heap.size v1 (v1.alloc (.cells #[.int .i64 0, .int .i64 0, .int .i64 0, .int .i64 0, .int .i64 0, .int .i64 0, .string ⟨#[]⟩, .slice none 0 0] 43)).drew := ((Below.refl _ _).alloc (Nat.le_refl _) _).drew
        have tAv2 : TB 43 (v1.alloc (.cells #[.int .i64 0, .int .i64 0, .int .i64 0, .int .i64 0, .int .i64 0, .int .i64 0, .string ⟨#[]⟩, .slice none 0 0] 43)).drew v1.heap.size [.int .i64 0, .int .i64 0, .int .i64 0, .int .i64 0, .int .i64 0, .int .i64 0, .string ⟨#[]⟩, .slice none 0 0] := (TB.new1 v1 [.int .i64 0, .int .i64 0, .int .i64 0, .int .i64 0, .int .i64 0, .int .i64 0, .string ⟨#[]⟩, .slice none 0 0] _ _ rfl).drew
        have K4 := KS.out v1 hbv1
        have CSv2 : Hid (∀ W, Below v1.heap.size v1 W → Calls Try.prog 18 #[.agg #[.slice fa F.length fc], .agg #[.int .i64 x.dev, .int .i64 x.ino]] W fun e w' => ∃ va vc, e = .returned (.tuple #[.agg #[.int .i64 N.ino, .int .i64 N.kind, .int .i64 N.mode, .int .i64 N.uid, .int .i64 N.gid, .int .i64 N.parent, .string N.target, .slice va N.ents.length vc], .bool O]) ∧ OwnE W.heap.size w' (.slice va N.ents.length vc) N.ents ∧ Below W.heap.size W w') := Lib.hid (fun W hb => got_form (rNode_any fa fc F x W (HFA.out W (hbv1.trans (hb.mono hbv1.size))) HO.out.sml) HN.out HOO.out)
        go_upto_region 9 with fail
        go_cut [16, 17] (fun sA sE W => ∃ (A : Nat) (va : Option Addr) (vc : Nat), sA = .pointer (some ⟨A, 0, none⟩) ∧ sE = .bool O ∧ TB 43 W A [.int .i64 N.ino, .int .i64 N.kind, .int .i64 N.mode, .int .i64 N.uid, .int .i64 N.gid, .int .i64 N.parent, .string N.target, .slice va N.ents.length vc] ∧ OwnE v1.heap.size W (.slice va N.ents.length vc) N.ents ∧ Below v1.heap.size v1 W)
        case first =>
          go_region_held3 (fun (W : World) => W.cell? ⟨w2.heap.size, 0, none⟩ = some (.slice fa F.length fc) ∧ W.cell? ⟨LF, q * 2, none⟩ = some (.int .i64 x.dev) ∧ W.cell? ⟨LF, q * 2 + 1, none⟩ = some (.int .i64 x.ino) ∧ W.cell? ⟨LN, q, none⟩ = some (.string nm))
            (first
              | (with_reducible exact K4)
              | (with_reducible exact K5)
              | (exact K6)
              | go_keep)
            (first
              | (go_at_call 18; (with_reducible refine (CSv2.out _ hbdv2).mono ?_); rintro e v2 ⟨va, vc, rfl, h1, h3⟩; have hb9 : Below v1.heap.size v1 v2 := hbdv2.trans h3; have K5 := KS.out v2 (hbv1.trans (hb9.mono hbv1.size)); have hbz := (Below.refl v2.heap.size v2).alloc (Nat.le_refl _) (.cells #[.int .i64 N.ino, .int .i64 N.kind, .int .i64 N.mode, .int .i64 N.uid, .int .i64 N.gid, .int .i64 N.parent, .string N.target, .slice va N.ents.length vc] 43); have K6 := KS.out _ ((hbv1.trans (hb9.mono hbv1.size)).trans (hbz.mono (by have := hb9.size; have := hbv1.size; omega))); have HFN := Lib.hid (And.intro (TB.new1 v2 [.int .i64 N.ino, .int .i64 N.kind, .int .i64 N.mode, .int .i64 N.uid, .int .i64 N.gid, .int .i64 N.parent, .string N.target, .slice va N.ents.length vc] 43 v2.heap.size rfl) (And.intro (ownE_stay h1 hbz) ((hb9.trans (hbz.mono hb9.size))))); clear h3 hbz)
              | (go_at_call 18; (with_reducible refine (CSv2.out _ hbev2).mono ?_); rintro e v2 ⟨va, vc, rfl, h1, h3⟩; have hb9 : Below v1.heap.size v1 v2 := hbev2.trans (h3.mono hbev2.size); have K5 := KS.out v2 (hbv1.trans (hb9.mono hbv1.size)); have t9 := tAv2.stay h3; have ab := t9.blk.c8; have K6 := KS.out _ (below_set (below_set (below_set (below_set (below_set (below_set (below_set (below_set (hbv1.trans (hb9.mono hbv1.size)) (hbv1.size) 0 (.int .i64 N.ino)) (hbv1.size) 1 (.int .i64 N.kind)) (hbv1.size) 2 (.int .i64 N.mode)) (hbv1.size) 3 (.int .i64 N.uid)) (hbv1.size) 4 (.int .i64 N.gid)) (hbv1.size) 5 (.int .i64 N.parent)) (hbv1.size) 6 (.string N.target)) (hbv1.size) 7 (.slice va N.ents.length vc)); have HFN := Lib.hid (And.intro (show TB 43 ((((((((v2.setCell ⟨v1.heap.size, 0, none⟩ (.int .i64 N.ino)).setCell ⟨v1.heap.size, 1, none⟩ (.int .i64 N.kind)).setCell ⟨v1.heap.size, 2, none⟩ (.int .i64 N.mode)).setCell ⟨v1.heap.size, 3, none⟩ (.int .i64 N.uid)).setCell ⟨v1.heap.size, 4, none⟩ (.int .i64 N.gid)).setCell ⟨v1.heap.size, 5, none⟩ (.int .i64 N.parent)).setCell ⟨v1.heap.size, 6, none⟩ (.string N.target)).setCell ⟨v1.heap.size, 7, none⟩ (.slice va N.ents.length vc)) v1.heap.size [.int .i64 N.ino, .int .i64 N.kind, .int .i64 N.mode, .int .i64 N.uid, .int .i64 N.gid, .int .i64 N.parent, .string N.target, .slice va N.ents.length vc] from node_cells t9 (.int .i64 N.ino) (.int .i64 N.kind) (.int .i64 N.mode) (.int .i64 N.uid) (.int .i64 N.gid) (.int .i64 N.parent) (.string N.target) (.slice va N.ents.length vc)) (And.intro (show OwnE v1.heap.size ((((((((v2.setCell ⟨v1.heap.size, 0, none⟩ (.int .i64 N.ino)).setCell ⟨v1.heap.size, 1, none⟩ (.int .i64 N.kind)).setCell ⟨v1.heap.size, 2, none⟩ (.int .i64 N.mode)).setCell ⟨v1.heap.size, 3, none⟩ (.int .i64 N.uid)).setCell ⟨v1.heap.size, 4, none⟩ (.int .i64 N.gid)).setCell ⟨v1.heap.size, 5, none⟩ (.int .i64 N.parent)).setCell ⟨v1.heap.size, 6, none⟩ (.string N.target)).setCell ⟨v1.heap.size, 7, none⟩ (.slice va N.ents.length vc)) (.slice va N.ents.length vc) N.ents from own_set8 (own_mono h1 hbev2.size) (fun e => t9.ne h1 (by decide) e) (.int .i64 N.ino) (.int .i64 N.kind) (.int .i64 N.mode) (.int .i64 N.uid) (.int .i64 N.gid) (.int .i64 N.parent) (.string N.target) (.slice va N.ents.length vc)) ((below_set (below_set (below_set (below_set (below_set (below_set (below_set (below_set hb9 (Nat.le_refl _) 0 (.int .i64 N.ino)) (Nat.le_refl _) 1 (.int .i64 N.kind)) (Nat.le_refl _) 2 (.int .i64 N.mode)) (Nat.le_refl _) 3 (.int .i64 N.uid)) (Nat.le_refl _) 4 (.int .i64 N.gid)) (Nat.le_refl _) 5 (.int .i64 N.parent)) (Nat.le_refl _) 6 (.string N.target)) (Nat.le_refl _) 7 (.slice va N.ents.length vc))))); clear h3 t9))
          all_goals
            try clear K5
            try clear K6
            try obtain ⟨⟨a0, a1, a2, a3, a4, a5, a6, a7⟩, b0, b1, b2, b3, b4, b5, b6, b7⟩ := ab
            clear K4
            go_wp2_with fail
            go_meet
            exact ⟨_, va, vc, rfl, rfl, HFN.out⟩
        case rest =>
          obtain ⟨Av2, vav2, vcv2, rfl, rfl, tv2, ov2, hxv2⟩ := hcut
          rename World => v2
          clear K4 hbdv2 hbev2 tAv2 CSv2
          have hbv2 : Below u0.heap.size u0 v2 := hbv1.trans (hxv2.mono hbv1.size)
          have hbdv3 : Below v2.heap.size v2 v2.drew := (Below.refl _ _).drew
          have hbev3 : Below v2.heap.size v2 (v2.alloc (.cells #[.int .i64 0, .int .i64 0] 36)).drew := ((Below.refl _ _).alloc (Nat.le_refl _) _).drew
          have tAv3 : TB 36 (v2.alloc (.cells #[.int .i64 0, .int .i64 0] 36)).drew v2.heap.size [.int .i64 0, .int .i64 0] := (TB.new1 v2 [.int .i64 0, .int .i64 0] _ _ rfl).drew
          have K4 := KS.out v2 hbv2
          have CSv3 : Hid (∀ W, Below v2.heap.size v2 W → Calls Try.prog 19 #[.agg #[.slice fa F.length fc], .agg #[.int .i64 x.dev, .int .i64 x.ino], .string nm] W fun e w' => e = .returned (.tuple #[.agg #[.int .i64 pd, .int .i64 pi], .int .i64 pe]) ∧ Below W.heap.size W w') := Lib.hid (fun W hb => by have := Look_any fa fc F x nm W (HFA.out W (hbv2.trans (hb.mono hbv2.size))) HO.out.sml HO.out.srt; rw [← HRL.out] at this; exact this)
          go_upto_region 10 with fail
          go_cut [18, 19] (fun sA sE W => ∃ (A : Nat), sA = .pointer (some ⟨A, 0, none⟩) ∧ sE = .int .i64 pe ∧ TB 36 W A [.int .i64 pd, .int .i64 pi] ∧ Below v2.heap.size v2 W)
          case first =>
            go_region_held3 (fun (W : World) => W.cell? ⟨w2.heap.size, 0, none⟩ = some (.slice fa F.length fc) ∧ W.cell? ⟨LF, q * 2, none⟩ = some (.int .i64 x.dev) ∧ W.cell? ⟨LF, q * 2 + 1, none⟩ = some (.int .i64 x.ino) ∧ W.cell? ⟨LN, q, none⟩ = some (.string nm))
              (first
                | (with_reducible exact K4)
                | (with_reducible exact K5)
                | (exact K6)
                | go_keep)
              (first
                | (go_at_call 19; (with_reducible refine (CSv3.out _ hbdv3).mono ?_); rintro e v3 ⟨rfl, h3⟩; have hb9 : Below v2.heap.size v2 v3 := hbdv3.trans h3; have K5 := KS.out v3 (hbv2.trans (hb9.mono hbv2.size)); have hbz := (Below.refl v3.heap.size v3).alloc (Nat.le_refl _) (.cells #[.int .i64 pd, .int .i64 pi] 36); have K6 := KS.out _ ((hbv2.trans (hb9.mono hbv2.size)).trans (hbz.mono (by have := hb9.size; have := hbv2.size; omega))); have HFN := Lib.hid (And.intro (TB.new1 v3 [.int .i64 pd, .int .i64 pi] 36 v3.heap.size rfl) ((hb9.trans (hbz.mono hb9.size)))); clear h3 hbz)
                | (go_at_call 19; (with_reducible refine (CSv3.out _ hbev3).mono ?_); rintro e v3 ⟨rfl, h3⟩; have hb9 : Below v2.heap.size v2 v3 := hbev3.trans (h3.mono hbev3.size); have K5 := KS.out v3 (hbv2.trans (hb9.mono hbv2.size)); have t9 := tAv3.stay h3; have ab := t9.blk.c2; have K6 := KS.out _ (below_set (below_set (hbv2.trans (hb9.mono hbv2.size)) (hbv2.size) 0 (.int .i64 pd)) (hbv2.size) 1 (.int .i64 pi)); have HFN := Lib.hid (And.intro (show TB 36 ((v3.setCell ⟨v2.heap.size, 0, none⟩ (.int .i64 pd)).setCell ⟨v2.heap.size, 1, none⟩ (.int .i64 pi)) v2.heap.size [.int .i64 pd, .int .i64 pi] from (TB.set (TB.set t9 0 (.int .i64 pd)) 1 (.int .i64 pi))) ((below_set (below_set hb9 (Nat.le_refl _) 0 (.int .i64 pd)) (Nat.le_refl _) 1 (.int .i64 pi)))); clear h3 t9))
            all_goals
              try clear K5
              try clear K6
              try obtain ⟨a0, a1, b0, b1⟩ := ab
              clear K4
              go_wp2_with fail
              go_meet
              exact ⟨_, rfl, rfl, HFN.out⟩
          case rest =>
            obtain ⟨Av3, rfl, rfl, tv3, hxv3⟩ := hcut
            rename World => v3
            clear K4 hbdv3 hbev3 tAv3 CSv3
            have hbv3 : Below u0.heap.size u0 v3 := hbv2.trans (hxv3.mono hbv2.size)
            have hbdv4 : Below v3.heap.size v3 v3.drew := (Below.refl _ _).drew
            have hbev4 : Below v3.heap.size v3 (v3.alloc (.cells #[.int .i64 0, .int .i64 0] 36)).drew := ((Below.refl _ _).alloc (Nat.le_refl _) _).drew
            have tAv4 : TB 36 (v3.alloc (.cells #[.int .i64 0, .int .i64 0] 36)).drew v3.heap.size [.int .i64 0, .int .i64 0] := (TB.new1 v3 [.int .i64 0, .int .i64 0] _ _ rfl).drew
            have K4 := KS.out v3 hbv3
            have CSv4 : Hid (∀ W, Below v3.heap.size v3 W → Calls Try.prog 20 #[.agg #[.slice fa F.length fc], .agg #[.int .i64 x.dev, .int .i64 x.ino], .string nm] W fun e w' => e = .returned (.tuple #[.agg #[.int .i64 pd, .int .i64 pi], .int .i64 pe]) ∧ Below W.heap.size W w') := Lib.hid (fun W hb => by have := rLook_any fa fc F x nm W (HFA.out W (hbv3.trans (hb.mono hbv3.size))) HO.out.sml; rw [← HRL.out] at this; exact this)
            go_upto_region 11 with fail
            go_cut [20, 21] (fun sA sE W => ∃ (A : Nat), sA = .pointer (some ⟨A, 0, none⟩) ∧ sE = .int .i64 pe ∧ TB 36 W A [.int .i64 pd, .int .i64 pi] ∧ Below v3.heap.size v3 W)
            case first =>
              go_region_held3 (fun (W : World) => W.cell? ⟨w2.heap.size, 0, none⟩ = some (.slice fa F.length fc) ∧ W.cell? ⟨LF, q * 2, none⟩ = some (.int .i64 x.dev) ∧ W.cell? ⟨LF, q * 2 + 1, none⟩ = some (.int .i64 x.ino) ∧ W.cell? ⟨LN, q, none⟩ = some (.string nm))
                (first
                  | (with_reducible exact K4)
                  | (with_reducible exact K5)
                  | (exact K6)
                  | go_keep)
                (first
                  | (go_at_call 20; (with_reducible refine (CSv4.out _ hbdv4).mono ?_); rintro e v4 ⟨rfl, h3⟩; have hb9 : Below v3.heap.size v3 v4 := hbdv4.trans h3; have K5 := KS.out v4 (hbv3.trans (hb9.mono hbv3.size)); have hbz := (Below.refl v4.heap.size v4).alloc (Nat.le_refl _) (.cells #[.int .i64 pd, .int .i64 pi] 36); have K6 := KS.out _ ((hbv3.trans (hb9.mono hbv3.size)).trans (hbz.mono (by have := hb9.size; have := hbv3.size; omega))); have HFN := Lib.hid (And.intro (TB.new1 v4 [.int .i64 pd, .int .i64 pi] 36 v4.heap.size rfl) ((hb9.trans (hbz.mono hb9.size)))); clear h3 hbz)
                  | (go_at_call 20; (with_reducible refine (CSv4.out _ hbev4).mono ?_); rintro e v4 ⟨rfl, h3⟩; have hb9 : Below v3.heap.size v3 v4 := hbev4.trans (h3.mono hbev4.size); have K5 := KS.out v4 (hbv3.trans (hb9.mono hbv3.size)); have t9 := tAv4.stay h3; have ab := t9.blk.c2; have K6 := KS.out _ (below_set (below_set (hbv3.trans (hb9.mono hbv3.size)) (hbv3.size) 0 (.int .i64 pd)) (hbv3.size) 1 (.int .i64 pi)); have HFN := Lib.hid (And.intro (show TB 36 ((v4.setCell ⟨v3.heap.size, 0, none⟩ (.int .i64 pd)).setCell ⟨v3.heap.size, 1, none⟩ (.int .i64 pi)) v3.heap.size [.int .i64 pd, .int .i64 pi] from (TB.set (TB.set t9 0 (.int .i64 pd)) 1 (.int .i64 pi))) ((below_set (below_set hb9 (Nat.le_refl _) 0 (.int .i64 pd)) (Nat.le_refl _) 1 (.int .i64 pi)))); clear h3 t9))
              all_goals
                try clear K5
                try clear K6
                try obtain ⟨a0, a1, b0, b1⟩ := ab
                clear K4
                go_wp2_with fail
                go_meet
                exact ⟨_, rfl, rfl, HFN.out⟩
            case rest =>
              obtain ⟨Av4, rfl, rfl, tv4, hxv4⟩ := hcut
              rename World => v4
              clear K4 hbdv4 hbev4 tAv4 CSv4
              have hbv4 : Below u0.heap.size u0 v4 := hbv3.trans (hxv4.mono hbv3.size)
              have s24 := hxv2.trans ((hxv3.trans (hxv4.mono hxv3.size)).mono hxv2.size)
              have s34 := hxv3.trans (hxv4.mono hxv3.size)
              have tA1 := tv1.stay s24
              have tA2 := tv2.stay s34
              have tA3 := tv3.stay hxv4
              have o1 := ownE_stay ov1 s24
              have o2 := ownE_stay ov2 s34
              have HNL : N.ents.length ≤ 1000 := by
                rw [← HN.out]
                cases hn : nodeF F x with
                | none => simp [noN]
                | some n =>
                  obtain ⟨d, hd, hnd⟩ := nodeF_of hn
                  have := ((HO.out.dev hd).pre.dir n (mem_of hnd)).1
                  show n.ents.length ≤ 1000
                  omega
              have CSN := Lib.hid (fun W (hb : Below v4.heap.size v4 W) => SameNode_true N vav1 vav2 vcv1 vcv2 W (by
                obtain ⟨a', c', h1, -, -, h2⟩ := (ownE_stay o1 hb).at_
                injection h1 with h1 _ _
                rw [h1]
                exact h2) (by
                obtain ⟨a', c', h1, -, -, h2⟩ := (ownE_stay o2 hb).at_
                injection h1 with h1 _ _
                rw [h1]
                exact h2) HNL)
              have CL1 := Lib.hid (fun W (hb : Below v4.heap.size v4 W) => Links_any fa fc F x W (HFA.out W (hbv4.trans (hb.mono hbv4.size))) HO.out.sml)
              have CL2 := Lib.hid (fun W (hb : Below v4.heap.size v4 W) => rLinks_any fa fc F x W (HFA.out W (hbv4.trans (hb.mono hbv4.size))) HO.out.sml)
              generalize linksF F x = LK at *
              have K0 : Hid (∀ W, Below v4.heap.size v4 W → W.cell? ⟨w2.heap.size, 0, none⟩ = some (.slice fa F.length fc) ∧ W.cell? ⟨LF, q * 2, none⟩ = some (.int .i64 x.dev) ∧ W.cell? ⟨LF, q * 2 + 1, none⟩ = some (.int .i64 x.ino) ∧ W.cell? ⟨Av1, 0, none⟩ = some (.int .i64 N.ino) ∧ W.cell? ⟨Av1, 1, none⟩ = some (.int .i64 N.kind) ∧ W.cell? ⟨Av1, 2, none⟩ = some (.int .i64 N.mode) ∧ W.cell? ⟨Av1, 3, none⟩ = some (.int .i64 N.uid) ∧ W.cell? ⟨Av1, 4, none⟩ = some (.int .i64 N.gid) ∧ W.cell? ⟨Av1, 5, none⟩ = some (.int .i64 N.parent) ∧ W.cell? ⟨Av1, 6, none⟩ = some (.string N.target) ∧ W.cell? ⟨Av1, 7, none⟩ = some (.slice vav1 N.ents.length vcv1) ∧ W.cell? ⟨Av2, 0, none⟩ = some (.int .i64 N.ino) ∧ W.cell? ⟨Av2, 1, none⟩ = some (.int .i64 N.kind) ∧ W.cell? ⟨Av2, 2, none⟩ = some (.int .i64 N.mode) ∧ W.cell? ⟨Av2, 3, none⟩ = some (.int .i64 N.uid) ∧ W.cell? ⟨Av2, 4, none⟩ = some (.int .i64 N.gid) ∧ W.cell? ⟨Av2, 5, none⟩ = some (.int .i64 N.parent) ∧ W.cell? ⟨Av2, 6, none⟩ = some (.string N.target) ∧ W.cell? ⟨Av2, 7, none⟩ = some (.slice vav2 N.ents.length vcv2) ∧ W.cell? ⟨Av3, 0, none⟩ = some (.int .i64 pd) ∧ W.cell? ⟨Av3, 1, none⟩ = some (.int .i64 pi) ∧ W.cell? ⟨Av4, 0, none⟩ = some (.int .i64 pd) ∧ W.cell? ⟨Av4, 1, none⟩ = some (.int .i64 pi)) := Lib.hid (fun W hb => by
                obtain ⟨k1, k2, k3, -⟩ := KS.out W (hbv4.trans (hb.mono hbv4.size))
                obtain ⟨⟨a0, a1, a2, a3, a4, a5, a6, a7⟩, -⟩ := (tA1.stay hb).blk.c8
                obtain ⟨⟨b0, b1, b2, b3, b4, b5, b6, b7⟩, -⟩ := (tA2.stay hb).blk.c8
                obtain ⟨c0, c1, -⟩ := (tA3.stay hb).blk.c2
                obtain ⟨d0, d1, -⟩ := (tv4.stay hb).blk.c2
                exact ⟨k1, k2, k3, a0, a1, a2, a3, a4, a5, a6, a7, b0, b1, b2, b3, b4, b5, b6, b7, c0, c1, d0, d1⟩)
              have K4 := K0.out v4 (Below.refl _ _)
              have hbd4 : Below v4.heap.size v4 v4.drew := (Below.refl _ _).drew
              have NF : ∀ W, (binOp .neq 36 (.agg #[.int .i64 pd, .int .i64 pi]) (.agg #[.int .i64 pd, .int .i64 pi])).run Try.prog W = .ok (.bool false) W := fun W => by rw [neq_file]; simp
              have e1 : (O != O) = false := by simp
              have e3 : (pe != pe) = false := by simp
              have e7 : (((LK : Nat) : Int) != ((LK : Nat) : Int)) = false := by simp
              have HBV := Lib.hid hbv4
              clear tA1 tA2 tA3 tv1 tv2 tv3 tv4 o1 o2 ov1 ov2 s24 s34 HNL hbv1 hbv2 hbv3 hbv4 hbur hxv1 hxv2 hxv3 hxv4 HN HOO HRL
              go_upto_region 12 with fail
              go_region_held3 (fun (W : World) => W.cell? ⟨w2.heap.size, 0, none⟩ = some (.slice fa F.length fc) ∧ W.cell? ⟨LF, q * 2, none⟩ = some (.int .i64 x.dev) ∧ W.cell? ⟨LF, q * 2 + 1, none⟩ = some (.int .i64 x.ino) ∧ W.cell? ⟨Av1, 0, none⟩ = some (.int .i64 N.ino) ∧ W.cell? ⟨Av1, 1, none⟩ = some (.int .i64 N.kind) ∧ W.cell? ⟨Av1, 2, none⟩ = some (.int .i64 N.mode) ∧ W.cell? ⟨Av1, 3, none⟩ = some (.int .i64 N.uid) ∧ W.cell? ⟨Av1, 4, none⟩ = some (.int .i64 N.gid) ∧ W.cell? ⟨Av1, 5, none⟩ = some (.int .i64 N.parent) ∧ W.cell? ⟨Av1, 6, none⟩ = some (.string N.target) ∧ W.cell? ⟨Av1, 7, none⟩ = some (.slice vav1 N.ents.length vcv1) ∧ W.cell? ⟨Av2, 0, none⟩ = some (.int .i64 N.ino) ∧ W.cell? ⟨Av2, 1, none⟩ = some (.int .i64 N.kind) ∧ W.cell? ⟨Av2, 2, none⟩ = some (.int .i64 N.mode) ∧ W.cell? ⟨Av2, 3, none⟩ = some (.int .i64 N.uid) ∧ W.cell? ⟨Av2, 4, none⟩ = some (.int .i64 N.gid) ∧ W.cell? ⟨Av2, 5, none⟩ = some (.int .i64 N.parent) ∧ W.cell? ⟨Av2, 6, none⟩ = some (.string N.target) ∧ W.cell? ⟨Av2, 7, none⟩ = some (.slice vav2 N.ents.length vcv2) ∧ W.cell? ⟨Av3, 0, none⟩ = some (.int .i64 pd) ∧ W.cell? ⟨Av3, 1, none⟩ = some (.int .i64 pi) ∧ W.cell? ⟨Av4, 0, none⟩ = some (.int .i64 pd) ∧ W.cell? ⟨Av4, 1, none⟩ = some (.int .i64 pi))
                (first
                  | (with_reducible exact K4)
                  | (with_reducible exact K5)
                  | (with_reducible exact K6)
                  | (with_reducible exact K7)
                  | go_keep)
                (first
                  | (go_at_call 21; (with_reducible refine (CSN.out _ hbd4).mono ?_); rintro e v5 ⟨rfl, hb5'⟩; have hb5 : Below v4.heap.size v4 v5 := hbd4.trans hb5'; have K5 := K0.out v5 hb5)
                  | (go_at_call 22; (with_reducible refine (CL1.out _ hb5).mono ?_); rintro e v6 ⟨rfl, hb6'⟩; have hb6 : Below v4.heap.size v4 v6 := hb5.trans (hb6'.mono hb5.size); have K6 := K0.out v6 hb6)
                  | (go_at_call 23; (with_reducible refine (CL2.out _ hb6).mono ?_); rintro e v7 ⟨rfl, hb7'⟩; have hb7 : Below v4.heap.size v4 v7 := hb6.trans (hb7'.mono hb6.size); have K7 := K0.out v7 hb7))
              have hfin : Below u0.heap.size u0 v7 := HBV.out.trans (hb7.mono HBV.out.size)
              clear K4 K5 K6 K7 hb5 hb5' hb6 hb6' hb7 hb7' CSN CL1 CL2 hbd4
              go_wp2_with fail
              exact ⟨⟨q + 1, by omega, by go_num, hfin⟩, by simp [intOf]; omega⟩
    · have hqq : ¬ (q : Int) < 5 := by omega
      have CA2 := Lib.hid (CA.out ur)
      have hbw : Below w.heap.size w ur := HB.out.trans (hbur.mono HB.out.size)
      clear CA hbur
      go_wp2_with fail
      refine CA2.out.mono ?_
      rintro e w4 ⟨rfl, hb4⟩
      have hbf := hbw.trans (hb4.mono hbw.size)
      clear hb4 hbw CA2
      go_wp2_with fail
      go_ret
      exact ⟨rfl, hbf⟩
end Go.Proofs.Ytafnbpkdenjipaa.fl
namespace Go.Proofs.Ytafnbpkdenjipaa.filesReads
open Go.RowKit Go.Proofs.Ytafnbpkdenjipaa.fl
theorem walk (a : Option Addr) (len cap : Nat) (zs : List Int) (dev ino : Int) (s : ByteArray) (w : World) (hr : IsRow .i64 w a len cap zs) (_ : (Lit.int .i64 dev).wf = true) (_ : (Lit.int .i64 ino).wf = true) (_ : s.size ≤ maxLen) (_ : laidMetH Try.prog Rows.filesReadsRow.laid w) (_ : w.ShapedOpen Try.prog) : Calls Try.prog 4 #[.slice a len cap, .int .i64 dev, .int .i64 ino, .string s] w fun e w' => e = .returned (.bool true) ∧ Below w.heap.size w w' := filesReads_any a len cap dev ino s w (cm.nums_of_row hr)
end Go.Proofs.Ytafnbpkdenjipaa.filesReads
