/-
  The reference of files: index, Node, Dir, Look, place, full, Empty.
  The reference of files: what it reads off a node.
  The reference of files: Look, Links.
  The reference of files: Links, below.
  The reference of files: Copy.
-/
import Derived.Test.YtafnbpkdenjipaaFGl
import Derived.BigQuiet
import Derived.Laws.AppendOwnNone
namespace Go.Proofs.Ytafnbpkdenjipaa.fl
open Go.RowKit Go.Proofs.Ytafnbpkdenjipaa.cm

def ixF (F : FilP) (x : At) : Int := match devF F x.dev with | some d => idxI d.nodes x.ino | none => -1
theorem ix_none {F : FilP} {x : At} (h : nodeF F x = none) : ixF F x = -1 := by
  unfold ixF
  cases hd : devF F x.dev with
  | none => rfl
  | some d =>
    show idxI d.nodes x.ino = -1
    cases hi : idxL d.nodes x.ino with
    | none => exact idxI_none hi
    | some k =>
      obtain ⟨n, -, -, hn, -⟩ := idxL_node hi
      unfold nodeF at h
      rw [hd] at h
      have h : nodeL d.nodes x.ino = none := h
      rw [hn] at h
      cases h
theorem ix_some {F : FilP} {j k : Nat} {d : DevP} {i : Int} (hd : F[j]? = some d) (hi : idxL d.nodes i = some k) : ixF F ⟨(j : Int), i⟩ = (k : Int) := by
  unfold ixF
  rw [show devF F (⟨(j : Int), i⟩ : At).dev = some d from devF_idx.trans hd]
  exact idxI_some hi

set_option maxRecDepth 100000 in
set_option maxHeartbeats 1000000 in
theorem rindex_any (a : Option Addr) (cap : Nat) (F : FilP) (x : At) (w : World) (hF : FilesAt w a F) (hS : Sml F) :
    Calls Try.prog 41 #[.agg #[.slice a F.length cap], .agg #[.int .i64 x.dev, .int .i64 x.ino]] w fun e w' => e = .returned (.int .i64 (ixF F x)) ∧ Below w.heap.size w w' := by
  have hb1 : Below w.heap.size w (w.alloc (.cells #[.slice a F.length cap] 24)) := (Below.refl _ _).alloc (Nat.le_refl _) _
  have hb2 := hb1.alloc hb1.size (.cells #[.int .i64 x.dev, .int .i64 x.ino] 36)
  have tX : TB 36 ((w.alloc (.cells #[.slice a F.length cap] 24)).alloc (.cells #[.int .i64 x.dev, .int .i64 x.ino] 36)) (w.heap.size + 1) [.int .i64 x.dev, .int .i64 x.ino] := TB.new1 _ _ _ _ (size_alloc _ _)
  obtain ⟨dv, ino⟩ := x
  have hlen := hS.len
  by_cases h0 : dv < 0
  · have HR : Hid (ixF F ⟨dv, ino⟩ = -1) := Lib.hid (by unfold ixF; rw [show devF F (⟨dv, ino⟩ : At).dev = none from devF_neg h0])
    clear hF hS tX
    go_enter Try.func41, Try.ntmps41
    go_wp2_with fail
    go_ret
    exact ⟨ret_int HR.out.symm, hb2⟩
  · obtain ⟨j, rfl⟩ := Int.eq_ofNat_of_zero_le (by omega : 0 ≤ dv)
    by_cases h1 : F.length ≤ j
    · have HR : Hid (ixF F ⟨(j : Int), ino⟩ = -1) := Lib.hid (by unfold ixF; rw [show devF F (⟨(j : Int), ino⟩ : At).dev = none from devF_past h1])
      have e1 : ((j : Int) ≥ (F.length : Int)) := by omega
      clear hF hS tX
      go_enter Try.func41, Try.ntmps41
      go_wp2_with fail
      go_ret
      exact ⟨ret_int HR.out.symm, hb2⟩
    · have hj : j < F.length := by omega
      have hd : F[j]? = some F[j] := List.getElem?_eq_getElem hj
      have hm : F[j] ∈ F := List.getElem_mem hj
      have hnl := hS.nodes _ hm
      obtain ⟨b, o, rfl, hda⟩ := hF.dev hd
      generalize F[j] = d at *
      obtain ⟨c0, va, cv, c1, hcv, -, hns⟩ := hda
      have HIX : Hid (ixF F ⟨(j : Int), ino⟩ = idxI d.nodes ino) := Lib.hid (by unfold ixF; rw [show devF F (⟨(j : Int), ino⟩ : At).dev = some d from devF_idx.trans hd])
      have FIN : Hid (∀ (k : Nat) (n : NodeP), NoN d.nodes ino k → d.nodes[k]? = some n → n.ino = ino → (k : Int) = ixF F ⟨(j : Int), ino⟩) := Lib.hid (fun k n h hn hi => by rw [HIX.out]; exact (idxI_some (h.hit hn hi)).symm)
      have FIN0 : Hid (NoN d.nodes ino d.nodes.length → (-1 : Int) = ixF F ⟨(j : Int), ino⟩) := Lib.hid (fun h => by rw [HIX.out]; exact (idxI_none h.miss).symm)
      have hjj : (j : Int) < (F.length : Int) := by omega
      have c1' := cell_stays c1 hb2
      have HN := Lib.hid (fun W (h : Below w.heap.size w W) => RowAt.below NodeAt.stays hns h)
      have e1 : ¬ ((j : Int) ≥ (F.length : Int)) := by omega
      clear hF hS hns c0 hd hm h0 h1
      go_enter Try.func41, Try.ntmps41
      go_wp2_with fail
      go_loopw [6] (fun i wr => ∃ k : Nat, k ≤ d.nodes.length ∧ i = .int .i64 k ∧ Hid (NoN d.nodes ino k) ∧ Below w.heap.size w wr ∧ TB 36 wr (w.heap.size + 1) [.int .i64 (j : Int), .int .i64 ino]) (fun i _ => d.nodes.length - (intOf i).toNat)
      case atStart => exact ⟨0, Nat.zero_le _, rfl, Lib.hid (NoN.zero _ _), hb2, tX⟩
      case round =>
        obtain ⟨k, hk, rfl, HNo, hb, q⟩ := hrel
        clear c1 c1' tX hb1 hb2
        by_cases hlt : k < d.nodes.length
        · obtain ⟨b', o', rfl, hp⟩ := (HN.out _ hb).get hlt
          have HPK := Lib.hid (List.getElem?_eq_getElem hlt)
          have a0 := hp.c0
          generalize d.nodes[k] = n at *
          have hkk : (k : Int) < (d.nodes.length : Int) := by omega
          obtain ⟨-, q1, -⟩ := q.blk.c2
          have HQ := Lib.hid (And.intro hb q)
          clear hp
          by_cases he : n.ino = ino
          · have HF := Lib.hid (FIN.out k n HNo.out HPK.out he)
            have e1 : (n.ino == ino) = true := by simpa using he
            clear he
            go_wp2_with fail
            go_quiet (fail)
            go_wp2_with fail
            go_ret
            exact ⟨ret_int HF.out, ⟨HQ.out.1.os, HQ.out.1.tape, HQ.out.1.output, HQ.out.1.size, HQ.out.1.block⟩⟩
          · have HN2 := Lib.hid (HNo.out.succ HPK.out he)
            have e1 : (n.ino == ino) = false := by simpa using he
            clear he
            go_wp2_with fail
            go_quiet (fail)
            go_wp2_with fail
            exact ⟨⟨k + 1, by omega, by go_num, HN2, ⟨HQ.out.1.os, HQ.out.1.tape, HQ.out.1.output, HQ.out.1.size, HQ.out.1.block⟩, HQ.out.2⟩, by simp [intOf]; omega⟩
        · have HF := Lib.hid (FIN0.out (by have : k = d.nodes.length := by omega
                                           rw [← this]; exact HNo.out))
          have hkk : ¬ (k : Int) < (d.nodes.length : Int) := by omega
          go_wp2_with fail
          go_ret
          exact ⟨ret_int HF.out, hb⟩

set_option maxRecDepth 100000 in
set_option maxHeartbeats 2000000 in
theorem rNode_any (a : Option Addr) (cap : Nat) (F : FilP) (x : At) (w : World) (hF : FilesAt w a F) (hS : Sml F) :
    Calls Try.prog 18 #[.agg #[.slice a F.length cap], .agg #[.int .i64 x.dev, .int .i64 x.ino]] w (GotR (nodeF F x) w) := by
  have hb1 : Below w.heap.size w (w.alloc (.cells #[.slice a F.length cap] 24)) := (Below.refl _ _).alloc (Nat.le_refl _) _
  have hb2 := hb1.alloc hb1.size (.cells #[.int .i64 x.dev, .int .i64 x.ino] 36)
  have hb3 := hb2.alloc hb2.size (.cells #[.int .i64 0, .int .i64 0, .int .i64 0, .int .i64 0, .int .i64 0, .int .i64 0, .string ⟨#[]⟩, .slice none 0 0] 43)
  obtain ⟨w3, hw3⟩ : ∃ w3, w3 = ((w.alloc (.cells #[.slice a F.length cap] 24)).alloc (.cells #[.int .i64 x.dev, .int .i64 x.ino] 36)).alloc (.cells #[.int .i64 0, .int .i64 0, .int .i64 0, .int .i64 0, .int .i64 0, .int .i64 0, .string ⟨#[]⟩, .slice none 0 0] 43) := ⟨_, rfl⟩
  have tA : TB 24 w3 w.heap.size [.slice a F.length cap] := by rw [hw3]; exact ((TB.new1 w _ _ _ rfl).alloc _).alloc _
  have tX : TB 36 w3 (w.heap.size + 1) [.int .i64 x.dev, .int .i64 x.ino] := by rw [hw3]; exact (TB.new1 _ _ _ _ (size_alloc _ _)).alloc _
  have tR : TB 43 w3 (w.heap.size + 1 + 1) [.int .i64 0, .int .i64 0, .int .i64 0, .int .i64 0, .int .i64 0, .int .i64 0, .string ⟨#[]⟩, .slice none 0 0] := by rw [hw3]; exact TB.new1 _ [.int .i64 0, .int .i64 0, .int .i64 0, .int .i64 0, .int .i64 0, .int .i64 0, .string ⟨#[]⟩, .slice none 0 0] _ _ (by rw [size_alloc, size_alloc])
  rw [← hw3] at hb3
  have CI := Lib.hid (rindex_any a cap F x w3 (hF.below hb3) hS)
  have HW := Lib.hid hw3
  have HS := Lib.hid hS
  have HFA := Lib.hid (fun W (h : Below w.heap.size w W) => hF.below h)
  obtain ⟨x0, -⟩ := tA.blk.c1
  obtain ⟨x1, x2, -⟩ := tX.blk.c2
  clear hw3 hb1 hb2 hF hS
  cases hn : nodeF F x with
  | none =>
    rw [ix_none hn] at CI
    go_enter Try.func18, Try.ntmps18
    go_upto_region 1 with fail
    rw [← HW.out]
    clear HW
    go_wp2_with fail
    refine CI.out.mono ?_
    rintro e w4 ⟨rfl, hb4⟩
    have uR := tR.stay hb4
    have hb := hb3.trans (hb4.mono hb3.size)
    have t2 := node_cells uR (.int .i64 0) (.int .i64 0) (.int .i64 0) (.int .i64 0) (.int .i64 0) (.int .i64 0) (.string ⟨#[]⟩) (.slice none 0 0)
    obtain ⟨⟨n0, n1, n2, n3, n4, n5, n6, n7⟩, -⟩ := t2.blk.c8
    obtain ⟨⟨r0, r1, r2, r3, r4, r5, r6, r7⟩, z0, z1, z2, z3, z4, z5, z6, z7⟩ := uR.blk.c8
    have hf8 := below_set8 hb (show w.heap.size ≤ w.heap.size + 1 + 1 by omega) (.int .i64 0) (.int .i64 0) (.int .i64 0) (.int .i64 0) (.int .i64 0) (.int .i64 0) (.string ⟨#[]⟩) (.slice none 0 0)
    have HFN := Lib.hid (show GotR none w (.returned (.tuple #[nval noN (.slice none 0 0), .bool false])) _ from ⟨.slice none 0 0, rfl, OwnE.nil _ _, hf8⟩)
    clear hn uR hb t2 hf8 hb4 hb3 tR CI HS x0 x1 x2 tA tX HFA
    go_wp2_with fail
    exact bodyPost_ret (v := .tuple #[nval noN (.slice none 0 0), .bool false]) (by simp [nval, noN, results, Try.f18, go_sem, n0, n1, n2, n3, n4, n5, n6, n7]) rfl HFN.out
  | some n =>
    obtain ⟨j, k, d, hj, hd, hi, hk⟩ := node_where hn
    obtain ⟨xd, xi⟩ := x
    obtain rfl : xd = (j : Int) := hj
    rw [ix_some hd hi] at CI
    have hle := HS.out.ents d (List.mem_of_getElem? hd) n (List.mem_of_getElem? hk)
    have hjl : (j : Int) < (F.length : Int) := by
      have := (List.getElem?_eq_some_iff.1 hd).1
      omega
    have hkl : (k : Int) < (d.nodes.length : Int) := by
      have := (List.getElem?_eq_some_iff.1 hk).1
      omega
    obtain ⟨b, o, rfl, hda⟩ := (HFA.out _ hb3).dev hd
    obtain ⟨-, va, cva, c1, -, -, hns⟩ := hda
    obtain ⟨hk', hke⟩ := List.getElem?_eq_some_iff.1 hk
    obtain ⟨b', o', rfl, hp⟩ := RowAt.get hns hk'
    rw [hke] at hp
    have HP := Lib.hid (fun W (h : Below w3.heap.size w3 W) => And.intro (cell_stays c1 h) (NodeAt.stays _ _ _ _ _ hp h))
    have HL := Lib.hid hle
    clear hn hd hi hk hke hk' hns hp hle c1
    go_enter Try.func18, Try.ntmps18
    go_upto_region 1 with fail
    rw [← HW.out]
    clear HW
    go_wp2_with fail
    refine CI.out.mono ?_
    rintro e w4 ⟨rfl, hb4⟩
    have uA := (tA.stay hb4).blk.c1.1
    have uX := (tX.stay hb4).blk.c2.1
    have hb := hb3.trans (hb4.mono hb3.size)
    obtain ⟨c1, p0, p1, p2, p3, p4, p5, p6, ve, ce, p7, hce, hnz, hE⟩ := HP.out _ hb4
    obtain ⟨w5, hw5⟩ : ∃ w5, w5 = w4.alloc (.cells #[.int .i64 n.ino, .int .i64 n.kind, .int .i64 n.mode, .int .i64 n.uid, .int .i64 n.gid, .int .i64 n.parent, .string n.target, .slice ve n.ents.length ce] 43) := ⟨_, rfl⟩
    have hb45 : Below w4.heap.size w4 w5 := by rw [hw5]; exact (Below.refl _ _).alloc (Nat.le_refl _) _
    have hb5 := hb.trans (hb45.mono hb.size)
    have tP : TB 43 w5 w4.heap.size [.int .i64 n.ino, .int .i64 n.kind, .int .i64 n.mode, .int .i64 n.uid, .int .i64 n.gid, .int .i64 n.parent, .string n.target, .slice ve n.ents.length ce] := by rw [hw5]; exact TB.new1 w4 _ _ _ rfl
    have tR5 := (tR.stay hb4).stay hb45
    have hRP : w.heap.size + 1 + 1 < w4.heap.size := (tR.stay hb4).lt
    have hE5 := RowAt.below EntAt.stays hE hb45
    have HW5 := Lib.hid hw5
    clear hw5
    have FIN : Hid (∀ (w7 : World) (v : Value), OwnE w.heap.size w7 v n.ents → Below w.heap.size w w7 → TB 43 w7 (w.heap.size + 1 + 1) [.int .i64 0, .int .i64 0, .int .i64 0, .int .i64 0, .int .i64 0, .int .i64 0, .string ⟨#[]⟩, .slice none 0 0] → GotR (some n) w (.returned (.tuple #[nval n v, .bool true])) ((((((((w7.setCell ⟨w.heap.size + 1 + 1, 0, none⟩ (.int .i64 n.ino)).setCell ⟨w.heap.size + 1 + 1, 1, none⟩ (.int .i64 n.kind)).setCell ⟨w.heap.size + 1 + 1, 2, none⟩ (.int .i64 n.mode)).setCell ⟨w.heap.size + 1 + 1, 3, none⟩ (.int .i64 n.uid)).setCell ⟨w.heap.size + 1 + 1, 4, none⟩ (.int .i64 n.gid)).setCell ⟨w.heap.size + 1 + 1, 5, none⟩ (.int .i64 n.parent)).setCell ⟨w.heap.size + 1 + 1, 6, none⟩ (.string n.target)).setCell ⟨w.heap.size + 1 + 1, 7, none⟩ v)) := Lib.hid (fun w7 v h1 h2 h3 => by
      have ho8 := own_set8 h1 (B := w.heap.size + 1 + 1) (fun e => h3.ne h1 (by decide) e) (.int .i64 n.ino) (.int .i64 n.kind) (.int .i64 n.mode) (.int .i64 n.uid) (.int .i64 n.gid) (.int .i64 n.parent) (.string n.target) v
      have hf8 := below_set8 h2 (show w.heap.size ≤ w.heap.size + 1 + 1 by omega) (.int .i64 n.ino) (.int .i64 n.kind) (.int .i64 n.mode) (.int .i64 n.uid) (.int .i64 n.gid) (.int .i64 n.parent) (.string n.target) v
      exact ⟨v, rfl, ho8, hf8⟩)
    obtain ⟨i0, hi0, hz0, hz1, hz2⟩ := info_parts infoE
    have hl := HL.out
    cases ve with
    | none =>
      obtain rfl := hnz rfl
      have hne : n.ents = [] := List.length_eq_zero_iff.1 (by omega)
      have F6 := Lib.hid (FIN.out w5 (.slice none 0 0) (by rw [hne]; exact OwnE.nil _ _) hb5 tR5)
      have HT := Lib.hid (And.intro tR5 tP)
      have hel : n.ents.length = 0 := by rw [hne]; rfl
      rw [hel] at p7 HW5 HT
      clear hel hne hb5 tR5 tP hb hb45 hE hE5 HP HFA hb4 hb3 tR tA tX FIN HL hl CI HS hnz hce
      go_upto_region 6 with (first
        | (at_builtin; (refine wpList_append_own_none rfl _ _ 41 rfl w.heap.size 87 i0 2 Try.underlying41 hi0 (.slice none 0 0) 0 [] rfl (World.ownsRow_nil _ _ _ _) rfl ?_))
        | fail)
      rw [← HW5.out]
      clear HW5 p0 p1 p2 p3 p4 p5 p6 p7 c1 uA uX
      obtain ⟨⟨s0, s1, s2, s3, s4, s5, s6, s7⟩, -⟩ := HT.out.2.blk.c8
      obtain ⟨⟨r0, r1, r2, r3, r4, r5, r6, r7⟩, z0, z1, z2, z3, z4, z5, z6, z7⟩ := HT.out.1.blk.c8
      obtain ⟨⟨n0, n1, n2, n3, n4, n5, n6, n7⟩, -⟩ := (node_cells HT.out.1 (.int .i64 n.ino) (.int .i64 n.kind) (.int .i64 n.mode) (.int .i64 n.uid) (.int .i64 n.gid) (.int .i64 n.parent) (.string n.target) (.slice none 0 0)).blk.c8
      clear HT
      go_wp2_with fail
      exact bodyPost_ret (v := .tuple #[nval n (.slice none 0 0), .bool true]) (by simp [nval, results, Try.f18, go_sem, n0, n1, n2, n3, n4, n5, n6, n7]) rfl F6.out
    | some p =>
      have nw := Lib.hid (erow_cells hE5)
      have H1 := Lib.hid (erow_cell1 n.ents)
      have HLN := Lib.hid (erow_len n.ents)
      have HB5 := Lib.hid hb5
      have HT := Lib.hid (And.intro tR5 tP)
      have hz5 := hb5.size
      have H6 : Hid (0 + n.ents.length ≤ maxLen) := Lib.hid (by unfold maxLen; omega)
      have H7 : Hid ((0 + n.ents.length) * 24 ≤ 140737488355328) := Lib.hid (by omega)
      have H8 : Hid (w.heap.size ≤ w5.heap.size) := Lib.hid hz5
      clear hb5 tR5 tP hb hb45 hE hE5 HP HFA hb4 hb3 tR tA tX HL CI HS hnz hce
      go_upto_region 5 with fail
      rw [← HW5.out]
      clear HW5 p0 p1 p2 p3 p4 p5 p6 p7 c1 uA uX
      obtain ⟨⟨s0, s1, s2, s3, s4, s5, s6, s7⟩, g0, g1, g2, g3, g4, g5, g6, g7⟩ := HT.out.2.blk.c8
      go_upto_region 6 with (first
        | (at_builtin; refine wpList_append_own _ rfl _ _ 41 rfl w.heap.size 87 i0 _ 2 24 Try.underlying41 hi0 hz0 hz1 hz2 rfl (by omega) _ 0 _ rfl (World.ownsRow_nil _ _ _ _) p n.ents.length ce (erow n.ents) rfl HLN.out nw.out H1.out H6.out H7.out H8.out ?_)
        | fail)
      intro v6 w6 own6 hgrow _
      have own6 : OwnE w.heap.size w6 v6 n.ents := by
        unfold OwnE
        simpa using own6
      have hb6 : Below w.heap.size w w6 := HB5.out.grown hgrow hz5 (fun g hg => by cases hg)
      have tR6 := HT.out.1.keep (hgrow.block _ HT.out.1.lt (fun e => by cases e))
      have tP6 := HT.out.2.keep (hgrow.block _ HT.out.2.lt (fun e => by cases e))
      obtain ⟨va6, vc6, rfl⟩ := own_isS own6
      obtain ⟨w7, hw7⟩ : ∃ w7, w7 = w6.setCell ⟨w4.heap.size, 7, none⟩ (.slice va6 n.ents.length vc6) := ⟨_, rfl⟩
      have hP7 : TB 43 w7 w4.heap.size [.int .i64 n.ino, .int .i64 n.kind, .int .i64 n.mode, .int .i64 n.uid, .int .i64 n.gid, .int .i64 n.parent, .string n.target, .slice va6 n.ents.length vc6] := by rw [hw7]; exact tP6.set 7 _
      have hR7 := tR6.other (show w.heap.size + 1 + 1 ≠ w4.heap.size by omega) 7 (.slice va6 n.ents.length vc6)
      rw [← hw7] at hR7
      have hB7 : Below w.heap.size w w7 := by rw [hw7]; exact below_set hb6 (by omega) 7 _
      have F6 := Lib.hid (FIN.out w7 (.slice va6 n.ents.length vc6) (by rw [hw7]; exact own_other own6 (fun e => tP6.ne own6 (by decide) e) 7 _) hB7 hR7)
      have HT7 := Lib.hid (And.intro hR7 hP7)
      have HW7 := Lib.hid hw7
      clear s0 s1 s2 s3 s4 s5 s6 s7 g0 g1 g2 g3 g4 g5 g6 g7
      obtain ⟨⟨s0, s1, s2, s3, s4, s5, s6, s7⟩, g0, g1, g2, g3, g4, g5, g6, g7⟩ := tP6.blk.c8
      clear hgrow own6 hb6 tR6 tP6 FIN nw H1 HLN HT hw7 hR7 hP7 hB7
      go_upto_region 6 with fail
      rw [← HW7.out]
      clear HW7 s0 s1 s2 s3 s4 s5 s6 s7 g0 g1 g2 g3 g4 g5 g6 g7
      obtain ⟨⟨s0, s1, s2, s3, s4, s5, s6, s7⟩, -⟩ := HT7.out.2.blk.c8
      obtain ⟨⟨r0, r1, r2, r3, r4, r5, r6, r7⟩, z0, z1, z2, z3, z4, z5, z6, z7⟩ := HT7.out.1.blk.c8
      obtain ⟨⟨n0, n1, n2, n3, n4, n5, n6, n7⟩, -⟩ := (node_cells HT7.out.1 (.int .i64 n.ino) (.int .i64 n.kind) (.int .i64 n.mode) (.int .i64 n.uid) (.int .i64 n.gid) (.int .i64 n.parent) (.string n.target) (.slice va6 n.ents.length vc6)).blk.c8
      clear HT7
      go_wp2_with fail
      exact bodyPost_ret (v := .tuple #[nval n (.slice va6 n.ents.length vc6), .bool true]) (by simp [nval, results, Try.f18, go_sem, n0, n1, n2, n3, n4, n5, n6, n7]) rfl F6.out
end Go.Proofs.Ytafnbpkdenjipaa.fl
namespace Go.Proofs.Ytafnbpkdenjipaa.fl
open Go.RowKit Go.Proofs.Ytafnbpkdenjipaa.cm

theorem rNode_some (a : Option Addr) (cap : Nat) (F : FilP) (x : At) (w : World) (hF : FilesAt w a F) (hS : Sml F) {n : NodeP} (hn : nodeF F x = some n) :
    Calls Try.prog 18 #[.agg #[.slice a F.length cap], .agg #[.int .i64 x.dev, .int .i64 x.ino]] w fun e w' => ∃ va vc, e = .returned (.tuple #[.agg #[.int .i64 n.ino, .int .i64 n.kind, .int .i64 n.mode, .int .i64 n.uid, .int .i64 n.gid, .int .i64 n.parent, .string n.target, .slice va n.ents.length vc], .bool true]) ∧ OwnE w.heap.size w' (.slice va n.ents.length vc) n.ents ∧ Below w.heap.size w w' := by
  refine (rNode_any a cap F x w hF hS).mono ?_
  rintro e w' ⟨v, rfl, hv, hb⟩
  rw [hn] at hv ⊢
  have hv : OwnE w.heap.size w' v n.ents := hv
  obtain ⟨va, vc, rfl, -⟩ := hv.at_
  exact ⟨va, vc, rfl, hv, hb⟩
theorem rNode_none (a : Option Addr) (cap : Nat) (F : FilP) (x : At) (w : World) (hF : FilesAt w a F) (hS : Sml F) (hn : nodeF F x = none) :
    Calls Try.prog 18 #[.agg #[.slice a F.length cap], .agg #[.int .i64 x.dev, .int .i64 x.ino]] w fun e w' => ∃ va vc, e = .returned (.tuple #[.agg #[.int .i64 0, .int .i64 0, .int .i64 0, .int .i64 0, .int .i64 0, .int .i64 0, .string ⟨#[]⟩, .slice va 0 vc], .bool false]) ∧ Below w.heap.size w w' := by
  refine (rNode_any a cap F x w hF hS).mono ?_
  rintro e w' ⟨v, rfl, hv, hb⟩
  rw [hn] at hv ⊢
  have hv : OwnE w.heap.size w' v [] := hv
  obtain ⟨va, vc, rfl, -⟩ := hv.at_
  exact ⟨va, vc, rfl, hb⟩

set_option maxRecDepth 100000 in
set_option maxHeartbeats 1000000 in
theorem rDir_any (a : Option Addr) (cap : Nat) (F : FilP) (x : At) (w : World) (hF : FilesAt w a F) (hS : Sml F) :
    Calls Try.prog 78 #[.agg #[.slice a F.length cap], .agg #[.int .i64 x.dev, .int .i64 x.ino]] w fun e w' => e = .returned (.bool (dirF F x)) ∧ Below w.heap.size w w' := by
  have hb1 : Below w.heap.size w (w.alloc (.cells #[.slice a F.length cap] 24)) := (Below.refl _ _).alloc (Nat.le_refl _) _
  have hb2 := hb1.alloc hb1.size (.cells #[.int .i64 x.dev, .int .i64 x.ino] 36)
  cases hn : nodeF F x with
  | none =>
    have CN := Lib.hid (rNode_none a cap F x _ (hF.below hb2) hS hn)
    have HR : Hid (dirF F x = false) := Lib.hid (by unfold dirF; rw [hn])
    clear hF hS hn
    go_enter Try.func78, Try.ntmps78
    go_wp2_with fail
    refine CN.out.mono ?_
    rintro e w3 ⟨va, vc, rfl, hb3⟩
    have hb4 := hb2.trans (hb3.mono hb2.size)
    have hb5 := Lib.hid (hb4.alloc hb4.size (.cells #[.int .i64 0, .int .i64 0, .int .i64 0, .int .i64 0, .int .i64 0, .int .i64 0, .string ⟨#[]⟩, .slice va 0 vc] 43))
    clear hb3 hb4 CN
    go_wp2_with fail
    go_ret
    exact ⟨ret_bool HR.out.symm, hb5.out⟩
  | some n =>
    have CN := Lib.hid (rNode_some a cap F x _ (hF.below hb2) hS hn)
    obtain ⟨D, hD⟩ : ∃ D, decide (n.kind = 2) = D := ⟨_, rfl⟩
    have HR : Hid (dirF F x = D) := Lib.hid (by unfold dirF; rw [hn]; exact hD)
    have e1 : (n.kind == 2) = D := by rw [← hD, Bool.eq_iff_iff]; simp
    clear hF hS hn hD
    go_enter Try.func78, Try.ntmps78
    go_wp2_with fail
    refine CN.out.mono ?_
    rintro e w3 ⟨va, vc, rfl, -, hb3⟩
    have hb4 := hb2.trans (hb3.mono hb2.size)
    have hb5 := Lib.hid (hb4.alloc hb4.size (.cells #[.int .i64 n.ino, .int .i64 n.kind, .int .i64 n.mode, .int .i64 n.uid, .int .i64 n.gid, .int .i64 n.parent, .string n.target, .slice va n.ents.length vc] 43))
    clear hb3 hb4 CN
    go_wp2_with fail
    go_ret
    exact ⟨ret_bool HR.out.symm, hb5.out⟩

set_option maxRecDepth 100000 in
set_option maxHeartbeats 1000000 in
theorem rfull_any (a : Option Addr) (cap : Nat) (F : FilP) (x : At) (w : World) (hF : FilesAt w a F) (hS : Sml F) :
    Calls Try.prog 50 #[.agg #[.slice a F.length cap], .agg #[.int .i64 x.dev, .int .i64 x.ino]] w fun e w' => e = .returned (.bool (fullF F x)) ∧ Below w.heap.size w w' := by
  have hb1 : Below w.heap.size w (w.alloc (.cells #[.slice a F.length cap] 24)) := (Below.refl _ _).alloc (Nat.le_refl _) _
  have hb2 := hb1.alloc hb1.size (.cells #[.int .i64 x.dev, .int .i64 x.ino] 36)
  cases hn : nodeF F x with
  | none =>
    have CN := Lib.hid (rNode_none a cap F x _ (hF.below hb2) hS hn)
    have HR : Hid (fullF F x = false) := Lib.hid (by unfold fullF; rw [hn])
    clear hF hS hn
    go_enter Try.func50, Try.ntmps50
    go_wp2_with fail
    refine CN.out.mono ?_
    rintro e w3 ⟨va, vc, rfl, hb3⟩
    have hb4 := hb2.trans (hb3.mono hb2.size)
    have hb5 := Lib.hid (hb4.alloc hb4.size (.cells #[.int .i64 0, .int .i64 0, .int .i64 0, .int .i64 0, .int .i64 0, .int .i64 0, .string ⟨#[]⟩, .slice va 0 vc] 43))
    clear hb3 hb4 CN
    go_wp2_with fail
    go_ret
    exact ⟨ret_bool HR.out.symm, hb5.out⟩
  | some n =>
    have CN := Lib.hid (rNode_some a cap F x _ (hF.below hb2) hS hn)
    obtain ⟨D, hD⟩ : ∃ D, decide (12 ≤ n.ents.length) = D := ⟨_, rfl⟩
    have HR : Hid (fullF F x = D) := Lib.hid (by unfold fullF; rw [hn]; exact hD)
    have e1 : decide ((n.ents.length : Int) ≥ 12) = D := by rw [← hD, Bool.eq_iff_iff, decide_eq_true_eq, decide_eq_true_eq]; omega
    clear hF hS hn hD
    go_enter Try.func50, Try.ntmps50
    go_wp2_with fail
    refine CN.out.mono ?_
    rintro e w3 ⟨va, vc, rfl, -, hb3⟩
    have hb4 := hb2.trans (hb3.mono hb2.size)
    have hb5 := Lib.hid (hb4.alloc hb4.size (.cells #[.int .i64 n.ino, .int .i64 n.kind, .int .i64 n.mode, .int .i64 n.uid, .int .i64 n.gid, .int .i64 n.parent, .string n.target, .slice va n.ents.length vc] 43))
    clear hb3 hb4 CN
    go_wp2_with fail
    go_ret
    exact ⟨ret_bool HR.out.symm, hb5.out⟩

set_option maxRecDepth 100000 in
set_option maxHeartbeats 1000000 in
theorem rEmpty_any (a : Option Addr) (cap : Nat) (F : FilP) (x : At) (w : World) (hF : FilesAt w a F) (hS : Sml F) :
    Calls Try.prog 80 #[.agg #[.slice a F.length cap], .agg #[.int .i64 x.dev, .int .i64 x.ino]] w fun e w' => e = .returned (.bool (emptyF F x)) ∧ Below w.heap.size w w' := by
  have hb1 : Below w.heap.size w (w.alloc (.cells #[.slice a F.length cap] 24)) := (Below.refl _ _).alloc (Nat.le_refl _) _
  have hb2 := hb1.alloc hb1.size (.cells #[.int .i64 x.dev, .int .i64 x.ino] 36)
  cases hn : nodeF F x with
  | none =>
    have CN := Lib.hid (rNode_none a cap F x _ (hF.below hb2) hS hn)
    have HR : Hid (emptyF F x = true) := Lib.hid (by unfold emptyF; rw [hn])
    clear hF hS hn
    go_enter Try.func80, Try.ntmps80
    go_wp2_with fail
    refine CN.out.mono ?_
    rintro e w3 ⟨va, vc, rfl, hb3⟩
    have hb4 := hb2.trans (hb3.mono hb2.size)
    have hb5 := Lib.hid (hb4.alloc hb4.size (.cells #[.int .i64 0, .int .i64 0, .int .i64 0, .int .i64 0, .int .i64 0, .int .i64 0, .string ⟨#[]⟩, .slice va 0 vc] 43))
    clear hb3 hb4 CN
    go_wp2_with fail
    go_ret
    exact ⟨ret_bool HR.out.symm, hb5.out⟩
  | some n =>
    have CN := Lib.hid (rNode_some a cap F x _ (hF.below hb2) hS hn)
    obtain ⟨D, hD⟩ : ∃ D, decide (n.ents.length = 0) = D := ⟨_, rfl⟩
    have HR : Hid (emptyF F x = D) := Lib.hid (by rw [← void_empty]; unfold voidF; rw [hn]; exact hD)
    have e1 : ((n.ents.length : Int) == 0) = D := by rw [← hD, Bool.eq_iff_iff]; simp
    clear hF hS hn hD
    go_enter Try.func80, Try.ntmps80
    go_wp2_with fail
    refine CN.out.mono ?_
    rintro e w3 ⟨va, vc, rfl, -, hb3⟩
    have hb4 := hb2.trans (hb3.mono hb2.size)
    have hb5 := Lib.hid (hb4.alloc hb4.size (.cells #[.int .i64 n.ino, .int .i64 n.kind, .int .i64 n.mode, .int .i64 n.uid, .int .i64 n.gid, .int .i64 n.parent, .string n.target, .slice va n.ents.length vc] 43))
    clear hb3 hb4 CN
    go_wp2_with fail
    go_ret
    exact ⟨ret_bool HR.out.symm, hb5.out⟩

set_option maxRecDepth 100000 in
set_option maxHeartbeats 1000000 in
theorem rplace_any (a : Option Addr) (cap : Nat) (F : FilP) (x : At) (s : ByteArray) (w : World) (hF : FilesAt w a F) (hS : Sml F) :
    Calls Try.prog 48 #[.agg #[.slice a F.length cap], .agg #[.int .i64 x.dev, .int .i64 x.ino], .string s] w fun e w' => e = .returned (.int .i64 (placeF F x s)) ∧ Below w.heap.size w w' := by
  have hb1 : Below w.heap.size w (w.alloc (.cells #[.slice a F.length cap] 24)) := (Below.refl _ _).alloc (Nat.le_refl _) _
  have hb2 := hb1.alloc hb1.size (.cells #[.int .i64 x.dev, .int .i64 x.ino] 36)
  cases hn : nodeF F x with
  | none =>
    have CN := Lib.hid (rNode_none a cap F x _ (hF.below hb2) hS hn)
    have HR : Hid (placeF F x s = 2) := Lib.hid (by unfold placeF; rw [hn])
    clear hF hS hn
    go_enter Try.func48, Try.ntmps48
    go_wp2_with fail
    refine CN.out.mono ?_
    rintro e w3 ⟨va, vc, rfl, hb3⟩
    have hb4 := hb2.trans (hb3.mono hb2.size)
    have hb5 := Lib.hid (hb4.alloc hb4.size (.cells #[.int .i64 0, .int .i64 0, .int .i64 0, .int .i64 0, .int .i64 0, .int .i64 0, .string ⟨#[]⟩, .slice va 0 vc] 43))
    clear hb3 hb4 CN
    go_wp2_with fail
    go_ret
    exact ⟨ret_int HR.out.symm, hb5.out⟩
  | some n =>
    have CN := Lib.hid (rNode_some a cap F x _ (hF.below hb2) hS hn)
    have CM := Lib.hid (fun W => pt.rName_any s W)
    have HU : Hid (placeF F x s = if n.kind ≠ 2 then 20 else if pt.nameS s = true then 0 else 22) := Lib.hid (by unfold placeF; rw [hn]; rfl)
    generalize pt.nameS s = M at *
    clear hF hS hn
    by_cases hk : n.kind = 2
    · have e1 : (n.kind == 2) = true := by simpa using hk
      have HU2 := Lib.hid (HU.out.trans (if_neg (fun h => h hk)))
      clear hk HU
      go_enter Try.func48, Try.ntmps48
      go_wp2_with fail
      refine CN.out.mono ?_
      rintro e w3 ⟨va, vc, rfl, -, hb3⟩
      have hb4 := hb2.trans (hb3.mono hb2.size)
      have hb5 := Lib.hid (hb4.alloc hb4.size (.cells #[.int .i64 n.ino, .int .i64 n.kind, .int .i64 n.mode, .int .i64 n.uid, .int .i64 n.gid, .int .i64 n.parent, .string n.target, .slice va n.ents.length vc] 43))
      clear hb3 hb4 CN
      go_wp2_with fail
      refine (CM.out _).mono ?_
      rintro e w4 ⟨rfl, rfl⟩
      cases M with
      | true =>
        go_wp2_with fail
        go_ret
        exact ⟨ret_int HU2.out.symm, hb5.out⟩
      | false =>
        go_wp2_with fail
        go_ret
        exact ⟨ret_int HU2.out.symm, hb5.out⟩
    · have e1 : (n.kind == 2) = false := by simpa using hk
      have HU2 := Lib.hid (HU.out.trans (if_pos hk))
      clear hk HU CM
      go_enter Try.func48, Try.ntmps48
      go_wp2_with fail
      refine CN.out.mono ?_
      rintro e w3 ⟨va, vc, rfl, -, hb3⟩
      have hb4 := hb2.trans (hb3.mono hb2.size)
      have hb5 := Lib.hid (hb4.alloc hb4.size (.cells #[.int .i64 n.ino, .int .i64 n.kind, .int .i64 n.mode, .int .i64 n.uid, .int .i64 n.gid, .int .i64 n.parent, .string n.target, .slice va n.ents.length vc] 43))
      clear hb3 hb4 CN
      go_wp2_with fail
      go_ret
      exact ⟨ret_int HU2.out.symm, hb5.out⟩
end Go.Proofs.Ytafnbpkdenjipaa.fl
namespace Go.Proofs.Ytafnbpkdenjipaa.fl
open Go.RowKit Go.Proofs.Ytafnbpkdenjipaa.cm

theorem name_eq (a b : ByteArray) : (a.toList == b.toList) = decide (a = b) := by
  rw [Bool.eq_iff_iff, beq_iff_eq, decide_eq_true_eq]
  refine ⟨fun h => bytes_ext ?_, fun h => by rw [h]⟩
  rwa [ByteArray.toList_eq, ByteArray.toList_eq] at h
/-- no entry before k has the name -/
def NoE (l : List EntP) (s : ByteArray) (k : Nat) : Prop := ∀ j e, j < k → l[j]? = some e → e.name ≠ s
theorem NoE.zero (l : List EntP) (s : ByteArray) : NoE l s 0 := fun _ _ h => absurd h (Nat.not_lt_zero _)
theorem NoE.succ {l : List EntP} {s : ByteArray} {k : Nat} {e : EntP} (h : NoE l s k) (he : l[k]? = some e) (hs : e.name ≠ s) : NoE l s (k + 1) := fun j m hj hm => by
  by_cases c : j = k
  · subst c; rw [he] at hm; injection hm with hm; rw [← hm]; exact hs
  · exact h j m (by omega) hm
theorem NoE.hit {l : List EntP} {s : ByteArray} {k : Nat} {e : EntP} (h : NoE l s k) (he : l[k]? = some e) (hs : e.name = s) : findE l s = some e.ino := by
  obtain ⟨hk, hx⟩ := List.getElem?_eq_some_iff.1 he
  unfold findE
  have : l.find? (fun e => decide (e.name = s)) = some e := by
    rw [List.find?_eq_some_iff_getElem]
    refine ⟨by simpa using hs, k, hk, hx, fun j hj => ?_⟩
    simpa using h j _ hj (List.getElem?_eq_getElem (by omega))
  rw [this]
  rfl
theorem NoE.miss {l : List EntP} {s : ByteArray} (h : NoE l s l.length) : findE l s = none := find_none.2 fun e he => by
  obtain ⟨j, hj⟩ := List.mem_iff_getElem?.1 he
  exact h j e (List.getElem?_eq_some_iff.1 hj).1 hj

set_option maxRecDepth 100000 in
set_option maxHeartbeats 2000000 in
theorem rLook_any (a : Option Addr) (cap : Nat) (F : FilP) (x : At) (s : ByteArray) (w : World) (hF : FilesAt w a F) (hS : Sml F) :
    Calls Try.prog 20 #[.agg #[.slice a F.length cap], .agg #[.int .i64 x.dev, .int .i64 x.ino], .string s] w (LookR (lookF F x s) w) := by
  have hb1 : Below w.heap.size w (w.alloc (.cells #[.slice a F.length cap] 24)) := (Below.refl _ _).alloc (Nat.le_refl _) _
  have hb2 := hb1.alloc hb1.size (.cells #[.int .i64 x.dev, .int .i64 x.ino] 36)
  have hb3 := hb2.alloc hb2.size (.cells #[.int .i64 0, .int .i64 0] 36)
  obtain ⟨w3, hw3⟩ : ∃ w3, w3 = ((w.alloc (.cells #[.slice a F.length cap] 24)).alloc (.cells #[.int .i64 x.dev, .int .i64 x.ino] 36)).alloc (.cells #[.int .i64 0, .int .i64 0] 36) := ⟨_, rfl⟩
  have tA : TB 24 w3 w.heap.size [.slice a F.length cap] := by rw [hw3]; exact ((TB.new1 w _ _ _ rfl).alloc _).alloc _
  have tX : TB 36 w3 (w.heap.size + 1) [.int .i64 x.dev, .int .i64 x.ino] := by rw [hw3]; exact (TB.new1 _ _ _ _ (size_alloc _ _)).alloc _
  have tR : TB 36 w3 (w.heap.size + 1 + 1) [.int .i64 0, .int .i64 0] := by rw [hw3]; exact TB.new1 _ [.int .i64 0, .int .i64 0] _ _ (by rw [size_alloc, size_alloc])
  rw [← hw3] at hb3
  have HW := Lib.hid hw3
  obtain ⟨x0, -⟩ := tA.blk.c1
  obtain ⟨x1, x2, -⟩ := tX.blk.c2
  -- the way out, with whatever is answered
  have FIN : Hid (∀ (W : World) (p q er : Int), Below w.heap.size w W → lookF F x s = (⟨p, q⟩, er) → LookR (lookF F x s) w (.returned (.tuple #[.agg #[.int .i64 p, .int .i64 q], .int .i64 er])) ((W.setCell ⟨w.heap.size + 1 + 1, 0, none⟩ (.int .i64 p)).setCell ⟨w.heap.size + 1 + 1, 1, none⟩ (.int .i64 q))) := Lib.hid (fun W p q er h1 h2 => by
    rw [h2]
    exact ⟨rfl, below_set2 h1 (show w.heap.size ≤ w.heap.size + 1 + 1 by omega) _ _⟩)
  cases hn : nodeF F x with
  | none =>
    have CN := Lib.hid (rNode_none a cap F x w3 (hF.below hb3) hS hn)
    have HR : Hid (lookF F x s = (⟨0, 0⟩, 2)) := Lib.hid (by unfold lookF; rw [hn]; rfl)
    clear hF hS hn hw3 hb1 hb2
    go_enter Try.func20, Try.ntmps20
    go_upto_region 1 with fail
    rw [← HW.out]
    clear HW
    go_wp2_with fail
    refine CN.out.mono ?_
    rintro e w4 ⟨va, vc, rfl, hb4⟩
    have hb5 := hb3.trans (hb4.mono hb3.size)
    have tR4 := (tR.stay hb4).alloc (.cells #[.int .i64 0, .int .i64 0, .int .i64 0, .int .i64 0, .int .i64 0, .int .i64 0, .string ⟨#[]⟩, .slice va 0 vc] 43)
    have hb6 := hb5.alloc hb5.size (.cells #[.int .i64 0, .int .i64 0, .int .i64 0, .int .i64 0, .int .i64 0, .int .i64 0, .string ⟨#[]⟩, .slice va 0 vc] 43)
    obtain ⟨w5, hw5⟩ : ∃ w5, w5 = w4.alloc (.cells #[.int .i64 0, .int .i64 0, .int .i64 0, .int .i64 0, .int .i64 0, .int .i64 0, .string ⟨#[]⟩, .slice va 0 vc] 43) := ⟨_, rfl⟩
    rw [← hw5] at tR4 hb6
    have HF := Lib.hid (FIN.out w5 0 0 2 hb6 HR.out)
    obtain ⟨r0, r1, z0, z1⟩ := tR4.blk.c2
    obtain ⟨n0, n1⟩ := file_cells tR4 (.int .i64 0) (.int .i64 0)
    have HW5 := Lib.hid hw5
    clear hw5 tR4 hb6 hb5 hb4 hb3 tR tA tX FIN CN x0 x1 x2
    go_upto_region 3 with fail
    rw [← HW5.out]
    go_wp2_with fail
    exact bodyPost_ret (v := .tuple #[.agg #[.int .i64 0, .int .i64 0], .int .i64 2]) (by simp [results, Try.f20, go_sem, n0, n1]) rfl HF.out
  | some n =>
    have CN := Lib.hid (rNode_some a cap F x w3 (hF.below hb3) hS hn)
    have HU : Hid (lookF F x s = if n.kind ≠ 2 then ((⟨0, 0⟩ : At), (20 : Int)) else match findE n.ents s with | some i => ((⟨x.dev, i⟩ : At), (0 : Int)) | none => ((⟨0, 0⟩ : At), (2 : Int))) := Lib.hid (by unfold lookF; rw [hn]; rfl)
    have hle : n.ents.length ≤ 1000 := by
      obtain ⟨j, k, d, -, hd, -, hk⟩ := node_where hn
      exact hS.ents d (List.mem_of_getElem? hd) n (List.mem_of_getElem? hk)
    clear hF hS hn hw3 hb1 hb2
    go_enter Try.func20, Try.ntmps20
    go_upto_region 1 with fail
    rw [← HW.out]
    clear HW
    go_wp2_with fail
    refine CN.out.mono ?_
    rintro e w4 ⟨va, vc, rfl, hE, hb4⟩
    have hb5 := hb3.trans (hb4.mono hb3.size)
    obtain ⟨w5, hw5⟩ : ∃ w5, w5 = w4.alloc (.cells #[.int .i64 n.ino, .int .i64 n.kind, .int .i64 n.mode, .int .i64 n.uid, .int .i64 n.gid, .int .i64 n.parent, .string n.target, .slice va n.ents.length vc] 43) := ⟨_, rfl⟩
    have hb45 : Below w4.heap.size w4 w5 := by rw [hw5]; exact (Below.refl _ _).alloc (Nat.le_refl _) _
    have tQ : TB 43 w5 w4.heap.size (ncs n (.slice va n.ents.length vc)) := by rw [hw5]; exact TB.new1 w4 (ncs n (.slice va n.ents.length vc)) _ _ rfl
    have tR5 := (tR.stay hb4).stay hb45
    have tX5 := (tX.stay hb4).stay hb45
    have hb6 := hb5.trans (hb45.mono hb5.size)
    have hE5 : Ents w5 va n.ents := by
      obtain ⟨a', c', hv, -, -, hx⟩ := hE.at_
      injection hv with hv _ _
      subst hv
      exact RowAt.below EntAt.stays hx hb45
    have HE := Lib.hid (fun W (h : Below w5.heap.size w5 W) => RowAt.below EntAt.stays hE5 h)
    have HW5 := Lib.hid hw5
    clear hw5 hb5 hb4 hb3 tR tA tX CN x0 x1 x2 hE hE5 hb45
    go_upto_region 2 with fail
    rw [← HW5.out]
    clear HW5
    obtain ⟨-, q1, -, -, -, -, -, q7⟩ := tQ.blk.c8.1
    by_cases hk : n.kind = 2
    · have HU2 := Lib.hid (HU.out.trans (if_neg (fun h => h hk)))
      have e1 : (n.kind == 2) = true := by simpa using hk
      have FE := Lib.hid (fun (k : Nat) (e : EntP) (h : NoE n.ents s k) (he : n.ents[k]? = some e) (hs : e.name = s) => (show lookF F x s = (⟨x.dev, e.ino⟩, 0) by rw [HU2.out, h.hit he hs]))
      have FM := Lib.hid (fun (h : NoE n.ents s n.ents.length) => (show lookF F x s = (⟨0, 0⟩, 2) by rw [HU2.out, h.miss]))
      clear hk HU HU2
      go_wp2_with fail
      clear q1 q7 e1
      go_loopw [10] (fun i wr => ∃ k : Nat, k ≤ n.ents.length ∧ i = .int .i64 k ∧ Hid (NoE n.ents s k) ∧ Below w.heap.size w wr ∧ Below w5.heap.size w5 wr ∧ TB 36 wr (w.heap.size + 1) [.int .i64 x.dev, .int .i64 x.ino] ∧ TB 36 wr (w.heap.size + 1 + 1) [.int .i64 0, .int .i64 0] ∧ TB 43 wr w4.heap.size (ncs n (.slice va n.ents.length vc))) (fun i _ => n.ents.length - (intOf i).toNat)
      case atStart => exact ⟨0, Nat.zero_le _, rfl, Lib.hid (NoE.zero _ _), hb6, Below.refl _ _, tX5, tR5, tQ⟩
      case round =>
        obtain ⟨k, hk, rfl, HN, hb, hb', uX, uR, uQ⟩ := hrel
        clear hb6 tX5 tR5 tQ
        have q7 : wr.cell? ⟨w4.heap.size, 7, none⟩ = some (.slice va n.ents.length vc) := uQ.blk.cell 7 _ rfl
        obtain ⟨x1, -⟩ := uX.blk.c2
        by_cases hlt : k < n.ents.length
        · have hkk : (k : Int) < (n.ents.length : Int) := by omega
          obtain ⟨b, o, rfl, hp⟩ := (HE.out _ hb').get hlt
          have HPK := Lib.hid (List.getElem?_eq_getElem hlt)
          generalize n.ents[k] = en at *
          obtain ⟨g0, g1⟩ := hp
          have e1 := name_eq en.name s
          by_cases he : en.name = s
          · rw [decide_eq_true he] at e1
            have HF := Lib.hid (FIN.out wr.drew x.dev en.ino 0 hb.drew (FE.out k en HN.out HPK.out he))
            obtain ⟨r0, r1, z0, z1⟩ := uR.blk.c2
            obtain ⟨n0, n1⟩ := file_cells uR (.int .i64 x.dev) (.int .i64 en.ino)
            clear he uX uR uQ FE FM FIN hb hb'
            go_wp2_with fail
            go_region
            go_wp2_with fail
            exact bodyPost_ret (v := .tuple #[.agg #[.int .i64 x.dev, .int .i64 en.ino], .int .i64 0]) (by simp [results, Try.f20, go_sem, n0, n1]) rfl HF.out
          · rw [decide_eq_false he] at e1
            have HN2 := Lib.hid (HN.out.succ HPK.out he)
            clear he
            go_wp2_with fail
            exact ⟨⟨k + 1, by omega, by go_num, HN2, hb, hb', uX, uR, uQ⟩, by simp [intOf]; omega⟩
        · have hkk : ¬ (k : Int) < (n.ents.length : Int) := by omega
          obtain rfl : k = n.ents.length := by omega
          have HF := Lib.hid (FIN.out wr 0 0 2 hb (FM.out HN.out))
          obtain ⟨r0, r1, z0, z1⟩ := uR.blk.c2
          obtain ⟨n0, n1⟩ := file_cells uR (.int .i64 0) (.int .i64 0)
          clear hlt hk uX uR uQ FE FM FIN hb hb' x1
          go_wp2_with fail
          exact bodyPost_ret (v := .tuple #[.agg #[.int .i64 0, .int .i64 0], .int .i64 2]) (by simp [results, Try.f20, go_sem, n0, n1]) rfl HF.out
    · have HU2 := Lib.hid (HU.out.trans (if_pos hk))
      have e1 : (n.kind == 2) = false := by simpa using hk
      have HF := Lib.hid (FIN.out w5 0 0 20 hb6 HU2.out)
      obtain ⟨r0, r1, z0, z1⟩ := tR5.blk.c2
      obtain ⟨n0, n1⟩ := file_cells tR5 (.int .i64 0) (.int .i64 0)
      clear hk HU HU2 HE tR5 tX5 tQ hb6 FIN
      go_wp2_with fail
      exact bodyPost_ret (v := .tuple #[.agg #[.int .i64 0, .int .i64 0], .int .i64 20]) (by simp [results, Try.f20, go_sem, n0, n1]) rfl HF.out
end Go.Proofs.Ytafnbpkdenjipaa.fl
namespace Go.Proofs.Ytafnbpkdenjipaa.fl
open Go.RowKit Go.Proofs.Ytafnbpkdenjipaa.cm

set_option maxRecDepth 100000 in
set_option maxHeartbeats 2000000 in
theorem rLinks_any (a : Option Addr) (cap : Nat) (F : FilP) (x : At) (w : World) (hF : FilesAt w a F) (hS : Sml F) :
    Calls Try.prog 23 #[.agg #[.slice a F.length cap], .agg #[.int .i64 x.dev, .int .i64 x.ino]] w fun e w' => e = .returned (.int .i64 (linksF F x)) ∧ Below w.heap.size w w' := by
  have hb1 : Below w.heap.size w (w.alloc (.cells #[.slice a F.length cap] 24)) := (Below.refl _ _).alloc (Nat.le_refl _) _
  have hb2 := hb1.alloc hb1.size (.cells #[.int .i64 x.dev, .int .i64 x.ino] 36)
  have tA := (TB.new1 w [.slice a F.length cap] 24 w.heap.size rfl).alloc (.cells #[.int .i64 x.dev, .int .i64 x.ino] 36)
  have tX := TB.new1 (w.alloc (.cells #[.slice a F.length cap] 24)) [.int .i64 x.dev, .int .i64 x.ino] 36 (w.heap.size + 1) (size_alloc _ _)
  have CI := Lib.hid (rindex_any a cap F x _ (hF.below hb2) hS)
  cases hn : nodeF F x with
  | none =>
    rw [ix_none hn] at CI
    have HR : Hid (linksF F x = 0) := Lib.hid (by
      unfold linksF
      cases hd : devF F x.dev with
      | none => rfl
      | some d =>
        unfold nodeF at hn
        rw [hd] at hn
        have hn : nodeD d x.ino = none := hn
        show (if (nodeD d x.ino).isSome then _ else 0) = 0
        rw [hn]
        rfl)
    clear hF hS hn tA tX
    go_enter Try.func23, Try.ntmps23
    go_wp2_with fail
    refine CI.out.mono ?_
    rintro e w3 ⟨rfl, hb3⟩
    have hb4 := hb2.trans (hb3.mono hb2.size)
    go_wp2_with fail
    go_ret
    exact ⟨ret_int (by rw [HR.out]; rfl), hb4⟩
  | some n0 =>
    obtain ⟨j, k0, d, hj, hd, hi, hk0⟩ := node_where hn
    obtain ⟨xd, ino⟩ := x
    obtain rfl : xd = (j : Int) := hj
    rw [ix_some hd hi] at CI
    have hm := List.mem_of_getElem? hd
    have hnl := hS.nodes d hm
    have hel := hS.ents d hm
    have HR : Hid (linksF F ⟨(j : Int), ino⟩ = linksL d.nodes ino) := Lib.hid (by
      unfold linksF
      rw [show devF F (⟨(j : Int), ino⟩ : At).dev = some d from devF_idx.trans hd]
      obtain ⟨n', -, -, h4, -⟩ := idxL_node hi
      show (if (nodeD d ino).isSome then _ else _) = _
      rw [show nodeD d ino = some n' from h4]; rfl)
    have hjl : (j : Int) < (F.length : Int) := by
      have := (List.getElem?_eq_some_iff.1 hd).1
      omega
    obtain ⟨b0, o0, rfl, hda⟩ := (hF.below hb2).dev hd
    obtain ⟨-, va, cva, c1, -, -, hns⟩ := hda
    have HN := Lib.hid (fun W (h : Below _ _ W) => And.intro (cell_stays c1 h) (RowAt.below NodeAt.stays hns h))
    have HE := Lib.hid hel
    have HB : Hid (∀ k, linksL (d.nodes.take k) ino ≤ 1000000) := Lib.hid (fun k => by
      have h2 := links_le (l := d.nodes.take k) (fun m hm => hel m (List.mem_of_mem_take hm)) ino
      have h3 : (d.nodes.take k).length ≤ 1000 := Nat.le_trans (List.length_take_le' _ _) hnl
      omega)
    clear hF hS hn hi hk0 hd hm hel hns c1
    go_enter Try.func23, Try.ntmps23
    go_wp2_with fail
    refine CI.out.mono ?_
    rintro e w3 ⟨rfl, hb3⟩
    have hb4 := hb2.trans (hb3.mono hb2.size)
    have uA := (tA.stay hb3).blk.c1.1
    have tX3 := tX.stay hb3
    have uX := tX3.blk.c2.1
    obtain ⟨c1, hN3⟩ := HN.out _ hb3
    have HN3 := Lib.hid (fun W (h : Below w3.heap.size w3 W) => RowAt.below NodeAt.stays hN3 h)
    clear tA tX hb1 hb2 hb3 CI HN hN3
    go_wp2_with fail
    clear uA uX c1
    go_loopw [5, 7] (fun v i wr => ∃ k : Nat, k ≤ d.nodes.length ∧ i = .int .i64 k ∧ v = .int .i64 (linksL (d.nodes.take k) ino) ∧ Below w.heap.size w wr ∧ Below w3.heap.size w3 wr ∧ TB 36 wr (w.heap.size + 1) [.int .i64 (j : Int), .int .i64 ino]) (fun _ i _ => d.nodes.length - (intOf i).toNat)
    case atStart => exact ⟨0, Nat.zero_le _, rfl, rfl, hb4, Below.refl _ _, tX3⟩
    case round =>
      obtain ⟨k, hk, rfl, rfl, hb, hb', q⟩ := hrel
      clear hb4 tX3
      by_cases hlt : k < d.nodes.length
      · have hkk : (k : Int) < (d.nodes.length : Int) := by omega
        obtain ⟨b, o, rfl, hp⟩ := (HN3.out _ hb').get hlt
        have HPK : Hid (linksL (d.nodes.take (k + 1)) ino = linksL (d.nodes.take k) ino + cnt (d.nodes[k]'hlt).ents ino) := Lib.hid (links_take (List.getElem?_eq_getElem hlt))
        have hle := HE.out _ (List.getElem_mem hlt)
        have hbd := HB.out k
        generalize d.nodes[k] = m at *
        obtain ⟨-, -, -, -, -, -, -, ve, ce, a7, -, -, hes⟩ := hp
        have HES := Lib.hid (fun W (h : Below wr.heap.size wr W) => And.intro (cell_stays a7 h) (RowAt.below EntAt.stays hes h))
        have HBB := Lib.hid (And.intro hb hb')
        generalize linksL (d.nodes.take k) ino = L at *
        clear hes a7
        obtain ⟨wo, rfl⟩ : ∃ wo : World, wo = wr := ⟨_, rfl⟩
        go_wp2_with fail
        go_loopw [5, 8] (fun v i wq => ∃ t : Nat, t ≤ m.ents.length ∧ i = .int .i64 t ∧ v = .int .i64 ((L + cnt (m.ents.take t) ino : Nat) : Int) ∧ Below wo.heap.size wo wq ∧ TB 36 wq (w.heap.size + 1) [.int .i64 (j : Int), .int .i64 ino]) (fun _ i _ => m.ents.length - (intOf i).toNat)
        case atStart => exact ⟨0, Nat.zero_le _, rfl, by simp [cnt], Below.refl _ _, q⟩
        case round =>
          obtain ⟨t, ht, rfl, rfl, hbi, qi⟩ := hrel
          clear q hb hb'
          have hcl := cnt_le (m.ents.take t) ino
          have hct : (m.ents.take t).length ≤ 1000 := Nat.le_trans (List.length_take_le' _ _) hle
          obtain ⟨a7, hes⟩ := HES.out _ hbi
          by_cases htl : t < m.ents.length
          · have htt : (t : Int) < (m.ents.length : Int) := by omega
            obtain ⟨b', o', rfl, hpe⟩ := RowAt.get hes htl
            have HCT : Hid (cnt (m.ents.take (t + 1)) ino = cnt (m.ents.take t) ino + if (m.ents[t]'htl).ino = ino then 1 else 0) := Lib.hid (cnt_take (List.getElem?_eq_getElem htl))
            generalize m.ents[t] = en at *
            have g1 := hpe.c1
            obtain ⟨-, r1, -⟩ := qi.blk.c2
            have HQ := Lib.hid (And.intro hbi qi)
            clear hpe hes
            by_cases he : en.ino = ino
            · have e1 : (en.ino == ino) = true := by simpa using he
              have HC2 : Hid (L + cnt (m.ents.take t) ino + 1 = L + cnt (m.ents.take (t + 1)) ino) := Lib.hid (by rw [HCT.out, if_pos he]; omega)
              generalize cnt (m.ents.take t) ino = C at *
              clear he hbi qi
              go_wp2_with fail
              go_quiet (fail)
              go_wp2_with fail
              exact ⟨⟨t + 1, by omega, by go_num, by rw [← HC2.out]; go_num, ⟨HQ.out.1.os, HQ.out.1.tape, HQ.out.1.output, HQ.out.1.size, HQ.out.1.block⟩, HQ.out.2⟩, by simp [intOf]; omega⟩
            · have e1 : (en.ino == ino) = false := by simpa using he
              have HC2 : Hid (cnt (m.ents.take t) ino = cnt (m.ents.take (t + 1)) ino) := Lib.hid (by rw [HCT.out, if_neg he]; rfl)
              generalize cnt (m.ents.take t) ino = C at *
              clear he hbi qi
              go_wp2_with fail
              go_quiet (fail)
              go_wp2_with fail
              exact ⟨⟨t + 1, by omega, by go_num, by rw [← HC2.out], ⟨HQ.out.1.os, HQ.out.1.tape, HQ.out.1.output, HQ.out.1.size, HQ.out.1.block⟩, HQ.out.2⟩, by simp [intOf]; omega⟩
          · have htt : ¬ (t : Int) < (m.ents.length : Int) := by omega
            obtain rfl : t = m.ents.length := by omega
            have HC : Hid (L + cnt (m.ents.take m.ents.length) ino = linksL (d.nodes.take (k + 1)) ino) := Lib.hid (by rw [HPK.out, List.take_length])
            have H3 := Lib.hid (And.intro (HBB.out.1.trans (hbi.mono HBB.out.1.size)) (HBB.out.2.trans (hbi.mono HBB.out.2.size)))
            generalize cnt (m.ents.take m.ents.length) ino = C at *
            clear htl ht hes
            go_wp2_with fail
            exact ⟨⟨k + 1, by omega, by go_num, by rw [← HC.out], H3.out.1, H3.out.2, qi⟩, by simp [intOf]; omega⟩
      · have hkk : ¬ (k : Int) < (d.nodes.length : Int) := by omega
        obtain rfl : k = d.nodes.length := by omega
        have HR := Lib.hid (show linksF F ⟨(j : Int), ino⟩ = linksL (d.nodes.take d.nodes.length) ino by rw [HR.out, List.take_length])
        generalize linksL (d.nodes.take d.nodes.length) ino = L at *
        clear hlt hk
        go_wp2_with fail
        go_ret
        exact ⟨ret_int (by rw [HR.out]), hb⟩
end Go.Proofs.Ytafnbpkdenjipaa.fl
namespace Go.Proofs.Ytafnbpkdenjipaa.fl
open Go.RowKit Go.Proofs.Ytafnbpkdenjipaa.cm

theorem NodesK.far {B : Nat} {w : World} {v : Value} {e : Nat → Value} {ns : List NodeP} {k : Nat} (h : NodesK B w v e ns k) {T D : Nat} {cs : List Value} (hD : TB T w D cs) (h1 : T ≠ 43) (h2 : T ≠ 87) (c : Nat) (u : Value) : NodesK B (w.setCell ⟨D, c, none⟩ u) v e ns k :=
  ⟨own_other h.row (fun x => hD.ne h.row h1 x) _ _, fun j n hj hn => own_other (h.ents j n hj hn) (fun x => hD.ne (h.ents j n hj hn) h2 x) _ _, h.inj, fun j g hg => by rw [size_set]; exact h.lt j g hg⟩

/-- what stands in the round of a node -/
structure CpS (wo wr : World) (N O D : Nat) (a : Option Addr) (len cap : Nat) (vo : Value) (dn : Int) (v : Value) : Prop where
  bel : Below wo.heap.size wo wr
  bx : TB 24 wr N [.slice a len cap]
  out : TB 24 wr O [vo]
  dv : TB 72 wr D [.int .i64 dn, v]
theorem CpS.stay {wo wr w' : World} {N O D : Nat} {a : Option Addr} {len cap : Nat} {vo : Value} {dn : Int} {v : Value} (h : CpS wo wr N O D a len cap vo dn v) (hb : Below wr.heap.size wr w') : CpS wo w' N O D a len cap vo dn v :=
  ⟨h.bel.trans (hb.mono h.bel.size), h.bx.stay hb, h.out.stay hb, h.dv.stay hb⟩

set_option maxRecDepth 100000 in
set_option maxHeartbeats 4000000 in
theorem rCopy_any (a : Option Addr) (cap : Nat) (F : FilP) (w : World) (hF : FilesAt w a F) (hS : Sml F) :
    Calls Try.prog 51 #[.agg #[.slice a F.length cap]] w fun e w' => ∃ v, e = .returned (.agg #[v]) ∧ OutF w.heap.size w' v F ∧ Below w.heap.size w w' := by
  obtain ⟨iE, hiE, hzE0, hzE1, hzE2⟩ := info_parts infoE
  obtain ⟨iN, hiN, hzN0, hzN1, hzN2⟩ := info_parts infoN
  obtain ⟨iD, hiD, hzD0, hzD1, hzD2⟩ := info_parts infoD
  have hb1 : Below w.heap.size w (w.alloc (.cells #[.slice a F.length cap] 24)) := (Below.refl _ _).alloc (Nat.le_refl _) _
  have hb2 := hb1.alloc hb1.size (.cells #[.slice none 0 0] 24)
  have hb3 := hb2.alloc hb2.size (.cells #[.slice none 0 0] 24)
  have tA := ((TB.new1 w [.slice a F.length cap] 24 w.heap.size rfl).alloc (.cells #[.slice none 0 0] 24)).alloc (.cells #[.slice none 0 0] 24)
  have tR := (TB.new1 (w.alloc (.cells #[.slice a F.length cap] 24)) [.slice none 0 0] 24 (w.heap.size + 1) (size_alloc _ _)).alloc (.cells #[.slice none 0 0] 24)
  have tO := TB.new1 ((w.alloc (.cells #[.slice a F.length cap] 24)).alloc (.cells #[.slice none 0 0] 24)) [.slice none 0 0] 24 (w.heap.size + 1 + 1) (by rw [size_alloc, size_alloc])
  have HF := Lib.hid (fun W (h : Below w.heap.size w W) => hF.below h)
  have HS := Lib.hid hS
  have hl := hS.len
  clear hF hS
  go_enter Try.func51, Try.ntmps51
  go_wp2_with fail
  go_loopw [4] (fun i wr => ∃ (k : Nat) (v : Value) (vn : Nat → Value) (ev : Nat → Nat → Value), k ≤ F.length ∧ i = .int .i64 k ∧ Hid (DevsK w.heap.size wr v vn ev F k) ∧ Below w.heap.size w wr ∧ TB 24 wr w.heap.size [.slice a F.length cap] ∧ TB 24 wr (w.heap.size + 1) [.slice none 0 0] ∧ TB 24 wr (w.heap.size + 1 + 1) [v]) (fun i _ => F.length - (intOf i).toNat)
  case atStart => exact ⟨0, _, _, _, Nat.zero_le _, rfl, Lib.hid (DevsK.zero _ _ _), hb3, tA, tR, tO⟩
  case round =>
    obtain ⟨k, v, vn, ev, hk, rfl, HK, hb, qA, qR, qO⟩ := hrel
    clear tA tR tO hb1 hb2 hb3
    obtain ⟨vo, vc, rfl⟩ := own_isS HK.out.row
    obtain ⟨f0, -⟩ := qA.blk.c1
    by_cases hlt : k < F.length
    · have hkk : (k : Int) < (F.length : Int) := by omega
      obtain ⟨b, o, rfl, hp⟩ := RowAt.get (HF.out _ hb) hlt
      have HP := Lib.hid (List.getElem?_eq_getElem hlt)
      have hln := HS.out.nodes _ (List.getElem_mem hlt)
      have hle := HS.out.ents _ (List.getElem_mem hlt)
      generalize F[k] = d at *
      obtain ⟨d0, va, cva, d1, -, -, hns⟩ := hp
      have HN := Lib.hid (fun W (h : Below wr.heap.size wr W) => And.intro (cell_stays d1 h) (RowAt.below NodeAt.stays hns h))
      have HLE := Lib.hid hle
      have HB := Lib.hid hb
      have hbz := hb.size
      obtain ⟨wo, rfl⟩ : ∃ wo : World, wo = wr := ⟨_, rfl⟩
      have hbo : Below wo.heap.size wo (wo.alloc (.cells #[.int .i64 d.next, .slice none 0 0] 72)) := (Below.refl _ _).alloc (Nat.le_refl _) _
      have S0 : CpS wo (wo.alloc (.cells #[.int .i64 d.next, .slice none 0 0] 72)) w.heap.size (w.heap.size + 1 + 1) wo.heap.size (some ⟨b, o, none⟩) F.length cap (.slice vo k vc) d.next (.slice none 0 0) := ⟨hbo, qA.stay hbo, qO.stay hbo, TB.new1 wo _ _ _ rfl⟩
      have QR := Lib.hid qR
      have hNO : w.heap.size + 1 + 1 < wo.heap.size := qO.lt
      clear hns hle hb qR
      go_wp2_with fail
      clear d0 d1 f0
      go_loopw [6] (fun i wq => ∃ (t : Nat) (v : Value) (e : Nat → Value), t ≤ d.nodes.length ∧ i = .int .i64 t ∧ Hid (NodesK wo.heap.size wq v e d.nodes t) ∧ CpS wo wq w.heap.size (w.heap.size + 1 + 1) wo.heap.size (some ⟨b, o, none⟩) F.length cap (.slice vo k vc) d.next v) (fun i _ => d.nodes.length - (intOf i).toNat)
      case atStart => exact ⟨0, _, _, Nat.zero_le _, rfl, Lib.hid (NodesK.zero _ _ _), S0⟩
      case round =>
        obtain ⟨t, v, e, ht, rfl, HNK, S⟩ := hrel
        clear S0 qA qO hbo
        obtain ⟨vno, vnc, rfl⟩ := own_isS HNK.out.row
        obtain ⟨f0, -⟩ := S.bx.blk.c1
        obtain ⟨d1, hns⟩ := HN.out _ S.bel
        by_cases htl : t < d.nodes.length
        · have htt : (t : Int) < (d.nodes.length : Int) := by omega
          obtain ⟨b', o', rfl, hpn⟩ := RowAt.get hns htl
          have HPN := Lib.hid (List.getElem?_eq_getElem htl)
          have hne := HLE.out _ (List.getElem_mem htl)
          generalize d.nodes[t] = n at *
          obtain ⟨p0, p1, p2, p3, p4, p5, p6, ve, ce, p7, hce, hnz, hE⟩ := hpn
          have HSS := Lib.hid S
          obtain ⟨w5, hw5⟩ : ∃ w5, w5 = wr.alloc (.cells #[.int .i64 n.ino, .int .i64 n.kind, .int .i64 n.mode, .int .i64 n.uid, .int .i64 n.gid, .int .i64 n.parent, .string n.target, .slice ve n.ents.length ce] 43) := ⟨_, rfl⟩
          have hb5 : Below wr.heap.size wr w5 := by rw [hw5]; exact (Below.refl _ _).alloc (Nat.le_refl _) _
          have tP : TB 43 w5 wr.heap.size [.int .i64 n.ino, .int .i64 n.kind, .int .i64 n.mode, .int .i64 n.uid, .int .i64 n.gid, .int .i64 n.parent, .string n.target, .slice ve n.ents.length ce] := by rw [hw5]; exact TB.new1 wr _ _ _ rfl
          have hE5 := RowAt.below EntAt.stays hE hb5
          have HW5 := Lib.hid hw5
          clear hw5 hE hns S
          go_upto_region 10 with fail
          rw [← HW5.out]
          clear HW5 p0 p1 p2 p3 p4 p5 p6 p7 d1 f0
          go_cut [] (fun W => ∃ va, TB 43 W wr.heap.size (ncs n va) ∧ OwnE wr.heap.size W va n.ents ∧ Below wr.heap.size wr W)
          case first =>
            obtain ⟨⟨s0, s1, s2, s3, s4, s5, s6, s7⟩, g0, g1, g2, g3, g4, g5, g6, g7⟩ := tP.blk.c8
            clear HP HPN HN HLE HB HSS HNK HK QR HF HS
            cases ve with
            | none =>
              obtain rfl := hnz rfl
              have hne0 : n.ents = [] := List.length_eq_zero_iff.1 (by omega)
              have FN : Hid (∃ va, TB 43 (w5.setCell ⟨wr.heap.size, 7, none⟩ (.slice none 0 0)) wr.heap.size (ncs n va) ∧ OwnE wr.heap.size (w5.setCell ⟨wr.heap.size, 7, none⟩ (.slice none 0 0)) va n.ents ∧ Below wr.heap.size wr (w5.setCell ⟨wr.heap.size, 7, none⟩ (.slice none 0 0))) := Lib.hid ⟨.slice none 0 0, tP.set 7 (.slice none 0 0), by rw [hne0]; exact OwnE.nil _ _, below_set hb5 (Nat.le_refl _) 7 _⟩
              have hel : n.ents.length = 0 := by rw [hne0]; rfl
              rw [hel] at s7
              clear hel hne0 tP hE5 hb5
              go_wp2_with (first
                | (at_builtin; (refine wpList_append_own_none rfl _ _ 41 rfl wr.heap.size 87 iE 2 Try.underlying41 hiE (.slice none 0 0) 0 [] rfl (World.ownsRow_nil _ _ _ _) rfl ?_))
                | fail)
              go_meet
              exact FN.out
            | some p =>
              have nw := Lib.hid (erow_cells hE5)
              have H1 := Lib.hid (erow_cell1 n.ents)
              have HLN := Lib.hid (erow_len n.ents)
              have HB5 := Lib.hid hb5
              have HT := Lib.hid tP
              have hz5 := hb5.size
              have H6 : Hid (0 + n.ents.length ≤ maxLen) := Lib.hid (by unfold maxLen; omega)
              have H7 : Hid ((0 + n.ents.length) * 24 ≤ 140737488355328) := Lib.hid (by omega)
              have H8 : Hid (wr.heap.size ≤ w5.heap.size) := Lib.hid hz5
              clear hb5 tP hE5
              go_wp2_with (first
                | (at_builtin; refine wpList_append_own _ rfl _ _ 41 rfl wr.heap.size 87 iE _ 2 24 Try.underlying41 hiE hzE0 hzE1 hzE2 rfl (by omega) _ 0 _ rfl (World.ownsRow_nil _ _ _ _) p n.ents.length ce (erow n.ents) rfl HLN.out nw.out H1.out H6.out H7.out H8.out ?_)
                | fail)
              intro v6 w6 own6 hgrow _
              have own6 : OwnE wr.heap.size w6 v6 n.ents := by
                unfold OwnE
                simpa using own6
              have hb6 : Below wr.heap.size wr w6 := HB5.out.grown hgrow hz5 (fun g hg => by cases hg)
              have tP6 := HT.out.keep (hgrow.block _ HT.out.lt (fun e => by cases e))
              obtain ⟨va6, vc6, rfl⟩ := own_isS own6
              have FN : Hid (∃ va, TB 43 (w6.setCell ⟨wr.heap.size, 7, none⟩ (.slice va6 n.ents.length vc6)) wr.heap.size (ncs n va) ∧ OwnE wr.heap.size (w6.setCell ⟨wr.heap.size, 7, none⟩ (.slice va6 n.ents.length vc6)) va n.ents ∧ Below wr.heap.size wr (w6.setCell ⟨wr.heap.size, 7, none⟩ (.slice va6 n.ents.length vc6))) := Lib.hid ⟨.slice va6 n.ents.length vc6, tP6.set 7 _, own_other own6 (fun e => tP6.ne own6 (by decide) e) 7 _, below_set hb6 (Nat.le_refl _) 7 _⟩
              clear s0 s1 s2 s3 s4 s5 s6 s7 g0 g1 g2 g3 g4 g5 g6 g7
              obtain ⟨-, g0, g1, g2, g3, g4, g5, g6, g7⟩ := tP6.blk.c8
              obtain ⟨s7, -⟩ := (And.intro (tP6.blk.cell 7 _ rfl) trivial : _ ∧ True)
              clear hgrow own6 hb6 tP6 nw H1 HLN HT HB5
              go_wp2_with fail
              go_meet
              exact FN.out
          case rest =>
            obtain ⟨vE, tQ, hown, hbc⟩ := hcut
            obtain ⟨ea, ec, rfl⟩ := own_isS hown
            have S' := Lib.hid (HSS.out.stay hbc)
            have HNc := Lib.hid (HNK.out.keep hbc)
            obtain ⟨⟨s0, s1, s2, s3, s4, s5, s6, s7⟩, -⟩ := tQ.blk.c8
            have d1 : wc.cell? ⟨wo.heap.size, 1, none⟩ = some (.slice vno t vnc) := S'.out.dv.blk.c2.2.1
            have hba : Below wc.heap.size wc (wc.alloc (.cells #[.int .i64 n.ino, .int .i64 n.kind, .int .i64 n.mode, .int .i64 n.uid, .int .i64 n.gid, .int .i64 n.parent, .string n.target, .slice ea n.ents.length ec] 43)) := (Below.refl _ _).alloc (Nat.le_refl _) _
            have HNW := Lib.hid (World.news_of_block (w := wc.alloc (.cells #[.int .i64 n.ino, .int .i64 n.kind, .int .i64 n.mode, .int .i64 n.uid, .int .i64 n.gid, .int .i64 n.parent, .string n.target, .slice ea n.ents.length ec] 43)) (cs := #[.int .i64 n.ino, .int .i64 n.kind, .int .i64 n.mode, .int .i64 n.uid, .int .i64 n.gid, .int .i64 n.parent, .string n.target, .slice ea n.ents.length ec]) (t := 43) (fr := (0, 0)) (heap_alloc_new wc _))
            have HBA := Lib.hid (And.intro (hbc.trans (hba.mono hbc.size)) (own_keep hown (fun g hg => hba.block g (own_lt hown hg).2)))
            have SA := Lib.hid (S'.out.stay hba)
            have H5 : Hid (∀ u ∈ ncs n (.slice ea n.ents.length ec), u.oneCell' = true) := Lib.hid (by simp [Value.oneCell', ncs])
            have H6 : Hid (t + 1 ≤ maxLen) := Lib.hid (by unfold maxLen; omega)
            have H7 : Hid ((t + 1) * 88 ≤ 140737488355328) := Lib.hid (by omega)
            have hwz := HSS.out.bel.size
            have H8 : Hid (wo.heap.size ≤ (wc.alloc (.cells #[.int .i64 n.ino, .int .i64 n.kind, .int .i64 n.mode, .int .i64 n.uid, .int .i64 n.gid, .int .i64 n.parent, .string n.target, .slice ea n.ents.length ec] 43)).heap.size) := Lib.hid (Nat.le_trans (Nat.le_trans hwz hbc.size) hba.size)
            clear tQ hown hbc hba tP hb5 hE5
            go_upto_region 11 with fail
            go_wp2_with (first
              | (at_builtin; refine wpList_append_own _ rfl _ _ 70 rfl wo.heap.size 43 iN _ 8 88 Try.underlying70 hiN hzN0 hzN1 hzN2 rfl (by omega) _ t _ rfl (HNc.out.row.alloc _) ⟨wc.heap.size, 0, none⟩ 1 1 (ncs n (.slice ea n.ents.length ec)) rfl rfl HNW.out H5.out H6.out H7.out H8.out ?_)
              | fail)
            intro v9 w9 own9 hgrow _
            obtain ⟨va9, vc9, rfl⟩ := own_isS own9
            have NX := NodesK.next HNK.out HPN.out HBA.out.1 HBA.out.2 hgrow own9 hwz
            have rowC := HNc.out.row.alloc (.cells #[.int .i64 n.ino, .int .i64 n.kind, .int .i64 n.mode, .int .i64 n.uid, .int .i64 n.gid, .int .i64 n.parent, .string n.target, .slice ea n.ents.length ec] 43)
            have dv9 := SA.out.dv.grown rowC (by decide) hgrow
            have RES : Hid (NodesK wo.heap.size (w9.setCell ⟨wo.heap.size, 1, none⟩ (.slice va9 (t + 1) vc9)) (.slice va9 (t + 1) vc9) (upd1 e t (.slice ea n.ents.length ec)) d.nodes (t + 1) ∧ CpS wo (w9.setCell ⟨wo.heap.size, 1, none⟩ (.slice va9 (t + 1) vc9)) w.heap.size (w.heap.size + 1 + 1) wo.heap.size (some ⟨b, o, none⟩) F.length cap (.slice vo k vc) d.next (.slice va9 (t + 1) vc9)) := Lib.hid
              ⟨NX.far dv9 (by decide) (by decide) 1 _, below_set (SA.out.bel.grown hgrow SA.out.bel.size (fun g hg => (own_lt rowC hg).1)) (Nat.le_refl _) 1 _, (SA.out.bx.grown rowC (by decide) hgrow).other (by omega) 1 _, (SA.out.out.grown rowC (by decide) hgrow).other (by omega) 1 _, dv9.set 1 _⟩
            obtain ⟨-, y1, -, yf1⟩ := dv9.blk.c2
            clear own9 hgrow NX rowC dv9 s0 s1 s2 s3 s4 s5 s6 s7 d1
            go_wp2_with fail
            exact ⟨⟨t + 1, _, _, by omega, by go_num, Lib.hid RES.out.1, RES.out.2⟩, by simp [intOf]; omega⟩
        · have htt : ¬ (t : Int) < (d.nodes.length : Int) := by omega
          obtain rfl : t = d.nodes.length := by omega
          have S' := Lib.hid S
          obtain ⟨o0, of0⟩ := S.out.blk.c1
          obtain ⟨e0, e1, -, -⟩ := S.dv.blk.c2
          have hba : Below wr.heap.size wr (wr.alloc (.cells #[.int .i64 d.next, .slice vno d.nodes.length vnc] 72)) := (Below.refl _ _).alloc (Nat.le_refl _) _
          have HNW := Lib.hid (World.news_of_block (w := wr.alloc (.cells #[.int .i64 d.next, .slice vno d.nodes.length vnc] 72)) (cs := #[.int .i64 d.next, .slice vno d.nodes.length vnc]) (t := 72) (fr := (0, 0)) (heap_alloc_new wr _))
          have SA := Lib.hid (S.stay hba)
          have HKr := Lib.hid (HK.out.keep S.bel)
          have HNr := Lib.hid (HNK.out.keep hba)
          have H5 : Hid (∀ u ∈ dcs d (.slice vno d.nodes.length vnc), u.oneCell' = true) := Lib.hid (by simp [Value.oneCell', dcs])
          have H6 : Hid (k + 1 ≤ maxLen) := Lib.hid (by unfold maxLen; omega)
          have H7 : Hid ((k + 1) * 32 ≤ 140737488355328) := Lib.hid (by omega)
          have H8 : Hid (w.heap.size ≤ (wr.alloc (.cells #[.int .i64 d.next, .slice vno d.nodes.length vnc] 72)).heap.size) := Lib.hid (Nat.le_trans (Nat.le_trans hbz S.bel.size) hba.size)
          clear S hba htl ht hns HN
          go_wp2_with (first
            | (at_builtin; refine wpList_append_own _ rfl _ _ 22 rfl w.heap.size 72 iD _ 2 32 Try.underlying22 hiD hzD0 hzD1 hzD2 rfl (by omega) _ k _ rfl (HKr.out.row.alloc _) ⟨wr.heap.size, 0, none⟩ 1 1 (dcs d (.slice vno d.nodes.length vnc)) rfl rfl HNW.out H5.out H6.out H7.out H8.out ?_)
            | fail)
          intro v9 w9 own9 hgrow _
          obtain ⟨va9, vc9, rfl⟩ := own_isS own9
          have NX := DevsK.next HK.out HP.out SA.out.bel HNr.out hgrow own9 hbz
          have rowC := HKr.out.row.alloc (.cells #[.int .i64 d.next, .slice vno d.nodes.length vnc] 72)
          have tO9 := SA.out.out.grown rowC (by decide) hgrow
          have tR9 := (QR.out.stay SA.out.bel).grown rowC (by decide) hgrow
          have tA9 := SA.out.bx.grown rowC (by decide) hgrow
          have RES : Hid (DevsK w.heap.size (w9.setCell ⟨w.heap.size + 1 + 1, 0, none⟩ (.slice va9 (k + 1) vc9)) (.slice va9 (k + 1) vc9) (upd1 vn k (.slice vno d.nodes.length vnc)) (updR ev k e) F (k + 1) ∧ Below w.heap.size w (w9.setCell ⟨w.heap.size + 1 + 1, 0, none⟩ (.slice va9 (k + 1) vc9)) ∧ TB 24 (w9.setCell ⟨w.heap.size + 1 + 1, 0, none⟩ (.slice va9 (k + 1) vc9)) w.heap.size [.slice (some ⟨b, o, none⟩) F.length cap] ∧ TB 24 (w9.setCell ⟨w.heap.size + 1 + 1, 0, none⟩ (.slice va9 (k + 1) vc9)) (w.heap.size + 1) [.slice none 0 0] ∧ TB 24 (w9.setCell ⟨w.heap.size + 1 + 1, 0, none⟩ (.slice va9 (k + 1) vc9)) (w.heap.size + 1 + 1) [.slice va9 (k + 1) vc9]) := Lib.hid
            ⟨NX.same (tO9.same (by decide) 0 _), below_set ((HB.out.trans (SA.out.bel.mono hbz)).grown hgrow H8.out (fun g hg => (own_lt rowC hg).1)) (by omega) 0 _, tA9.other (by omega) 0 _, tR9.other (by omega) 0 _, tO9.set 0 _⟩
          obtain ⟨y0, yf0⟩ := tO9.blk.c1
          clear own9 hgrow NX rowC tO9 tR9 tA9 o0 of0 e0 e1
          go_wp2_with fail
          exact ⟨⟨k + 1, _, _, _, by omega, by go_num, Lib.hid RES.out.1, RES.out.2.1, RES.out.2.2.1, RES.out.2.2.2.1, RES.out.2.2.2.2⟩, by simp [intOf]; omega⟩
    · have hkk : ¬ (k : Int) < (F.length : Int) := by omega
      obtain rfl : k = F.length := by omega
      obtain ⟨r0, rf0⟩ := qR.blk.c1
      obtain ⟨o0, of0⟩ := qO.blk.c1
      have n0 := (TB.blk (cs := [.slice vo F.length vc]) (qR.set 0 (.slice vo F.length vc))).c1.1
      have HFN : Hid (∃ v, Ending.returned (.agg #[.slice vo F.length vc]) = .returned (.agg #[v]) ∧ OutF w.heap.size (wr.setCell ⟨w.heap.size + 1, 0, none⟩ (.slice vo F.length vc)) v F ∧ Below w.heap.size w (wr.setCell ⟨w.heap.size + 1, 0, none⟩ (.slice vo F.length vc))) := Lib.hid ⟨_, rfl, ⟨_, _, HK.out.files.same (qR.same (by decide) 0 _)⟩, below_set hb (by omega) 0 _⟩
      clear hlt hk qA qR qO HK hb
      go_wp2_with fail
      exact bodyPost_ret (v := .agg #[.slice vo F.length vc]) (by simp [results, Try.f51, go_sem, n0]) rfl HFN.out
end Go.Proofs.Ytafnbpkdenjipaa.fl
