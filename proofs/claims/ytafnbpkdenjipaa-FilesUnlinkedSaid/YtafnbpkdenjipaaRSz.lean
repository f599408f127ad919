/-
  Same of the reference of files, where both are the same.
  SameChanges of the reference of files, where both are the same.
  bad of the laws of files, where both answers are the same.
-/
import Derived.Test.YtafnbpkdenjipaaFGi
import Derived.BigQuiet
import Derived.StillTailTactics
import Derived.Laws.StructEq
import Derived.Deep.DeepCutAuto
import Derived.Deep.RegionHeld3
namespace Go.Proofs.Ytafnbpkdenjipaa.fl
open Go.RowKit Go.Proofs.Ytafnbpkdenjipaa.cm

theorem neq_entry (s : ByteArray) (i : Int) (W : World) : (binOp .neq 87 (.agg #[.string s, .int .i64 i]) (.agg #[.string s, .int .i64 i])).run Try.prog W = .ok (.bool false) W := by
  rw [run_neq_struct, run_equalIn_agg _ _ _ _ _ (by kernel_rfl) (by kernel_rfl)]
  simp [Op.eqFields, go_sem]

set_option maxRecDepth 100000 in
set_option maxHeartbeats 2000000 in
theorem sameNode_true (n : NodeP) (va vb : Option Addr) (ca cb : Nat) (w : World) (hA : Ents w va n.ents) (hB : Ents w vb n.ents) (hl : n.ents.length ≤ 1000) :
    Calls Try.prog 35 #[.agg #[.int .i64 n.ino, .int .i64 n.kind, .int .i64 n.mode, .int .i64 n.uid, .int .i64 n.gid, .int .i64 n.parent, .string n.target, .slice va n.ents.length ca], .agg #[.int .i64 n.ino, .int .i64 n.kind, .int .i64 n.mode, .int .i64 n.uid, .int .i64 n.gid, .int .i64 n.parent, .string n.target, .slice vb n.ents.length cb]] w
      fun e w' => e = .returned (.bool true) ∧ Below w.heap.size w w' := by
  have hb1 : Below w.heap.size w (w.alloc (.cells #[.int .i64 n.ino, .int .i64 n.kind, .int .i64 n.mode, .int .i64 n.uid, .int .i64 n.gid, .int .i64 n.parent, .string n.target, .slice va n.ents.length ca] 43)) := (Below.refl _ _).alloc (Nat.le_refl _) _
  have hb2 := hb1.alloc hb1.size (.cells #[.int .i64 n.ino, .int .i64 n.kind, .int .i64 n.mode, .int .i64 n.uid, .int .i64 n.gid, .int .i64 n.parent, .string n.target, .slice vb n.ents.length cb] 43)
  obtain ⟨w2, hw2⟩ : ∃ w2, w2 = (w.alloc (.cells #[.int .i64 n.ino, .int .i64 n.kind, .int .i64 n.mode, .int .i64 n.uid, .int .i64 n.gid, .int .i64 n.parent, .string n.target, .slice va n.ents.length ca] 43)).alloc (.cells #[.int .i64 n.ino, .int .i64 n.kind, .int .i64 n.mode, .int .i64 n.uid, .int .i64 n.gid, .int .i64 n.parent, .string n.target, .slice vb n.ents.length cb] 43) := ⟨_, rfl⟩
  have tA : TB 43 w2 w.heap.size (ncs n (.slice va n.ents.length ca)) := by rw [hw2]; exact (TB.new1 w (ncs n (.slice va n.ents.length ca)) _ _ rfl).alloc _
  have tB : TB 43 w2 (w.heap.size + 1) (ncs n (.slice vb n.ents.length cb)) := by rw [hw2]; exact TB.new1 _ (ncs n (.slice vb n.ents.length cb)) _ _ (size_alloc _ _)
  rw [← hw2] at hb2
  have HA := Lib.hid (fun W (h : Below w.heap.size w W) => RowAt.below EntAt.stays hA h)
  have HB := Lib.hid (fun W (h : Below w.heap.size w W) => RowAt.below EntAt.stays hB h)
  have HW := Lib.hid hw2
  obtain ⟨⟨a0, a1, a2, a3, a4, a5, a6, a7⟩, -⟩ := tA.blk.c8
  obtain ⟨⟨b0, b1, b2, b3, b4, b5, b6, b7⟩, -⟩ := tB.blk.c8
  clear hw2 hA hB hb1
  go_enter Try.func35, Try.ntmps35
  go_upto_region 1 with fail
  rw [← HW.out]
  clear HW
  go_wp2_with fail
  clear a0 a1 a2 a3 a4 a5 a6 a7 b0 b1 b2 b3 b4 b5 b6 b7
  go_loopw [5] (fun i wr => ∃ k : Nat, k ≤ n.ents.length ∧ i = .int .i64 k ∧ Below w.heap.size w wr ∧ TB 43 wr w.heap.size (ncs n (.slice va n.ents.length ca)) ∧ TB 43 wr (w.heap.size + 1) (ncs n (.slice vb n.ents.length cb))) (fun i _ => n.ents.length - (intOf i).toNat)
  case atStart => exact ⟨0, Nat.zero_le _, rfl, hb2, tA, tB⟩
  case round =>
    obtain ⟨k, hk, rfl, hb, qA, qB⟩ := hrel
    clear tA tB hb2
    have a7 : wr.cell? ⟨w.heap.size, 7, none⟩ = some (.slice va n.ents.length ca) := qA.blk.cell 7 _ rfl
    have b7 : wr.cell? ⟨w.heap.size + 1, 7, none⟩ = some (.slice vb n.ents.length cb) := qB.blk.cell 7 _ rfl
    by_cases hlt : k < n.ents.length
    · have hkk : (k : Int) < (n.ents.length : Int) := by omega
      obtain ⟨bA, oA, rfl, hpA⟩ := (HA.out _ hb).get hlt
      obtain ⟨bB, oB, rfl, hpB⟩ := (HB.out _ hb).get hlt
      obtain ⟨x, hx⟩ : ∃ x, x = n.ents[k] := ⟨_, rfl⟩
      rw [← hx] at hpA hpB
      clear hx
      obtain ⟨x0, x1⟩ := hpA
      obtain ⟨y0, y1⟩ := hpB
      have NE := fun W => neq_entry x.name x.ino W
      have HQ := Lib.hid (And.intro hb (And.intro qA qB))
      go_wp2_with fail
      go_quiet (fail)
      go_wp2_with fail
      refine ⟨⟨k + 1, by omega, by go_num, ?_, HQ.out.2.1, HQ.out.2.2⟩, by simp [intOf]; omega⟩
      exact ⟨HQ.out.1.os, HQ.out.1.tape, HQ.out.1.output, HQ.out.1.size, HQ.out.1.block⟩
    · have hkk : ¬ (k : Int) < (n.ents.length : Int) := by omega
      obtain rfl : k = n.ents.length := by omega
      clear hlt hk
      go_wp2_with fail
      go_ret
      exact ⟨rfl, hb⟩

set_option maxRecDepth 100000 in
set_option maxHeartbeats 4000000 in
theorem Same_true (a b : Option Addr) (ca cb : Nat) (F : FilP) (w : World) (hA : FilesAt w a F) (hB : FilesAt w b F) (hS : Sml F) :
    Calls Try.prog 11 #[.agg #[.slice a F.length ca], .agg #[.slice b F.length cb]] w fun e w' => e = .returned (.bool true) ∧ Below w.heap.size w w' := by
  have hb1 : Below w.heap.size w (w.alloc (.cells #[.slice a F.length ca] 24)) := (Below.refl _ _).alloc (Nat.le_refl _) _
  have hb2 := hb1.alloc hb1.size (.cells #[.slice b F.length cb] 24)
  have tA : TB 24 ((w.alloc (.cells #[.slice a F.length ca] 24)).alloc (.cells #[.slice b F.length cb] 24)) w.heap.size [.slice a F.length ca] := (TB.new1 w _ _ _ rfl).alloc _
  have tB : TB 24 ((w.alloc (.cells #[.slice a F.length ca] 24)).alloc (.cells #[.slice b F.length cb] 24)) (w.heap.size + 1) [.slice b F.length cb] := TB.new1 _ _ _ _ (size_alloc _ _)
  have HA := Lib.hid (fun W (h : Below w.heap.size w W) => hA.below h)
  have HB := Lib.hid (fun W (h : Below w.heap.size w W) => hB.below h)
  have HS := Lib.hid hS
  have hl := hS.len
  clear hA hB hS
  go_enter Try.func11, Try.ntmps11
  go_wp2_with fail
  go_loopw [5] (fun i wr => ∃ k : Nat, k ≤ F.length ∧ i = .int .i64 k ∧ Below w.heap.size w wr ∧ TB 24 wr w.heap.size [.slice a F.length ca] ∧ TB 24 wr (w.heap.size + 1) [.slice b F.length cb]) (fun i _ => F.length - (intOf i).toNat)
  case atStart => exact ⟨0, Nat.zero_le _, rfl, hb2, tA, tB⟩
  case round =>
    obtain ⟨k, hk, rfl, hb, qA, qB⟩ := hrel
    clear tA tB hb2 hb1
    obtain ⟨f0, -⟩ := qA.blk.c1
    obtain ⟨g0, -⟩ := qB.blk.c1
    by_cases hlt : k < F.length
    · have hkk : (k : Int) < (F.length : Int) := by omega
      obtain ⟨bA, oA, rfl, hpA⟩ := RowAt.get (HA.out _ hb) hlt
      obtain ⟨bB, oB, rfl, hpB⟩ := RowAt.get (HB.out _ hb) hlt
      have hln := HS.out.nodes _ (List.getElem_mem hlt)
      have hle := HS.out.ents _ (List.getElem_mem hlt)
      obtain ⟨d, hd⟩ : ∃ d, d = F[k] := ⟨_, rfl⟩
      rw [← hd] at hpA hpB hln hle
      clear hd
      obtain ⟨x0, va, cva, x1, -, -, hnA⟩ := hpA
      obtain ⟨y0, vb, cvb, y1, -, -, hnB⟩ := hpB
      have HNA := Lib.hid (fun W (h : Below wr.heap.size wr W) => RowAt.below NodeAt.stays hnA h)
      have HNB := Lib.hid (fun W (h : Below wr.heap.size wr W) => RowAt.below NodeAt.stays hnB h)
      have HQ := Lib.hid (And.intro hb (And.intro qA qB))
      have HLE := Lib.hid hle
      clear hnA hnB hle
      go_upto_region 6 with fail
      go_cut [6, 7] (fun s6 s7 W => ∃ X Y, s6 = .pointer (some ⟨X, 0, none⟩) ∧ s7 = .pointer (some ⟨Y, 0, none⟩) ∧ TB 72 W X [.int .i64 d.next, .slice va d.nodes.length cva] ∧ TB 72 W Y [.int .i64 d.next, .slice vb d.nodes.length cvb] ∧ Below wr.heap.size wr W)
      case first =>
        go_region_held3 (fun W => W.cell? ⟨w.heap.size, 0, none⟩ = some (.slice (some ⟨bA, oA, none⟩) F.length ca) ∧ W.cell? ⟨w.heap.size + 1, 0, none⟩ = some (.slice (some ⟨bB, oB, none⟩) F.length cb) ∧ W.cell? ⟨bA, oA + k * 2, none⟩ = some (.int .i64 d.next) ∧ W.cell? ⟨bA, oA + k * 2 + 1, none⟩ = some (.slice va d.nodes.length cva) ∧ W.cell? ⟨bB, oB + k * 2, none⟩ = some (.int .i64 d.next) ∧ W.cell? ⟨bB, oB + k * 2 + 1, none⟩ = some (.slice vb d.nodes.length cvb))
          (go_keep)
          (fail)
        all_goals
          go_wp2_with fail
          go_meet
          first
            | exact ⟨_, _, rfl, rfl, ((TB.new1 wr _ _ _ rfl).alloc _).drew, (TB.new1 _ _ _ _ (size_alloc _ _)).drew, (((Below.refl _ _).alloc (Nat.le_refl _) _).alloc (by rw [size_alloc]; omega) _).drew⟩
            | exact ⟨_, _, rfl, rfl, (TB.new1 _ _ _ _ (size_alloc _ _)).drew, ((TB.new1 wr _ _ _ rfl).alloc _).drew, (((Below.refl _ _).alloc (Nat.le_refl _) _).alloc (by rw [size_alloc]; omega) _).drew⟩
      case rest =>
        obtain ⟨X, Y, rfl, rfl, tX, tY, hbc⟩ := hcut
        obtain ⟨c0, c1, -⟩ := tX.blk.c2
        obtain ⟨e0, e1, -⟩ := tY.blk.c2
        clear f0 g0 x0 x1 y0 y1 qA qB hb
        go_upto_region 7 with fail
        go_wp2_with fail
        clear c0 c1 e0 e1
        obtain ⟨wo, rfl⟩ : ∃ wo : World, wo = wr := ⟨_, rfl⟩
        go_loopw [8] (fun i wq => ∃ t : Nat, t ≤ d.nodes.length ∧ i = .int .i64 t ∧ Below wo.heap.size wo wq ∧ TB 72 wq X [.int .i64 d.next, .slice va d.nodes.length cva] ∧ TB 72 wq Y [.int .i64 d.next, .slice vb d.nodes.length cvb]) (fun i _ => d.nodes.length - (intOf i).toNat)
        case atStart => exact ⟨0, Nat.zero_le _, rfl, hbc, tX, tY⟩
        case round =>
          obtain ⟨t, ht, rfl, hbi, zX, zY⟩ := hrel
          clear tX tY hbc
          have c1 : _ := zX.blk.c2.2.1
          have e1 : _ := zY.blk.c2.2.1
          by_cases htl : t < d.nodes.length
          · have htt : (t : Int) < (d.nodes.length : Int) := by omega
            obtain ⟨nA, pA, rfl, hpA⟩ := RowAt.get (HNA.out _ hbi) htl
            obtain ⟨nB, pB, rfl, hpB⟩ := RowAt.get (HNB.out _ hbi) htl
            have hne := HLE.out _ (List.getElem_mem htl)
            obtain ⟨n, hn⟩ : ∃ n, n = d.nodes[t] := ⟨_, rfl⟩
            rw [← hn] at hpA hpB hne
            clear hn
            obtain ⟨p0, p1, p2, p3, p4, p5, p6, ea, cea, p7, -, -, hEA⟩ := hpA
            obtain ⟨q0, q1, q2, q3, q4, q5, q6, eb, ceb, q7, -, -, hEB⟩ := hpB
            have CS := Lib.hid (sameNode_true n ea eb cea ceb wr.drew (RowAt.below EntAt.stays hEA (Below.refl _ _).drew) (RowAt.below EntAt.stays hEB (Below.refl _ _).drew) hne)
            have HZ := Lib.hid (And.intro hbi (And.intro zX zY))
            clear hEA hEB hne hbi zX zY
            go_wp2_with fail
            go_still_tail 10, (by kernel_rfl)
            change wpList _ _ _ _ _ wr.drew
            go_wp2_with fail
            refine CS.out.mono ?_
            rintro e w9 ⟨rfl, hb9⟩
            have hb8 : Below wr.heap.size wr w9 := (Below.refl wr.heap.size wr).drew.trans hb9
            have HF := Lib.hid (And.intro (HZ.out.1.trans (hb8.mono HZ.out.1.size)) (And.intro (HZ.out.2.1.stay hb8) (HZ.out.2.2.stay hb8)))
            clear p0 p1 p2 p3 p4 p5 p6 p7 q0 q1 q2 q3 q4 q5 q6 q7 c1 e1 CS hb9 hb8
            go_wp2_with fail
            exact ⟨⟨t + 1, by omega, by go_num, HF.out.1, HF.out.2.1, HF.out.2.2⟩, by simp [intOf]; omega⟩
          · have htt : ¬ (t : Int) < (d.nodes.length : Int) := by omega
            obtain rfl : t = d.nodes.length := by omega
            have HF := Lib.hid (And.intro (HQ.out.1.trans (hbi.mono HQ.out.1.size)) (And.intro (HQ.out.2.1.stay hbi) (HQ.out.2.2.stay hbi)))
            clear htl ht
            go_wp2_with fail
            exact ⟨⟨k + 1, by omega, by go_num, HF.out.1, HF.out.2.1, HF.out.2.2⟩, by simp [intOf]; omega⟩
    · have hkk : ¬ (k : Int) < (F.length : Int) := by omega
      obtain rfl : k = F.length := by omega
      clear hlt hk
      go_wp2_with fail
      go_ret
      exact ⟨rfl, hb⟩
end Go.Proofs.Ytafnbpkdenjipaa.fl
namespace Go.Proofs.Ytafnbpkdenjipaa.fl
open Go.RowKit Go.Proofs.Ytafnbpkdenjipaa.cm

theorem neq_change (c : ChgP) (W : World) : (binOp .neq 66 (.agg #[.int .i64 c.dir.dev, .int .i64 c.dir.ino, .string c.name, .int .i64 c.old.dev, .int .i64 c.old.ino, .int .i64 c.now.dev, .int .i64 c.now.ino]) (.agg #[.int .i64 c.dir.dev, .int .i64 c.dir.ino, .string c.name, .int .i64 c.old.dev, .int .i64 c.old.ino, .int .i64 c.now.dev, .int .i64 c.now.ino])).run Try.prog W = .ok (.bool false) W := by
  rw [run_neq_struct, run_equalIn_agg _ _ _ _ _ (by kernel_rfl) (by kernel_rfl)]
  simp [Op.eqFields, go_sem]

set_option maxRecDepth 100000 in
set_option maxHeartbeats 2000000 in
theorem SameC_true (A B : Nat) (va vb : Value) (l : List ChgP) (w : World) (hA : OwnC A w va l) (hB : OwnC B w vb l) (hl : l.length ≤ 1000) :
    Calls Try.prog 54 #[va, vb] w fun e w' => e = .returned (.bool true) ∧ Below w.heap.size w w' := by
  obtain ⟨a, ca, rfl, -, na, pa⟩ := own_slice hA
  obtain ⟨b, cb, rfl, -, nb, pb⟩ := own_slice hB
  have HC : Hid (∀ k c, l[k]? = some c → ∃ g h, a = some ⟨g, 0, none⟩ ∧ b = some ⟨h, 0, none⟩ ∧ ∀ W, Below w.heap.size w W → ∀ i, i < 7 → W.cell? ⟨g, k * 7 + i, none⟩ = (ccs c)[i]? ∧ W.cell? ⟨h, k * 7 + i, none⟩ = (ccs c)[i]?) := Lib.hid (fun k c hk => by
    have hkl := (List.getElem?_eq_some_iff.1 hk).1
    cases a with
    | none => have := (na rfl).2; omega
    | some p =>
      cases b with
      | none => have := (nb rfl).2; omega
      | some q =>
        obtain ⟨g, rfl, -, -, hg⟩ := pa p rfl
        obtain ⟨h, rfl, -, -, hh⟩ := pb q rfl
        exact ⟨g, h, rfl, rfl, fun W hb i hi => ⟨(hb.cell (p := ⟨g, k * 7 + i, none⟩) hg).trans ((own_cell hA rfl (by omega)).trans (crow_at l k c hk i hi)), (hb.cell (p := ⟨h, k * 7 + i, none⟩) hh).trans ((own_cell hB rfl (by omega)).trans (crow_at l k c hk i hi))⟩⟩)
  clear hA hB na nb pa pb
  go_enter Try.func54, Try.ntmps54
  go_wp2_with fail
  go_loopw [5] (fun i wr => ∃ k : Nat, k ≤ l.length ∧ i = .int .i64 k ∧ Below w.heap.size w wr) (fun i _ => l.length - (intOf i).toNat)
  case atStart => exact ⟨0, Nat.zero_le _, rfl, Below.refl _ _⟩
  case round =>
    obtain ⟨k, hk, rfl, hb⟩ := hrel
    by_cases hlt : k < l.length
    · have hkk : (k : Int) < (l.length : Int) := by omega
      obtain ⟨g, h, rfl, rfl, hc⟩ := HC.out k _ (List.getElem?_eq_getElem hlt)
      obtain ⟨c, hcx⟩ : ∃ c, c = l[k] := ⟨_, rfl⟩
      rw [← hcx] at hc
      have x0 : wr.cell? ⟨g, k * 7, none⟩ = some (.int .i64 c.dir.dev) := (hc wr hb 0 (by omega)).1
      have x1 : wr.cell? ⟨g, k * 7 + 1, none⟩ = some (.int .i64 c.dir.ino) := (hc wr hb 1 (by omega)).1
      have x2 : wr.cell? ⟨g, k * 7 + 2, none⟩ = some (.string c.name) := (hc wr hb 2 (by omega)).1
      have x3 : wr.cell? ⟨g, k * 7 + 3, none⟩ = some (.int .i64 c.old.dev) := (hc wr hb 3 (by omega)).1
      have x4 : wr.cell? ⟨g, k * 7 + 4, none⟩ = some (.int .i64 c.old.ino) := (hc wr hb 4 (by omega)).1
      have x5 : wr.cell? ⟨g, k * 7 + 5, none⟩ = some (.int .i64 c.now.dev) := (hc wr hb 5 (by omega)).1
      have x6 : wr.cell? ⟨g, k * 7 + 6, none⟩ = some (.int .i64 c.now.ino) := (hc wr hb 6 (by omega)).1
      have y0 : wr.cell? ⟨h, k * 7, none⟩ = some (.int .i64 c.dir.dev) := (hc wr hb 0 (by omega)).2
      have y1 : wr.cell? ⟨h, k * 7 + 1, none⟩ = some (.int .i64 c.dir.ino) := (hc wr hb 1 (by omega)).2
      have y2 : wr.cell? ⟨h, k * 7 + 2, none⟩ = some (.string c.name) := (hc wr hb 2 (by omega)).2
      have y3 : wr.cell? ⟨h, k * 7 + 3, none⟩ = some (.int .i64 c.old.dev) := (hc wr hb 3 (by omega)).2
      have y4 : wr.cell? ⟨h, k * 7 + 4, none⟩ = some (.int .i64 c.old.ino) := (hc wr hb 4 (by omega)).2
      have y5 : wr.cell? ⟨h, k * 7 + 5, none⟩ = some (.int .i64 c.now.dev) := (hc wr hb 5 (by omega)).2
      have y6 : wr.cell? ⟨h, k * 7 + 6, none⟩ = some (.int .i64 c.now.ino) := (hc wr hb 6 (by omega)).2
      have NE := fun W => neq_change c W
      have HQ := Lib.hid hb
      clear hc hcx hb HC
      go_wp2_with fail
      go_quiet (fail)
      go_wp2_with fail
      exact ⟨⟨k + 1, by omega, by go_num, ⟨HQ.out.os, HQ.out.tape, HQ.out.output, HQ.out.size, HQ.out.block⟩⟩, by simp [intOf]; omega⟩
    · have hkk : ¬ (k : Int) < (l.length : Int) := by omega
      obtain rfl : k = l.length := by omega
      clear hlt hk
      go_wp2_with fail
      go_ret
      exact ⟨rfl, hb⟩
end Go.Proofs.Ytafnbpkdenjipaa.fl
namespace Go.Proofs.Ytafnbpkdenjipaa.fl
open Go.RowKit Go.Proofs.Ytafnbpkdenjipaa.cm

set_option maxRecDepth 100000 in
set_option maxHeartbeats 2000000 in
theorem bad_no (A1 A2 B1 B2 : Nat) (r : ResP) (fv gv cv kv : Value) (w : World) (h1 : OutF A1 w fv r.files) (h2 : OwnC A2 w cv r.chg) (h3 : OutF B1 w gv r.files) (h4 : OwnC B2 w kv r.chg) (hS : Sml r.files) (hl : r.chg.length ≤ 1000) :
    Calls Try.prog 27 #[.agg #[fv], cv, .int .i64 r.err, .agg #[gv], kv, .int .i64 r.err] w fun e w' => e = .returned (.bool false) ∧ Below w.heap.size w w' := by
  obtain ⟨fa, fc, rfl, hf⟩ : ∃ fa fc, fv = .slice fa r.files.length fc ∧ FilesAt w fa r.files := by
    obtain ⟨vn, ev, h⟩ := h1
    obtain ⟨a, c, h, -, -, h'⟩ := h.at_
    exact ⟨a, c, h, h'⟩
  obtain ⟨ga, gc, rfl, hg⟩ : ∃ fa fc, gv = .slice fa r.files.length fc ∧ FilesAt w fa r.files := by
    obtain ⟨vn, ev, h⟩ := h3
    obtain ⟨a, c, h, -, -, h'⟩ := h.at_
    exact ⟨a, c, h, h'⟩
  obtain ⟨ca, cc, rfl, -⟩ := own_slice h2
  obtain ⟨ka, kc, rfl, -⟩ := own_slice h4
  have hb1 : Below w.heap.size w (w.alloc (.cells #[.slice fa r.files.length fc] 24)) := (Below.refl _ _).alloc (Nat.le_refl _) _
  have hb2 := hb1.alloc hb1.size (.cells #[.slice ga r.files.length gc] 24)
  have CS := Lib.hid (fun W (hb : Below w.heap.size w W) => Same_true fa ga fc gc r.files W (hf.below hb) (hg.below hb) hS)
  have CC := Lib.hid (fun W (hb : Below w.heap.size w W) => SameC_true A2 B2 (.slice ca r.chg.length cc) (.slice ka r.chg.length kc) r.chg W (own_keep h2 fun g hg => hb.block g (own_lt h2 hg).2) (own_keep h4 fun g hg => hb.block g (own_lt h4 hg).2) hl)
  clear h1 h2 h3 h4 hS hl hf hg
  obtain ⟨E, hE⟩ : ∃ E, E = r.err := ⟨_, rfl⟩
  rw [← hE]
  clear hE
  go_enter Try.func27, Try.ntmps27
  go_wp2_with fail
  refine (CS.out _ hb2).mono ?_
  rintro e w3 ⟨rfl, hb3'⟩
  have hb3 : Below w.heap.size w w3 := hb2.trans (hb3'.mono hb2.size)
  clear hb3' CS
  go_wp2_with fail
  refine (CC.out w3 hb3).mono ?_
  rintro e w4 ⟨rfl, hb4'⟩
  have hb4 : Below w.heap.size w w4 := hb3.trans (hb4'.mono hb3.size)
  clear hb4' CC
  go_wp2_with fail
  go_ret
  exact ⟨rfl, hb4⟩
end Go.Proofs.Ytafnbpkdenjipaa.fl
