/-
  Look of package files.
  Node of package files.
  New of package files.
-/
import Derived.Test.YtafnbpkdenjipaaFGq
namespace Go.Proofs.Ytafnbpkdenjipaa.fl
open Go.RowKit Go.Proofs.Ytafnbpkdenjipaa.cm

theorem checkDir1 (a : Option Addr) (cap : Nat) (F : FilP) (b : Nat) (x : At) (s : ByteArray) (w : World) (hF : FilesAt w a F) (hS : Sml F) (hP : RowAt PlaceAt 3 w (some ⟨b, 0, none⟩) [(x, s)]) :
    Calls Try.prog 42 #[.agg #[.slice a F.length cap], .slice (some ⟨b, 0, none⟩) 1 1] w fun e w' => e = .returned (.int .i64 (dirsE F [(x, s)])) ∧ Below w.heap.size w w' := checkDirs_any a cap F (some ⟨b, 0, none⟩) 1 [(x, s)] w hF hS hP (by simp)
theorem look_dirs (F : FilP) (x : At) (s : ByteArray) : lookF F x s = if dirsE F [(x, s)] ≠ 0 then (zA, dirsE F [(x, s)]) else if (atF F x s).isSome then ((atF F x s).getD zA, 0) else (zA, 2) := by
  unfold lookF dirsE dirF
  cases hn : nodeF F x with
  | none => simp [hn]
  | some n =>
    by_cases hk : n.kind = 2
    · rw [atF_some hn]
      cases hf : findE n.ents s with
      | none => simp [hn, hk, hf]
      | some i => simp [hn, hk, hf]
    · simp [hn, hk]

theorem file_cells {w : World} {R T : Nat} {a b : Value} (h : TB T w R [a, b]) (v0 v1 : Value) : ((w.setCell ⟨R, 0, none⟩ v0).setCell ⟨R, 1, none⟩ v1).cell? ⟨R, 0, none⟩ = some v0 ∧ ((w.setCell ⟨R, 0, none⟩ v0).setCell ⟨R, 1, none⟩ v1).cell? ⟨R, 1, none⟩ = some v1 := by
  have t : TB T ((w.setCell ⟨R, 0, none⟩ v0).setCell ⟨R, 1, none⟩ v1) R [v0, v1] := (h.set 0 v0).set 1 v1
  exact ⟨t.blk.c2.1, t.blk.c2.2.1⟩
/-- what Look answers -/
def LookR (r : At × Int) (w : World) (e : Ending) (w' : World) : Prop := e = .returned (.tuple #[.agg #[.int .i64 r.1.dev, .int .i64 r.1.ino], .int .i64 r.2]) ∧ Below w.heap.size w w'

set_option maxRecDepth 100000 in
set_option maxHeartbeats 1000000 in
theorem Look_any (a : Option Addr) (cap : Nat) (F : FilP) (x : At) (s : ByteArray) (w : World) (hF : FilesAt w a F) (hS : Sml F) (hO : SrtF F) :
    Calls Try.prog 19 #[.agg #[.slice a F.length cap], .agg #[.int .i64 x.dev, .int .i64 x.ino], .string s] w (LookR (lookF F x s) w) := by
  have hb1 : Below w.heap.size w (w.alloc (.cells #[.slice a F.length cap] 24)) := (Below.refl _ _).alloc (Nat.le_refl _) _
  have hb2 := hb1.alloc hb1.size (.cells #[.int .i64 x.dev, .int .i64 x.ino] 36)
  have hb3 := hb2.alloc hb2.size (.cells #[.int .i64 0, .int .i64 0] 36)
  have hb4 := hb3.alloc hb3.size (.cells #[.int .i64 x.dev, .int .i64 x.ino, .string s] 82)
  obtain ⟨w4, hw4⟩ : ∃ w4, w4 = (((w.alloc (.cells #[.slice a F.length cap] 24)).alloc (.cells #[.int .i64 x.dev, .int .i64 x.ino] 36)).alloc (.cells #[.int .i64 0, .int .i64 0] 36)).alloc (.cells #[.int .i64 x.dev, .int .i64 x.ino, .string s] 82) := ⟨_, rfl⟩
  have t0 : TB 24 w4 w.heap.size [.slice a F.length cap] := by rw [hw4]; exact (((TB.new1 w [.slice a F.length cap] _ _ rfl).alloc _).alloc _).alloc _
  have tR : TB 36 w4 (w.heap.size + 1 + 1) [.int .i64 0, .int .i64 0] := by rw [hw4]; exact (TB.new1 _ [.int .i64 0, .int .i64 0] _ _ (by rw [size_alloc, size_alloc])).alloc _
  have tP : TB 82 w4 (w.heap.size + 1 + 1 + 1) [.int .i64 x.dev, .int .i64 x.ino, .string s] := by rw [hw4]; exact TB.new1 _ [.int .i64 x.dev, .int .i64 x.ino, .string s] _ _ (by rw [size_alloc, size_alloc, size_alloc])
  rw [← hw4] at hb4
  obtain ⟨w5, hw5⟩ : ∃ w5, w5 = w4.alloc (.cells #[.int .i64 x.dev, .int .i64 x.ino, .string s] 82) := ⟨_, rfl⟩
  have hb45 : Below w4.heap.size w4 w5 := by rw [hw5]; exact (Below.refl _ _).alloc (Nat.le_refl _) _
  have hb5 := hb4.trans (hb45.mono hb4.size)
  have hrow : RowAt PlaceAt 3 w5 (some ⟨w4.heap.size, 0, none⟩) [(x, s)] := by rw [hw5]; exact place_row w4 x s
  have hsz : w4.heap.size = w.heap.size + 1 + 1 + 1 + 1 := by rw [hw4, size_alloc, size_alloc, size_alloc, size_alloc]
  have CD := Lib.hid (checkDir1 a cap F w4.heap.size x s w5 (hF.below hb5) hS hrow)
  rw [hsz] at CD
  clear hsz
  have CL := Lib.hid (fun W (hw : Below w.heap.size w W) => leadV_eq (atF F x s) ▸ leadsTo_any a cap F x s W (hF.below hw) hS hO)
  obtain ⟨x0, -⟩ := t0.blk.c1
  obtain ⟨p0, p1, p2, -⟩ := tP.blk.c3
  have HW := Lib.hid hw4
  have HW5 := Lib.hid hw5
  have HL := Lib.hid (look_dirs F x s)
  have TR := Lib.hid (tR.stay hb45)
  have T0 := Lib.hid (t0.stay hb45)
  have TP := Lib.hid (tP.stay hb45)
  have HB5 := Lib.hid hb5
  clear hw4 hw5 hb1 hb2 hb3 hb4 hF hS hO hrow tR tP t0 hb45 hb5
  go_enter Try.func19, Try.ntmps19
  go_wp2_with fail
  rw [← HW.out, ← HW5.out]
  refine CD.out.mono ?_
  rintro e w6 ⟨rfl, hb6⟩
  have uR := TR.out.stay hb6
  have u0 := T0.out.stay hb6
  have uP := TP.out.stay hb6
  have hb7 := HB5.out.trans (hb6.mono HB5.out.size)
  obtain ⟨y0, -⟩ := u0.blk.c1
  obtain ⟨q0, q1, q2, -⟩ := uP.blk.c3
  obtain ⟨r0, r1, rf0, rf1⟩ := uR.blk.c2
  generalize dirsE F [(x, s)] = P at *
  by_cases hP : P = 0
  · subst hP
    have HL := Lib.hid (HL.out.trans (if_neg (fun h => h rfl)))
    obtain ⟨fnd, hfnd⟩ : ∃ o, o = (atF F x s).isSome := ⟨_, rfl⟩
    obtain ⟨aa, haa⟩ : ∃ o, o = (atF F x s).getD zA := ⟨_, rfl⟩
    have C7 := Lib.hid (CL.out w6 hb7)
    rw [← hfnd, ← haa] at C7 HL
    have HB7 := Lib.hid hb7
    have UR := Lib.hid uR
    clear CL CD hfnd haa hb6 uR u0 uP hb7
    go_wp2_with fail
    refine C7.out.mono ?_
    rintro e w8 ⟨rfl, hb80⟩
    have hb9 : Below w6.heap.size w6 (w8.alloc (.cells #[.int .i64 aa.dev, .int .i64 aa.ino] 36)) := hb80.alloc hb80.size _
    have vR := UR.out.stay hb9
    have tA := TB.new1 w8 [.int .i64 aa.dev, .int .i64 aa.ino] 36 _ rfl
    obtain ⟨s0, s1, sf0, sf1⟩ := vR.blk.c2
    obtain ⟨a0, a1, -⟩ := tA.blk.c2
    have HB9 := Lib.hid (HB7.out.trans (hb9.mono HB7.out.size))
    have VR := Lib.hid vR
    have hne := vR.lt
    clear hb9 hb80 vR tA HB7 UR r0 r1 rf0 rf1
    cases fnd with
    | false =>
      obtain ⟨n0, n1⟩ := file_cells VR.out (.int .i64 0) (.int .i64 0)
      have HFN : Hid (LookR (lookF F x s) w (.returned (.tuple #[.agg #[.int .i64 0, .int .i64 0], .int .i64 2])) (((w8.alloc (.cells #[.int .i64 aa.dev, .int .i64 aa.ino] 36)).setCell ⟨w.heap.size + 1 + 1, 0, none⟩ (.int .i64 0)).setCell ⟨w.heap.size + 1 + 1, 1, none⟩ (.int .i64 0))) := Lib.hid (by
        rw [HL.out]
        exact ⟨rfl, below_set2 HB9.out (by omega) _ _⟩)
      clear HL HB9 VR
      go_wp2_with fail
      exact bodyPost_ret (v := .tuple #[.agg #[.int .i64 0, .int .i64 0], .int .i64 2]) (by simp [results, Try.f19, go_sem, n0, n1]) rfl HFN.out
    | true =>
      obtain ⟨n0, n1⟩ := file_cells VR.out (.int .i64 aa.dev) (.int .i64 aa.ino)
      have HFN : Hid (LookR (lookF F x s) w (.returned (.tuple #[.agg #[.int .i64 aa.dev, .int .i64 aa.ino], .int .i64 0])) (((w8.alloc (.cells #[.int .i64 aa.dev, .int .i64 aa.ino] 36)).setCell ⟨w.heap.size + 1 + 1, 0, none⟩ (.int .i64 aa.dev)).setCell ⟨w.heap.size + 1 + 1, 1, none⟩ (.int .i64 aa.ino))) := Lib.hid (by
        rw [HL.out]
        exact ⟨rfl, below_set2 HB9.out (by omega) _ _⟩)
      clear HL HB9 VR
      go_wp2_with fail
      exact bodyPost_ret (v := .tuple #[.agg #[.int .i64 aa.dev, .int .i64 aa.ino], .int .i64 0]) (by simp [results, Try.f19, go_sem, n0, n1]) rfl HFN.out
  · have e2 : (P == 0) = false := by simpa using hP
    have HL := Lib.hid (HL.out.trans (if_pos hP))
    obtain ⟨n0, n1⟩ := file_cells uR (.int .i64 0) (.int .i64 0)
    have HFN : Hid (LookR (lookF F x s) w (.returned (.tuple #[.agg #[.int .i64 0, .int .i64 0], .int .i64 P])) ((w6.setCell ⟨w.heap.size + 1 + 1, 0, none⟩ (.int .i64 0)).setCell ⟨w.heap.size + 1 + 1, 1, none⟩ (.int .i64 0))) := Lib.hid (by
      rw [HL.out]
      exact ⟨rfl, below_set2 hb7 (by omega) _ _⟩)
    clear HL CL CD uR u0 uP hb7 hb6
    go_wp2_with fail
    exact bodyPost_ret (v := .tuple #[.agg #[.int .i64 0, .int .i64 0], .int .i64 P]) (by simp [results, Try.f19, go_sem, n0, n1]) rfl HFN.out
end Go.Proofs.Ytafnbpkdenjipaa.fl
namespace Go.Proofs.Ytafnbpkdenjipaa.fl
open Go.RowKit Go.Proofs.Ytafnbpkdenjipaa.cm

/-- a node's values -/
def nval (n : NodeP) (v : Value) : Value := .agg #[.int .i64 n.ino, .int .i64 n.kind, .int .i64 n.mode, .int .i64 n.uid, .int .i64 n.gid, .int .i64 n.parent, .string n.target, v]
def noN : NodeP := ⟨0, 0, 0, 0, 0, 0, ⟨#[]⟩, []⟩
/-- what Node answers -/
def GotR (o : Option NodeP) (w : World) (e : Ending) (w' : World) : Prop :=
  ∃ v, e = .returned (.tuple #[nval (o.getD noN) v, .bool o.isSome]) ∧ OwnE w.heap.size w' v (o.getD noN).ents ∧ Below w.heap.size w w'
theorem node_cells {w : World} {R T : Nat} {a0 a1 a2 a3 a4 a5 a6 a7 : Value} (h : TB T w R [a0, a1, a2, a3, a4, a5, a6, a7]) (x0 x1 x2 x3 x4 x5 x6 x7 : Value) : TB T ((((((((w.setCell ⟨R, 0, none⟩ x0).setCell ⟨R, 1, none⟩ x1).setCell ⟨R, 2, none⟩ x2).setCell ⟨R, 3, none⟩ x3).setCell ⟨R, 4, none⟩ x4).setCell ⟨R, 5, none⟩ x5).setCell ⟨R, 6, none⟩ x6).setCell ⟨R, 7, none⟩ x7) R [x0, x1, x2, x3, x4, x5, x6, x7] :=
  (((((((h.set 0 x0).set 1 x1).set 2 x2).set 3 x3).set 4 x4).set 5 x5).set 6 x6).set 7 x7

set_option maxRecDepth 100000 in
set_option maxHeartbeats 1000000 in
theorem Node_any (a : Option Addr) (cap : Nat) (F : FilP) (x : At) (w : World) (hF : FilesAt w a F) (hS : Sml F) :
    Calls Try.prog 17 #[.agg #[.slice a F.length cap], .agg #[.int .i64 x.dev, .int .i64 x.ino]] w (GotR (nodeF F x) w) := by
  have hb1 : Below w.heap.size w (w.alloc (.cells #[.slice a F.length cap] 24)) := (Below.refl _ _).alloc (Nat.le_refl _) _
  have hb2 := hb1.alloc hb1.size (.cells #[.int .i64 x.dev, .int .i64 x.ino] 36)
  have hb3 := hb2.alloc hb2.size (.cells #[.int .i64 0, .int .i64 0, .int .i64 0, .int .i64 0, .int .i64 0, .int .i64 0, .string ⟨#[]⟩, .slice none 0 0] 43)
  obtain ⟨w3, hw3⟩ : ∃ w3, w3 = ((w.alloc (.cells #[.slice a F.length cap] 24)).alloc (.cells #[.int .i64 x.dev, .int .i64 x.ino] 36)).alloc (.cells #[.int .i64 0, .int .i64 0, .int .i64 0, .int .i64 0, .int .i64 0, .int .i64 0, .string ⟨#[]⟩, .slice none 0 0] 43) := ⟨_, rfl⟩
  have tR : TB 43 w3 (w.heap.size + 1 + 1) [.int .i64 0, .int .i64 0, .int .i64 0, .int .i64 0, .int .i64 0, .int .i64 0, .string ⟨#[]⟩, .slice none 0 0] := by rw [hw3]; exact TB.new1 _ [.int .i64 0, .int .i64 0, .int .i64 0, .int .i64 0, .int .i64 0, .int .i64 0, .string ⟨#[]⟩, .slice none 0 0] _ _ (by rw [size_alloc, size_alloc])
  rw [← hw3] at hb3
  have CN := Lib.hid (nodeAt_any a cap F x w3 (hF.below hb3) hS)
  have HW := Lib.hid hw3
  have HS := Lib.hid hS
  clear hw3 hb1 hb2 hF hS
  go_enter Try.func17, Try.ntmps17
  go_wp2_with fail
  rw [← HW.out]
  refine CN.out.mono ?_
  rintro e w4 ⟨hb4, ⟨h1, rfl⟩ | ⟨j, k, d, n, b, o, -, hd, -, hk, h1, rfl, -, hna⟩⟩
  · have uR := tR.stay hb4
    have hb := hb3.trans (hb4.mono hb3.size)
    have t2 := node_cells uR (.int .i64 0) (.int .i64 0) (.int .i64 0) (.int .i64 0) (.int .i64 0) (.int .i64 0) (.string ⟨#[]⟩) (.slice none 0 0)
    obtain ⟨⟨n0, n1, n2, n3, n4, n5, n6, n7⟩, -⟩ := t2.blk.c8
    obtain ⟨⟨r0, r1, r2, r3, r4, r5, r6, r7⟩, z0, z1, z2, z3, z4, z5, z6, z7⟩ := uR.blk.c8
    have hf8 := below_set8 hb (show w.heap.size ≤ w.heap.size + 1 + 1 by omega) (.int .i64 0) (.int .i64 0) (.int .i64 0) (.int .i64 0) (.int .i64 0) (.int .i64 0) (.string ⟨#[]⟩) (.slice none 0 0)
    have HFN := Lib.hid (show GotR (nodeF F x) w (.returned (.tuple #[nval noN (.slice none 0 0), .bool false])) _ from ⟨.slice none 0 0, by rw [h1]; rfl, by rw [h1]; exact OwnE.nil _ _, hf8⟩)
    clear h1 uR hb t2 hf8 hb4 hb3 tR CN HS
    go_wp2_with fail
    exact bodyPost_ret (v := .tuple #[nval noN (.slice none 0 0), .bool false]) (by simp [nval, noN, results, Try.f17, go_sem, n0, n1, n2, n3, n4, n5, n6, n7]) rfl HFN.out
  · have uR := tR.stay hb4
    have hb := hb3.trans (hb4.mono hb3.size)
    have hna := NodeAt.stays _ _ _ _ _ hna hb4
    obtain ⟨c0, c1, c2, c3, c4, c5, c6, va, cv, c7, -, -, hE⟩ := hna
    have CC := Lib.hid (copyNode_any n va cv w4 hE (HS.out.ents d (List.mem_of_getElem? hd) n (List.mem_of_getElem? hk)))
    have HB := Lib.hid hb
    have UR := Lib.hid uR
    have HN := Lib.hid h1
    clear h1 hd hk hE hb4 hb3 tR CN HS hb uR
    go_wp2_with fail
    refine CC.out.mono ?_
    rintro e w5 ⟨v, rfl, hv, hb5⟩
    obtain ⟨va2, vc2, rfl⟩ := own_isS hv
    have vR := UR.out.stay hb5
    have hbx := HB.out.trans (hb5.mono HB.out.size)
    have t2 := node_cells vR (.int .i64 n.ino) (.int .i64 n.kind) (.int .i64 n.mode) (.int .i64 n.uid) (.int .i64 n.gid) (.int .i64 n.parent) (.string n.target) (.slice va2 n.ents.length vc2)
    obtain ⟨⟨n0, n1, n2, n3, n4, n5, n6, n7⟩, -⟩ := t2.blk.c8
    obtain ⟨⟨r0, r1, r2, r3, r4, r5, r6, r7⟩, z0, z1, z2, z3, z4, z5, z6, z7⟩ := vR.blk.c8
    have hf8 := below_set8 hbx (show w.heap.size ≤ w.heap.size + 1 + 1 by omega) (.int .i64 n.ino) (.int .i64 n.kind) (.int .i64 n.mode) (.int .i64 n.uid) (.int .i64 n.gid) (.int .i64 n.parent) (.string n.target) (.slice va2 n.ents.length vc2)
    have ho8 := own_set8 hv (B := w.heap.size + 1 + 1) (fun e => vR.ne hv (by decide) e) (.int .i64 n.ino) (.int .i64 n.kind) (.int .i64 n.mode) (.int .i64 n.uid) (.int .i64 n.gid) (.int .i64 n.parent) (.string n.target) (.slice va2 n.ents.length vc2)
    have HFN := Lib.hid (show GotR (nodeF F x) w (.returned (.tuple #[nval n (.slice va2 n.ents.length vc2), .bool true])) _ from ⟨.slice va2 n.ents.length vc2, by rw [HN.out]; rfl, by rw [HN.out]; exact own_mono ho8 HB.out.size, hf8⟩)
    clear hv hb5 vR hbx t2 hf8 ho8 CC UR HB
    go_wp2_with fail
    exact bodyPost_ret (v := .tuple #[nval n (.slice va2 n.ents.length vc2), .bool true]) (by simp [nval, results, Try.f17, go_sem, n0, n1, n2, n3, n4, n5, n6, n7]) rfl HFN.out
end Go.Proofs.Ytafnbpkdenjipaa.fl
namespace Go.Proofs.Ytafnbpkdenjipaa.fl
open Go.RowKit Go.Proofs.Ytafnbpkdenjipaa.cm

def rootN : NodeP := ⟨1, 2, 493, 0, 0, 1, ⟨#[]⟩, []⟩
def rootD : DevP := ⟨2, [rootN]⟩
theorem new_eq (n : Int) : newP n = if 1 ≤ n ∧ n ≤ 3 then (List.replicate n.toNat rootD, 0) else ([], 50) := rfl
theorem DevsK.same {B : Nat} {w w' : World} {v : Value} {vn : Nat → Value} {ev : Nat → Nat → Value} {F : FilP} {k : Nat} (h : DevsK B w v vn ev F k) (hs : SameT w w') : DevsK B w' v vn ev F k := by
  refine ⟨own_same h.row (.inl rfl) hs, fun i d hi hd => own_same (h.nodes i d hi hd) (.inr (.inl rfl)) hs, fun i d k n hi hd hk => own_same (h.ents i d k n hi hd hk) (.inr (.inr rfl)) hs, h.injN, h.injE, fun i g hg => ?_, fun i k g hg => ?_⟩
  · have := h.ltN i g hg; have := hs.size; omega
  · have := h.ltE i k g hg; have := hs.size; omega
/-- what New answers -/
def NewR (r : FilP × Int) (w : World) (e : Ending) (w' : World) : Prop := ∃ v, e = .returned (.tuple #[.agg #[v], .int .i64 r.2]) ∧ OutF w.heap.size w' v r.1 ∧ Below w.heap.size w w'

theorem one_nodes {B : Nat} {w : World} {g : Nat} (hB : B ≤ g) (h : TB 43 w g (ncs rootN (.slice none 0 0))) : NodesK B w (.slice (some ⟨g, 0, none⟩) 1 1) (fun _ => .slice none 0 0) [rootN] 1 := by
  have ho : w.ownsRow B 43 8 (.slice (some ⟨g, 0, none⟩) 1 1) 1 (ncs rootN (.slice none 0 0)) :=
    ⟨rfl, .inr ⟨g, 1, (ncs rootN (.slice none 0 0)).toArray, rfl, hB, h, Nat.le_refl _, by unfold maxLen; omega, rfl, rfl⟩⟩
  refine ⟨by simpa [nrow] using ho, fun j n hj hn => ?_, (fun j m g h => by cases h), (fun j g h => by cases h)⟩
  obtain rfl : j = 0 := by omega
  simp at hn
  subst hn
  exact OwnE.nil _ _

set_option maxRecDepth 100000 in
set_option maxHeartbeats 1000000 in
theorem New_any (n : Int) (w : World) :
    Calls Try.prog 9 #[.int .i64 n] w (NewR (newP n) w) := by
  obtain ⟨i0, hi, hz0, hz1, hz2⟩ := info_parts infoD
  have hb1 : Below w.heap.size w (w.alloc (.cells #[.slice none 0 0] 24)) := (Below.refl _ _).alloc (Nat.le_refl _) _
  have t1 := TB.new1 w [.slice none 0 0] 24 _ rfl
  have HN := Lib.hid (new_eq n)
  by_cases hr : 1 ≤ n ∧ n ≤ 3
  · have HN := Lib.hid (HN.out.trans (if_pos hr))
    obtain ⟨m, rfl⟩ : ∃ m : Nat, n = (m : Int) := ⟨n.toNat, by omega⟩
    have h1 : ¬ (m : Int) < 1 := by omega
    have h2 : ¬ (m : Int) > 3 := by omega
    have hm3 : m ≤ 3 := by omega
    have HN := Lib.hid (show newP (m : Int) = (List.replicate m rootD, 0) from HN.out)
    have hb2 := hb1.alloc hb1.size (.cells #[.slice none 0 0] 24)
    have t1' := t1.alloc (.cells #[.slice none 0 0] 24)
    have t2 : TB 24 ((w.alloc (.cells #[.slice none 0 0] 24)).alloc (.cells #[.slice none 0 0] 24)) (w.heap.size + 1) [.slice none 0 0] := TB.new1 _ [.slice none 0 0] _ _ (size_alloc _ _)
    clear hr hb1 t1
    obtain ⟨F, hF⟩ : ∃ F, F = List.replicate m rootD := ⟨_, rfl⟩
    have HLN : Hid (F.length = m) := Lib.hid (by rw [hF, List.length_replicate])
    have HAT : Hid (∀ k, k < m → F[k]? = some rootD) := Lib.hid (fun k hk => by rw [hF, List.getElem?_replicate, if_pos hk])
    rw [← hF] at HN
    clear hF
    go_enter Try.func9, Try.ntmps9
    go_wp2_with fail
    go_loopw [14] (fun i wr => ∃ (k : Nat) (v : Value) (vn : Nat → Value) (ev : Nat → Nat → Value), k ≤ m ∧ i = .int .i64 k ∧ Hid (DevsK w.heap.size wr v vn ev F k) ∧ Below w.heap.size w wr ∧ TB 24 wr w.heap.size [.slice none 0 0] ∧ TB 24 wr (w.heap.size + 1) [v]) (fun i _ => m - (intOf i).toNat)
    case atStart => exact ⟨0, _, _, _, Nat.zero_le _, rfl, Lib.hid (DevsK.zero _ _ _), hb2, t1', t2⟩
    case round =>
      obtain ⟨k, v, vn, ev, hk, rfl, HK, hb, tR, tF⟩ := hrel
      obtain ⟨vo, vc, rfl⟩ := own_isS HK.out.row
      obtain ⟨f0, ff0⟩ := tF.blk.c1
      obtain ⟨r0, rf0⟩ := tR.blk.c1
      clear hb2 t1' t2 h1 h2
      by_cases hlt : k < m
      · have hkk : (k : Int) < (m : Int) := by omega
        have own3 := ((HK.out.row).alloc (.cells #[.int .i64 1, .int .i64 2, .int .i64 493, .int .i64 0, .int .i64 0, .int .i64 1, .string ⟨#[]⟩, .slice none 0 0] 43)).alloc (.cells #[.int .i64 1, .int .i64 2, .int .i64 493, .int .i64 0, .int .i64 0, .int .i64 1, .string ⟨#[]⟩, .slice none 0 0] 43)
        obtain ⟨wB, hwB⟩ : ∃ wB, wB = (wr.alloc (.cells #[.int .i64 1, .int .i64 2, .int .i64 493, .int .i64 0, .int .i64 0, .int .i64 1, .string ⟨#[]⟩, .slice none 0 0] 43)).alloc (.cells #[.int .i64 1, .int .i64 2, .int .i64 493, .int .i64 0, .int .i64 0, .int .i64 1, .string ⟨#[]⟩, .slice none 0 0] 43) := ⟨_, rfl⟩
        have hsB : wB.heap.size = wr.heap.size + 1 + 1 := by rw [hwB, size_alloc, size_alloc]
        have hbB : Below wr.heap.size wr wB := by
          rw [hwB]
          have h := (Below.refl wr.heap.size wr).alloc (Nat.le_refl _) (.cells #[.int .i64 1, .int .i64 2, .int .i64 493, .int .i64 0, .int .i64 0, .int .i64 1, .string ⟨#[]⟩, .slice none 0 0] 43)
          exact h.alloc h.size _
        have tN : TB 43 wB (wr.heap.size + 1) (ncs rootN (.slice none 0 0)) := by rw [hwB]; exact TB.new1 _ (ncs rootN (.slice none 0 0)) _ _ (size_alloc _ _)
        have nw : Hid (∀ j u, (dcs rootD (.slice (some ⟨wr.heap.size + 1, 0, none⟩) 1 1))[j]? = some u → (wB.alloc (.cells #[.int .i64 2, .slice (some ⟨wr.heap.size + 1, 0, none⟩) 1 1] 72)).cell? ((⟨wr.heap.size + 1 + 1, 0, none⟩ : Addr).add j) = some u) := Lib.hid (by
          rw [← hsB]
          exact World.news_of_block (cs := #[.int .i64 2, .slice (some ⟨wr.heap.size + 1, 0, none⟩) 1 1]) (t := 72) (fr := (0, 0)) (heap_alloc_new wB _))
        rw [hwB] at nw
        have tFB := tF.stay hbB
        have tRB := tR.stay hbB
        have hbz := hb.size
        have hlF := tF.lt
        have f1 := cell_stays f0 ((Below.refl wr.heap.size wr).alloc (Nat.le_refl _) (.cells #[.int .i64 1, .int .i64 2, .int .i64 493, .int .i64 0, .int .i64 0, .int .i64 1, .string ⟨#[]⟩, .slice none 0 0] 43))
        have HB := Lib.hid hb
        have HBB := Lib.hid hbB
        have HSB := Lib.hid hsB
        have HWB := Lib.hid hwB
        clear hwB hsB hb
        go_wp2_with (first
          | (at_builtin; refine wpList_append_own _ rfl _ _ 22 rfl w.heap.size 72 i0 _ 2 32 Try.underlying22 hi hz0 hz1 hz2 rfl (by omega) _ k _ rfl (own3.alloc _) ⟨wr.heap.size + 1 + 1, 0, none⟩ 1 1 (dcs rootD (.slice (some ⟨wr.heap.size + 1, 0, none⟩) 1 1)) rfl rfl nw.out ?c5 ?c6 ?c7 ?c8 ?_)
          | fail)
        case c5 => simp [Value.oneCell', dcs]
        case c6 => unfold maxLen; omega
        case c7 => omega
        case c8 => simp; omega
        intro v2 w3 own4 hgrow _
        rw [← HWB.out] at hgrow own3
        obtain ⟨vo2, vc2, rfl⟩ := own_isS own4
        have ownC := own3.alloc (.cells #[.int .i64 2, .slice (some ⟨wr.heap.size + 1, 0, none⟩) 1 1] 72)
        have hal : Below wB.heap.size wB (wB.alloc (.cells #[.int .i64 2, .slice (some ⟨wr.heap.size + 1, 0, none⟩) 1 1] 72)) := (Below.refl _ _).alloc (Nat.le_refl _) _
        have tF3 : TB 24 w3 (w.heap.size + 1) [.slice vo k vc] := (tFB.stay hal).grown ownC (by decide) hgrow
        have tR3 : TB 24 w3 w.heap.size [.slice none 0 0] := (tRB.stay hal).grown ownC (by decide) hgrow
        have HK2 := Lib.hid ((DevsK.next (w2 := wB.alloc (.cells #[.int .i64 2, .slice (some ⟨wr.heap.size + 1, 0, none⟩) 1 1] 72)) (d := rootD) HK.out (HAT.out k hlt) (HBB.out.trans (hal.mono HBB.out.size)) ((one_nodes (by omega) tN).keep hal) hgrow own4 hbz).same (tF3.same (by decide) 0 (.slice vo2 (k + 1) vc2)))
        have hb5 : Below w.heap.size w w3 := (HB.out.trans ((HBB.out.trans (hal.mono HBB.out.size)).mono hbz)).grown hgrow (by have := hal.size; have := HBB.out.size; omega) (fun g hg => (own_lt ownC hg).1)
        have hb6 := below_set hb5 (show w.heap.size ≤ w.heap.size + 1 by omega) 0 (.slice vo2 (k + 1) vc2)
        have tF4 := tF3.set 0 (.slice vo2 (k + 1) vc2)
        have tR4 := tR3.other (show w.heap.size ≠ w.heap.size + 1 by omega) 0 (.slice vo2 (k + 1) vc2)
        obtain ⟨f3, ff3⟩ := tF3.blk.c1
        clear hgrow own4 own3 ownC nw tF3 tR3 hb5 hal tFB tRB
        go_wp2_with fail
        exact ⟨⟨k + 1, _, _, _, by omega, by go_num, HK2, hb6, tR4, tF4⟩, by simp [intOf]; omega⟩
      · have hkk : ¬ (k : Int) < (m : Int) := by omega
        obtain rfl : k = m := by omega
        have hD : DevsK w.heap.size wr (.slice vo k vc) vn ev F F.length := by rw [HLN.out]; exact HK.out
        have n0 := (TB.blk (cs := [.slice vo k vc]) (tR.set 0 (.slice vo k vc))).c1.1
        have HFN : Hid (NewR (newP (k : Int)) w (.returned (.tuple #[.agg #[.slice vo k vc], .int .i64 0])) (wr.setCell ⟨w.heap.size, 0, none⟩ (.slice vo k vc))) := Lib.hid (by
          rw [HN.out]
          exact ⟨_, rfl, ⟨_, _, hD.files.same (tR.same (by decide) 0 _)⟩, below_set hb (Nat.le_refl _) 0 _⟩)
        clear hlt hk hD hb HK tR tF
        go_wp2_with fail
        exact bodyPost_ret (v := .tuple #[.agg #[.slice vo k vc], .int .i64 0]) (by simp [results, Try.f9, go_sem, n0]) rfl HFN.out
  · have HN := Lib.hid (HN.out.trans (if_neg hr))
    by_cases h1 : n < 1
    · have HFN : Hid (NewR (newP n) w (.returned (.tuple #[.agg #[.slice none 0 0], .int .i64 50])) (w.alloc (.cells #[.slice none 0 0] 24))) := Lib.hid (by
        rw [HN.out]
        exact ⟨_, rfl, OutF.nil _ _, hb1⟩)
      obtain ⟨n0, -⟩ := t1.blk.c1
      go_enter Try.func9, Try.ntmps9
      go_wp2_with fail
      exact bodyPost_ret (v := .tuple #[.agg #[.slice none 0 0], .int .i64 50]) (by simp [results, Try.f9, go_sem, n0]) rfl HFN.out
    · have h2 : n > 3 := by omega
      have HFN : Hid (NewR (newP n) w (.returned (.tuple #[.agg #[.slice none 0 0], .int .i64 50])) (w.alloc (.cells #[.slice none 0 0] 24))) := Lib.hid (by
        rw [HN.out]
        exact ⟨_, rfl, OutF.nil _ _, hb1⟩)
      obtain ⟨n0, -⟩ := t1.blk.c1
      go_enter Try.func9, Try.ntmps9
      go_wp2_with fail
      exact bodyPost_ret (v := .tuple #[.agg #[.slice none 0 0], .int .i64 50]) (by simp [results, Try.f9, go_sem, n0]) rfl HFN.out
end Go.Proofs.Ytafnbpkdenjipaa.fl
