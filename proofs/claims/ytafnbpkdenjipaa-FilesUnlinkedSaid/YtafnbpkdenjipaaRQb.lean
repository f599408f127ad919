/-
  The reference of files: one; enter as plain data.
  The reference of files: enter.
  The reference of files: drop.
  The reference of files: enter and drop, in the words of the plain functions.
-/
import Derived.Test.YtafnbpkdenjipaaRQa
import Derived.Test.YtafnbpkdenjipaaFMz
import Derived.WalkLawsBesides
import Derived.Test.YtafnbpkdenjipaaFDp
import Derived.Test.YtafnbpkdenjipaaFGa
namespace Go.Proofs.Ytafnbpkdenjipaa.fl
open Go.RowKit Go.Proofs.Ytafnbpkdenjipaa.cm

set_option maxRecDepth 100000 in
set_option maxHeartbeats 400000 in
theorem rone_any (x : At) (s : ByteArray) (o n : At) (w : World) :
    Calls Try.prog 53 #[.agg #[.int .i64 x.dev, .int .i64 x.ino], .string s, .agg #[.int .i64 o.dev, .int .i64 o.ino], .agg #[.int .i64 n.dev, .int .i64 n.ino]] w fun e w' => ∃ v, e = .returned v ∧ OwnC w.heap.size w' v [⟨x, s, o, n⟩] ∧ Below w.heap.size w w' := by
  have hb1 : Below w.heap.size w (w.alloc (.cells #[.int .i64 x.dev, .int .i64 x.ino] 36)) := (Below.refl _ _).alloc (Nat.le_refl _) _
  have hb2 := hb1.alloc hb1.size (.cells #[.int .i64 o.dev, .int .i64 o.ino] 36)
  have hb3 := hb2.alloc hb2.size (.cells #[.int .i64 n.dev, .int .i64 n.ino] 36)
  have hb4 := hb3.alloc hb3.size (.cells #[.int .i64 x.dev, .int .i64 x.ino, .string s, .int .i64 o.dev, .int .i64 o.ino, .int .i64 n.dev, .int .i64 n.ino] 66)
  have t := TB.new1 (((w.alloc (.cells #[.int .i64 x.dev, .int .i64 x.ino] 36)).alloc (.cells #[.int .i64 o.dev, .int .i64 o.ino] 36)).alloc (.cells #[.int .i64 n.dev, .int .i64 n.ino] 36)) [.int .i64 x.dev, .int .i64 x.ino, .string s, .int .i64 o.dev, .int .i64 o.ino, .int .i64 n.dev, .int .i64 n.ino] 66 (w.heap.size + 1 + 1 + 1) (by rw [size_alloc, size_alloc, size_alloc])
  have HO : Hid (OwnC w.heap.size ((((w.alloc (.cells #[.int .i64 x.dev, .int .i64 x.ino] 36)).alloc (.cells #[.int .i64 o.dev, .int .i64 o.ino] 36)).alloc (.cells #[.int .i64 n.dev, .int .i64 n.ino] 36)).alloc (.cells #[.int .i64 x.dev, .int .i64 x.ino, .string s, .int .i64 o.dev, .int .i64 o.ino, .int .i64 n.dev, .int .i64 n.ino] 66)) (.slice (some ⟨w.heap.size + 1 + 1 + 1, 0, none⟩) 1 1) [⟨x, s, o, n⟩]) := Lib.hid
    ⟨rfl, .inr ⟨w.heap.size + 1 + 1 + 1, 1, _, rfl, by omega, t, Nat.le_refl _, by unfold maxLen; omega, rfl, rfl⟩⟩
  have HB := Lib.hid hb4
  clear t hb1 hb2 hb3 hb4
  go_enter Try.func53, Try.ntmps53
  go_wp2_with fail
  go_ret
  exact ⟨_, rfl, HO.out, HB.out⟩

/-- what enter makes of what is left of the entries -/
def goE (s : ByteArray) (i : Int) : Bool → List EntP → List EntP
  | dn, [] => if dn then [] else [⟨s, i⟩]
  | dn, e :: l => (if !dn && !decide (lt e.name s) then [⟨s, i⟩] else []) ++ ((if e.name = s then [] else [e]) ++ goE s i (dn || !decide (lt e.name s)) l)
theorem goE_true (s : ByteArray) (i : Int) : ∀ l, goE s i true l = remE l s
  | [] => rfl
  | e :: l => by
    show (if !true && _ then _ else []) ++ ((if e.name = s then [] else [e]) ++ goE s i (true || _) l) = _
    rw [Bool.true_or, goE_true s i l]
    unfold remE
    by_cases h : e.name = s
    · rw [if_pos h, List.filter_cons_of_neg (by simp [h])]; rfl
    · rw [if_neg h, List.filter_cons_of_pos (by simp [h])]; rfl
theorem goE_false (s : ByteArray) (i : Int) : ∀ l, SortE l → goE s i false l = insE l s i
  | [], _ => rfl
  | e :: l, hs => by
    have hs' := List.pairwise_cons.1 hs
    show (if !false && !decide (lt e.name s) then [(⟨s, i⟩ : EntP)] else []) ++ ((if e.name = s then [] else [e]) ++ goE s i (false || !decide (lt e.name s)) l) = _
    by_cases h : lt e.name s
    · rw [decide_eq_true h, if_neg (by simp), if_neg (ne_of_lt h)]
      show [e] ++ goE s i false l = _
      rw [goE_false s i l hs'.2]
      unfold insE
      rw [List.filter_cons_of_pos (by simpa using h), List.filter_cons_of_neg (by simpa using lt_asymm h)]
      rfl
    · rw [decide_eq_false h, if_pos (by simp)]
      show [(⟨s, i⟩ : EntP)] ++ ((if e.name = s then [] else [e]) ++ goE s i true l) = _
      rw [goE_true]
      have hgt : ∀ x ∈ l, lt s x.name := fun x hx => by
        have h1 := hs'.1 x hx
        by_cases c : e.name = s
        · rw [← c]; exact h1
        · rcases lt_total _ _ c with y | y
          · exact (h y).elim
          · exact lt_trans y h1
      unfold insE
      rw [List.filter_cons_of_neg (by simpa using h)]
      have e1 : l.filter (fun x => decide (lt x.name s)) = [] := by
        rw [List.filter_eq_nil_iff]
        intro x hx
        simpa using lt_asymm (hgt x hx)
      have e2 : l.filter (fun x => decide (lt s x.name)) = l := by
        rw [List.filter_eq_self]
        intro x hx
        simpa using hgt x hx
      have e3 : remE l s = l := rem_none (find_none.2 fun x hx => (ne_of_lt (hgt x hx)).symm)
      by_cases c : e.name = s
      · rw [if_pos c, List.filter_cons_of_neg (by rw [c]; simpa using lt_irrefl s), e1, e2, e3]; rfl
      · have hlt : lt s e.name := by
          rcases lt_total _ _ c with y | y
          · exact (h y).elim
          · exact y
        rw [if_neg c, List.filter_cons_of_pos (by simpa using hlt), e1, e2, e3]; rfl
end Go.Proofs.Ytafnbpkdenjipaa.fl
namespace Go.Proofs.Ytafnbpkdenjipaa.fl
open Go.RowKit Go.Proofs.Ytafnbpkdenjipaa.cm

/-- what enter leaves -/
def EntR (B : Nat) (w : World) (v : Value) (F : FilP) (vn : Nat → Value) (j : Nat) (e : Ending) (w' : World) : Prop :=
  e = .returned (.tuple #[]) ∧ w.grownBy w' (vn j).ownBlock ∧ ∃ ev', FilesO B w' v F vn ev'
/-- what stands in enter's loop -/
structure EnS (w wr : World) (P : Nat) (n : NodeP) (ve : Value) (N : Nat) (a : Option Addr) (len cap : Nat) (j : Nat) (xi : Int) (v : Value) (acc : List EntP) : Prop where
  bel : Below w.heap.size w wr
  nd : TB 43 wr P (ncs n ve)
  bx : TB 24 wr N [.slice a len cap]
  xx : TB 36 wr (N + 1) [.int .i64 (j : Int), .int .i64 xi]
  own : wr.ownsRow w.heap.size 87 2 v acc.length (erow acc)
theorem EnS.stay {w wr w' : World} {P : Nat} {n : NodeP} {ve : Value} {N : Nat} {a : Option Addr} {len cap j : Nat} {xi : Int} {v : Value} {acc : List EntP} (h : EnS w wr P n ve N a len cap j xi v acc) (hb : Below wr.heap.size wr w') : EnS w w' P n ve N a len cap j xi v acc :=
  ⟨h.bel.trans (hb.mono h.bel.size), h.nd.stay hb, h.bx.stay hb, h.xx.stay hb, own_keep h.own fun g hg => hb.block g (own_lt h.own hg).2⟩
/-- one entry more -/
theorem EnS.more {w wr w' : World} {P : Nat} {n : NodeP} {ve : Value} {N : Nat} {a : Option Addr} {len cap j : Nat} {xi : Int} {v v' : Value} {acc : List EntP} {x : EntP} {o : Obj} (h : EnS w wr P n ve N a len cap j xi v acc) (hg : (wr.alloc o).grownBy w' v.ownBlock) (ho : w'.ownsRow w.heap.size 87 2 v' (acc.length + 1) (erow acc ++ [.string x.name, .int .i64 x.ino])) : EnS w w' P n ve N a len cap j xi v' (acc ++ [x]) := by
  have hba : Below wr.heap.size wr (wr.alloc o) := (Below.refl _ _).alloc (Nat.le_refl _) _
  have h2 := h.stay hba
  refine ⟨h2.bel.grown hg h2.bel.size (fun g hg' => (own_lt h2.own hg').1), h2.nd.grown h2.own (by decide) hg, h2.bx.grown h2.own (by decide) hg, h2.xx.grown h2.own (by decide) hg, ?_⟩
  rw [List.length_append, erow_app]
  simpa [erow, ecs] using ho

set_option maxRecDepth 100000 in
set_option maxHeartbeats 4000000 in
theorem renter_ok (B : Nat) (gd fc j k gn cn : Nat) (va : Option Addr) (cva : Nat) (F : FilP) (xi : Int) (s : ByteArray) (i : Int) (w : World) (d : DevP) (n : NodeP) (vn : Nat → Value) (ev : Nat → Nat → Value) (h : FilesO B w (.slice (some ⟨gd, 0, none⟩) F.length fc) F vn ev) (hS : Sml F) (hd : F[j]? = some d) (hi : idxL d.nodes xi = some k) (hk : d.nodes[k]? = some n)
    (hvn : vn j = .slice (some ⟨gn, 0, none⟩) d.nodes.length cn) (hev : ev j k = .slice va n.ents.length cva) (hB : B ≤ w.heap.size) (hle : n.ents.length ≤ 100) :
    Calls Try.prog 52 #[.agg #[.slice (some ⟨gd, 0, none⟩) F.length fc], .agg #[.int .i64 (j : Int), .int .i64 xi], .string s, .int .i64 i] w (EntR B w (.slice (some ⟨gd, 0, none⟩) F.length fc) (F.set j (setN d k { n with ents := goE s i (decide (i = 0)) n.ents })) vn j) := by
  obtain ⟨iE, hiE, hzE0, hzE1, hzE2⟩ := info_parts infoE
  obtain ⟨TT, hTT⟩ : ∃ T, T = goE s i (decide (i = 0)) n.ents := ⟨_, rfl⟩
  rw [← hTT]
  have HTT := Lib.hid hTT
  clear hTT
  have hb1 : Below w.heap.size w (w.alloc (.cells #[.slice (some ⟨gd, 0, none⟩) F.length fc] 24)) := (Below.refl _ _).alloc (Nat.le_refl _) _
  have hb2 := hb1.alloc hb1.size (.cells #[.int .i64 (j : Int), .int .i64 xi] 36)
  obtain ⟨w2, hw2⟩ : ∃ w2, w2 = (w.alloc (.cells #[.slice (some ⟨gd, 0, none⟩) F.length fc] 24)).alloc (.cells #[.int .i64 (j : Int), .int .i64 xi] 36) := ⟨_, rfl⟩
  have tA : TB 24 w2 w.heap.size [.slice (some ⟨gd, 0, none⟩) F.length fc] := by rw [hw2]; exact (TB.new1 w _ _ _ rfl).alloc _
  have tX : TB 36 w2 (w.heap.size + 1) [.int .i64 (j : Int), .int .i64 xi] := by rw [hw2]; exact TB.new1 _ _ _ _ (size_alloc _ _)
  rw [← hw2] at hb2
  have HFO := Lib.hid h
  have HGN : Hid ((vn j).ownBlock = some gn) := Lib.hid (by rw [hvn]; rfl)
  have CI := Lib.hid (fun W (hb : Below w.heap.size w W) => rindex_any (some ⟨gd, 0, none⟩) fc F ⟨(j : Int), xi⟩ W (by
    obtain ⟨a', c', hv, -, -, hF⟩ := (h.stay hb).at_
    injection hv with hv _ _
    subst hv
    exact hF) hS)
  rw [ix_some hd hi] at CI
  have c1 : w.cell? ⟨gd, j * 2 + 1, none⟩ = some (.slice (some ⟨gn, 0, none⟩) d.nodes.length cn) := by rw [← hvn]; exact h.cellY hd rfl
  have nc := fun (c : Nat) (hc : c < 8) => h.cellN hd hk HGN.out (c := c) hc
  have m0 : w.cell? ⟨gn, k * 8, none⟩ = some (.int .i64 n.ino) := nc 0 (by omega)
  have m1 : w.cell? ⟨gn, k * 8 + 1, none⟩ = some (.int .i64 n.kind) := nc 1 (by omega)
  have m2 : w.cell? ⟨gn, k * 8 + 2, none⟩ = some (.int .i64 n.mode) := nc 2 (by omega)
  have m3 : w.cell? ⟨gn, k * 8 + 3, none⟩ = some (.int .i64 n.uid) := nc 3 (by omega)
  have m4 : w.cell? ⟨gn, k * 8 + 4, none⟩ = some (.int .i64 n.gid) := nc 4 (by omega)
  have m5 : w.cell? ⟨gn, k * 8 + 5, none⟩ = some (.int .i64 n.parent) := nc 5 (by omega)
  have m6 : w.cell? ⟨gn, k * 8 + 6, none⟩ = some (.string n.target) := nc 6 (by omega)
  have m7 : w.cell? ⟨gn, k * 8 + 7, none⟩ = some (.slice va n.ents.length cva) := by rw [← hev]; exact nc 7 (by omega)
  have hjl : (j : Int) < (F.length : Int) := by
    have := (List.getElem?_eq_some_iff.1 hd).1
    omega
  have hkl : (k : Int) < (d.nodes.length : Int) := by
    have := (List.getElem?_eq_some_iff.1 hk).1
    omega
  have HE := Lib.hid (fun W (hb : Below w.heap.size w W) => (show Ents W va n.ents from by
    obtain ⟨a', c', hv, -, -, hE⟩ := ((h.stay hb).ents j d k n hd hk).at_
    rw [hev] at hv
    injection hv with hv _ _
    subst hv
    exact hE))
  have HM := Lib.hid (fun W (hb : Below w.heap.size w W) => (show W.cell? ⟨gd, j * 2 + 1, none⟩ = some (.slice (some ⟨gn, 0, none⟩) d.nodes.length cn) ∧ W.cell? ⟨gn, k * 8, none⟩ = some (.int .i64 n.ino) ∧ W.cell? ⟨gn, k * 8 + 1, none⟩ = some (.int .i64 n.kind) ∧ W.cell? ⟨gn, k * 8 + 2, none⟩ = some (.int .i64 n.mode) ∧ W.cell? ⟨gn, k * 8 + 3, none⟩ = some (.int .i64 n.uid) ∧ W.cell? ⟨gn, k * 8 + 4, none⟩ = some (.int .i64 n.gid) ∧ W.cell? ⟨gn, k * 8 + 5, none⟩ = some (.int .i64 n.parent) ∧ W.cell? ⟨gn, k * 8 + 6, none⟩ = some (.string n.target) ∧ W.cell? ⟨gn, k * 8 + 7, none⟩ = some (.slice va n.ents.length cva) from
    ⟨cell_stays c1 hb, cell_stays m0 hb, cell_stays m1 hb, cell_stays m2 hb, cell_stays m3 hb, cell_stays m4 hb, cell_stays m5 hb, cell_stays m6 hb, cell_stays m7 hb⟩))
  have HIDX := Lib.hid (And.intro hd hk)
  have HEV := Lib.hid hev
  have HVN := Lib.hid hvn
  have HW2 := Lib.hid hw2
  have HB2 := Lib.hid hb2
  have hb2d : Below w2.heap.size w2 (w2.alloc (.cells #[.int .i64 0, .int .i64 0, .int .i64 0, .int .i64 0, .int .i64 0, .int .i64 0, .string ⟨#[]⟩, .slice none 0 0] 43)).drew := ((Below.refl _ _).alloc (Nat.le_refl _) _).drew
  have hb2e : Below w2.heap.size w2 w2.drew := (Below.refl _ _).drew
  clear h hS hd hi hk hvn hev hw2 c1 m0 m1 m2 m3 m4 m5 m6 m7 nc hb1
  obtain ⟨x0, -⟩ := tA.blk.c1
  obtain ⟨x1, x2, -⟩ := tX.blk.c2
  obtain ⟨c1, m0, m1, m2, m3, m4, m5, m6, m7⟩ := HM.out w2 hb2
  have tZ := (TB.new1 w2 [.int .i64 0, .int .i64 0, .int .i64 0, .int .i64 0, .int .i64 0, .int .i64 0, .string ⟨#[]⟩, .slice none 0 0] 43 _ rfl).drew
  have hbz : Below w2.heap.size w2 (w2.alloc (.cells #[.int .i64 0, .int .i64 0, .int .i64 0, .int .i64 0, .int .i64 0, .int .i64 0, .string ⟨#[]⟩, .slice none 0 0] 43)) := (Below.refl _ _).alloc (Nat.le_refl _) _
  have HK := Lib.hid (fun W (hb : Below w2.heap.size w2 W) => And.intro (tA.stay hb).blk.c1.1 (And.intro (tX.stay hb).blk.c2.1 (And.intro (tX.stay hb).blk.c2.2.1 (HM.out _ (HB2.out.trans (hb.mono HB2.out.size))))))
  have KA := HK.out _ hbz
  have ne1 : w.heap.size ≠ w2.heap.size := by have := tA.lt; omega
  have ne2 : w.heap.size + 1 ≠ w2.heap.size := by have := tX.lt; omega
  have ne3 : gd ≠ w2.heap.size := by have := World.block_lt_of_cell? w2 _ c1; have : gd < w2.heap.size := this; omega
  have ne4 : gn ≠ w2.heap.size := by have := World.block_lt_of_cell? w2 _ m0; have : gn < w2.heap.size := this; omega
  go_enter Try.func52, Try.ntmps52
  go_upto_region 1 with fail
  rw [← HW2.out]
  clear HW2
  go_cut [8] (fun s8 W => ∃ P, s8 = .pointer (some ⟨P, 0, none⟩) ∧ TB 43 W P (ncs n (.slice va n.ents.length cva)) ∧ Below w2.heap.size w2 W)
  case first =>
    go_region_held3 (fun W => W.cell? ⟨w.heap.size, 0, none⟩ = some (.slice (some ⟨gd, 0, none⟩) F.length fc) ∧ W.cell? ⟨w.heap.size + 1, 0, none⟩ = some (.int .i64 (j : Int)) ∧ W.cell? ⟨w.heap.size + 1, 1, none⟩ = some (.int .i64 xi) ∧ W.cell? ⟨gd, j * 2 + 1, none⟩ = some (.slice (some ⟨gn, 0, none⟩) d.nodes.length cn) ∧ W.cell? ⟨gn, k * 8, none⟩ = some (.int .i64 n.ino) ∧ W.cell? ⟨gn, k * 8 + 1, none⟩ = some (.int .i64 n.kind) ∧ W.cell? ⟨gn, k * 8 + 2, none⟩ = some (.int .i64 n.mode) ∧ W.cell? ⟨gn, k * 8 + 3, none⟩ = some (.int .i64 n.uid) ∧ W.cell? ⟨gn, k * 8 + 4, none⟩ = some (.int .i64 n.gid) ∧ W.cell? ⟨gn, k * 8 + 5, none⟩ = some (.int .i64 n.parent) ∧ W.cell? ⟨gn, k * 8 + 6, none⟩ = some (.string n.target) ∧ W.cell? ⟨gn, k * 8 + 7, none⟩ = some (.slice va n.ents.length cva))
      (first
        | go_keep
        | (with_reducible exact KA)
        | (with_reducible exact K3)
        | (with_reducible exact K4))
      ((go_at_call 41; (first | (with_reducible refine (CI.out _ (HB2.out.trans (hb2d.mono HB2.out.size))).mono ?_) | (with_reducible refine (CI.out _ (HB2.out.trans (hb2e.mono HB2.out.size))).mono ?_)); rintro e w3 ⟨rfl, hb30⟩; (first | (have hb3 : Below w2.heap.size w2 w3 := hb2d.trans (hb30.mono hb2d.size); have tZ3 := tZ.stay hb30; obtain ⟨⟨r0, r1, r2, r3, r4, r5, r6, r7⟩, z0, z1, z2, z3, z4, z5, z6, z7⟩ := tZ3.blk.c8) | (have hb3 : Below w2.heap.size w2 w3 := hb2e.trans (hb30.mono hb2e.size))); have K3 := HK.out _ hb3; have K4 := HK.out _ (below_set8 hb3 (Nat.le_refl w2.heap.size) (.int .i64 n.ino) (.int .i64 n.kind) (.int .i64 n.mode) (.int .i64 n.uid) (.int .i64 n.gid) (.int .i64 n.parent) (.string n.target) (.slice va n.ents.length cva))))
    all_goals
      clear K3 K4 KA c1 m0 m1 m2 m3 m4 m5 m6 m7 x0 x1 x2
      go_wp2_with fail
      go_meet
      first
        | exact ⟨w2.heap.size, rfl, node_cells tZ3 (.int .i64 n.ino) (.int .i64 n.kind) (.int .i64 n.mode) (.int .i64 n.uid) (.int .i64 n.gid) (.int .i64 n.parent) (.string n.target) (.slice va n.ents.length cva), below_set8 hb3 (Nat.le_refl w2.heap.size) (.int .i64 n.ino) (.int .i64 n.kind) (.int .i64 n.mode) (.int .i64 n.uid) (.int .i64 n.gid) (.int .i64 n.parent) (.string n.target) (.slice va n.ents.length cva)⟩
        | exact ⟨w3.heap.size, rfl, TB.new1 w3 (ncs n (.slice va n.ents.length cva)) 43 w3.heap.size rfl, hb3.alloc hb3.size _⟩
  case rest =>
    obtain ⟨P, rfl, tP, hbc⟩ := hcut
    have S0 : EnS w wc P n (.slice va n.ents.length cva) w.heap.size (some ⟨gd, 0, none⟩) F.length fc j xi (.slice none 0 0) [] := ⟨HB2.out.trans (hbc.mono HB2.out.size), tP, tA.stay hbc, tX.stay hbc, World.ownsRow_nil _ _ _ _⟩
    obtain ⟨D0, hD0⟩ : ∃ D, decide (i = 0) = D := ⟨_, rfl⟩
    have e0 : (i == 0) = D0 := by rw [← hD0, Bool.eq_iff_iff]; simp
    have HD0 := Lib.hid hD0
    have HST : Hid (([] : List EntP) ++ goE s i D0 (n.ents.drop 0) = TT) := Lib.hid (by rw [HTT.out, hD0]; rfl)
    clear hD0 tP hbc tA tX tZ hbz KA ne1 ne2 ne3 ne4 c1 m0 m1 m2 m3 m4 m5 m6 m7 x0 x1 x2 HK hb2d hb2e hb2
    go_upto_region 4 with fail
    go_wp2_with fail
    clear e0
    go_loopw [9, 10, 11] (fun l dn ix wr => ∃ (t : Nat) (acc : List EntP) (b : Bool), t ≤ n.ents.length ∧ ix = .int .i64 t ∧ dn = .bool b ∧ acc.length ≤ 2 * t ∧ Hid (acc ++ goE s i b (n.ents.drop t) = TT) ∧ EnS w wr P n (.slice va n.ents.length cva) w.heap.size (some ⟨gd, 0, none⟩) F.length fc j xi l acc) (fun _ _ ix _ => n.ents.length - (intOf ix).toNat)
    case atStart => exact ⟨0, [], D0, Nat.zero_le _, rfl, rfl, Nat.zero_le _, HST, S0⟩
    case round =>
      obtain ⟨t, acc2, b, ht, rfl, rfl, hal, HA, S⟩ := hrel
      clear S0 HST
      obtain ⟨lo2, lc2, rfl⟩ := own_isS S.own
      have q7 : wr.cell? ⟨P, 7, none⟩ = some (.slice va n.ents.length cva) := S.nd.blk.cell 7 _ rfl
      by_cases hlt : t < n.ents.length
      · have hkk : (t : Int) < (n.ents.length : Int) := by omega
        obtain ⟨eb, eo, rfl, hp⟩ := RowAt.get (HE.out w (Below.refl _ _)) hlt
        have HDR : Hid (n.ents.drop t = n.ents[t] :: n.ents.drop (t + 1)) := Lib.hid (List.drop_eq_getElem_cons hlt)
        generalize n.ents[t] = en at *
        have HENT := Lib.hid (fun W (hb : Below w.heap.size w W) => EntAt.stays _ _ _ _ _ hp hb)
        have S2 := Lib.hid S
        obtain ⟨g0, -⟩ := HENT.out wr S.bel
        have e1 := less_name en.name s
        have e2 := name_eq en.name s
        have HG : Hid (acc2 ++ ((if !b && !decide (lt en.name s) then [(⟨s, i⟩ : EntP)] else []) ++ ((if en.name = s then [] else [en]) ++ goE s i (b || !decide (lt en.name s)) (n.ents.drop (t + 1)))) = TT) := Lib.hid (by rw [← HA.out, HDR.out]; rfl)
        obtain ⟨L, hL⟩ : ∃ L, L = decide (lt en.name s) := ⟨_, rfl⟩
        rw [← hL] at e1 HG
        have hal2 : acc2.length ≤ 2 * t + 1 := by omega
        clear hL HA S hp
        rcases (show (b = true) ∨ (b = false ∧ L = true) ∨ (b = false ∧ L = false) by cases b <;> cases L <;> simp) with rfl | ⟨rfl, rfl⟩ | ⟨rfl, rfl⟩
        have HA2 := Lib.hid (show acc2 ++ ((if en.name = s then [] else [en]) ++ goE s i true (n.ents.drop (t + 1))) = TT from HG.out)
        focus (go_upto_region 10 with fail)
        clear q7 g0 e1 HG hal
        rotate_left
        have HA2 := Lib.hid (show acc2 ++ ((if en.name = s then [] else [en]) ++ goE s i false (n.ents.drop (t + 1))) = TT from HG.out)
        focus (go_upto_region 10 with fail)
        clear q7 g0 e1 HG hal
        rotate_left
        have HA2 := Lib.hid (show (acc2 ++ [(⟨s, i⟩ : EntP)]) ++ ((if en.name = s then [] else [en]) ++ goE s i true (n.ents.drop (t + 1))) = TT by rw [List.append_assoc]; exact HG.out)
        have HNW := Lib.hid (World.news_of_block (w := wr.alloc (.cells #[.string s, .int .i64 i] 87)) (cs := #[.string s, .int .i64 i]) (t := 87) (fr := (0, 0)) (heap_alloc_new wr _))
        have H5 : Hid (∀ u ∈ ([.string s, .int .i64 i] : List Value), u.oneCell' = true) := Lib.hid (by simp [Value.oneCell'])
        have H6 : Hid (acc2.length + 1 ≤ maxLen) := Lib.hid (by unfold maxLen; omega)
        have H7 : Hid ((acc2.length + 1) * 24 ≤ 140737488355328) := Lib.hid (by omega)
        have H8 : Hid (w.heap.size ≤ (wr.alloc (.cells #[.string s, .int .i64 i] 87)).heap.size) := Lib.hid (by rw [size_alloc]; have := S2.out.bel.size; omega)
        have hal3 : (acc2 ++ [(⟨s, i⟩ : EntP)]).length ≤ 2 * t + 1 := by rw [List.length_append]; simp; omega
        focus (
          go_upto_region 10 with (first
            | (at_builtin; refine wpList_append_own _ rfl _ _ 41 rfl w.heap.size 87 iE _ 2 24 Try.underlying41 hiE hzE0 hzE1 hzE2 rfl (by omega) _ acc2.length _ rfl (S2.out.own.alloc _) ⟨wr.heap.size, 0, none⟩ 1 1 [.string s, .int .i64 i] rfl rfl HNW.out H5.out H6.out H7.out H8.out ?_)
            | fail))
        intro v9 w9 own9 hgrow _
        have S3 := S2.out.more (x := ⟨s, i⟩) hgrow own9
        clear own9 hgrow HNW H5 H6 H7 H8 S2 hal2 q7 g0 e1 HG hal
        obtain ⟨lo2, lc2, rfl⟩ := own_isS S3.own
        generalize acc2 ++ [(⟨s, i⟩ : EntP)] = acc2 at *
        have S2 := Lib.hid S3
        have hal2 := hal3
        clear S3 hal3
        focus (go_upto_region 10 with fail)
        rename World => wr
        rotate_left
        all_goals
          have q7 : wr.cell? ⟨P, 7, none⟩ = some (.slice (some ⟨eb, eo, none⟩) n.ents.length cva) := S2.out.nd.blk.cell 7 _ rfl
          obtain ⟨g0, g1⟩ := HENT.out wr S2.out.bel
          by_cases hE : en.name = s
          · rw [decide_eq_true hE] at e2
            rw [if_pos hE, List.nil_append] at HA2
            clear hE
            go_wp2_with fail
            exact ⟨⟨t + 1, acc2, _, by omega, by go_num, rfl, by omega, HA2, S2.out⟩, by simp [intOf]; omega⟩
          · rw [decide_eq_false hE] at e2
            rw [if_neg hE, ← List.append_assoc] at HA2
            have HNW := Lib.hid (World.news_of_block (w := wr.alloc (.cells #[.string en.name, .int .i64 en.ino] 87)) (cs := #[.string en.name, .int .i64 en.ino]) (t := 87) (fr := (0, 0)) (heap_alloc_new wr _))
            have H5 : Hid (∀ u ∈ ([.string en.name, .int .i64 en.ino] : List Value), u.oneCell' = true) := Lib.hid (by simp [Value.oneCell'])
            have H6 : Hid (acc2.length + 1 ≤ maxLen) := Lib.hid (by unfold maxLen; omega)
            have H7 : Hid ((acc2.length + 1) * 24 ≤ 140737488355328) := Lib.hid (by omega)
            have H8 : Hid (w.heap.size ≤ (wr.alloc (.cells #[.string en.name, .int .i64 en.ino] 87)).heap.size) := Lib.hid (by rw [size_alloc]; have := S2.out.bel.size; omega)
            clear hE
            go_wp2_with (first
              | (at_builtin; refine wpList_append_own _ rfl _ _ 41 rfl w.heap.size 87 iE _ 2 24 Try.underlying41 hiE hzE0 hzE1 hzE2 rfl (by omega) _ acc2.length _ rfl (S2.out.own.alloc _) ⟨wr.heap.size, 0, none⟩ 1 1 [.string en.name, .int .i64 en.ino] rfl rfl HNW.out H5.out H6.out H7.out H8.out ?_)
              | fail)
            intro v9 w9 own9 hgrow _
            have S3 := Lib.hid (S2.out.more (x := en) hgrow own9)
            have hal3 : (acc2 ++ [en]).length ≤ 2 * (t + 1) := by rw [List.length_append]; simp; omega
            clear own9 hgrow HNW H5 H6 H7 H8 S2 q7 g0 g1 e2
            go_wp2_with fail
            exact ⟨⟨t + 1, acc2 ++ [en], _, by omega, by go_num, rfl, hal3, HA2, S3.out⟩, by simp [intOf]; omega⟩
      · have hkk : ¬ (t : Int) < (n.ents.length : Int) := by omega
        obtain rfl : t = n.ents.length := by omega
        have S2 := Lib.hid S
        rw [List.drop_length] at HA
        clear hlt ht S
        go_upto_if 68 with fail
        clear q7
        go_cut [9] (fun s9 W => ∃ lo lc, s9 = .slice lo TT.length lc ∧ EnS w W P n (.slice va n.ents.length cva) w.heap.size (some ⟨gd, 0, none⟩) F.length fc j xi (.slice lo TT.length lc) TT)
        case first =>
          cases b with
          | true =>
            have e3 : acc2 = TT := by
              have h : acc2 ++ [] = TT := HA.out
              rwa [List.append_nil] at h
            subst e3
            clear HTT HD0 HA
            go_wp2_with fail
            go_meet
            exact ⟨_, _, rfl, S2.out⟩
          | false =>
            have e3 : acc2 ++ [(⟨s, i⟩ : EntP)] = TT := HA.out
            have HNW := Lib.hid (World.news_of_block (w := wr.alloc (.cells #[.string s, .int .i64 i] 87)) (cs := #[.string s, .int .i64 i]) (t := 87) (fr := (0, 0)) (heap_alloc_new wr _))
            have H5 : Hid (∀ u ∈ ([.string s, .int .i64 i] : List Value), u.oneCell' = true) := Lib.hid (by simp [Value.oneCell'])
            have H6 : Hid (acc2.length + 1 ≤ maxLen) := Lib.hid (by unfold maxLen; omega)
            have H7 : Hid ((acc2.length + 1) * 24 ≤ 140737488355328) := Lib.hid (by omega)
            have H8 : Hid (w.heap.size ≤ (wr.alloc (.cells #[.string s, .int .i64 i] 87)).heap.size) := Lib.hid (by rw [size_alloc]; have := S2.out.bel.size; omega)
            have HE3 := Lib.hid e3
            clear HTT HD0 HA e3
            go_wp2_with (first
              | (at_builtin; refine wpList_append_own _ rfl _ _ 41 rfl w.heap.size 87 iE _ 2 24 Try.underlying41 hiE hzE0 hzE1 hzE2 rfl (by omega) _ acc2.length _ rfl (S2.out.own.alloc _) ⟨wr.heap.size, 0, none⟩ 1 1 [.string s, .int .i64 i] rfl rfl HNW.out H5.out H6.out H7.out H8.out ?_)
              | fail)
            intro v9 w9 own9 hgrow _
            have S3 := S2.out.more (x := ⟨s, i⟩) hgrow own9
            rw [HE3.out] at S3
            obtain ⟨lo9, lc9, rfl⟩ := own_isS S3.own
            have S4 := Lib.hid S3
            clear own9 hgrow HNW H5 H6 H7 H8 S2 S3 HE3
            go_wp2_with fail
            go_meet
            exact ⟨_, _, rfl, S4.out⟩
        case rest =>
          obtain ⟨lo, lc, rfl, S5⟩ := hcut
          clear S2 HA hal
          have x0 := S5.bx.blk.c1.1
          obtain ⟨x1, x2, -⟩ := S5.xx.blk.c2
          have hbd := S5.bel.drew
          have HSX := Lib.hid (fun W (hb : Below wc.heap.size wc W) => And.intro (S5.stay hb).bx.blk.c1.1 (And.intro (S5.stay hb).xx.blk.c2.1 (And.intro (S5.stay hb).xx.blk.c2.2.1 (HM.out W (S5.stay hb).bel).1)))
          have c1 := (HM.out wc S5.bel).1
          have FIN : Hid (∀ W, Below wc.heap.size wc W → W.cell? ⟨gn, k * 8 + 7, none⟩ = some (.slice va n.ents.length cva) ∧ W.frozen? ⟨gn, k * 8 + 7, none⟩ = false ∧ EntR B w (.slice (some ⟨gd, 0, none⟩) F.length fc) (F.set j (setN d k { n with ents := TT })) vn j (.returned (.tuple #[])) (W.setCell ⟨gn, k * 8 + 7, none⟩ (.slice lo TT.length lc))) := Lib.hid (fun W hb => by
            have hbw := (S5.stay hb).bel
            have hf := HFO.out.stay hbw
            have hrow : W.ownsRow B 43 8 (vn j) d.nodes.length (nrow (ev j) 0 d.nodes) := hf.nodes j d HIDX.out.1
            rw [HVN.out] at hrow
            have hg : ∀ row, w.grownBy W row := fun row => ⟨hbw.os, hbw.tape, hbw.output, hbw.size, fun g hg _ => hbw.block g hg⟩
            have ho := (S5.stay hb).own
            refine ⟨(HM.out W hbw).2.2.2.2.2.2.2.2, hrow.frozenAt _, rfl, ?_, _, HFO.out.setEnts HIDX.out.1 HIDX.out.2 (hg _) (ve := .slice lo TT.length lc) (own_mono ho hB) (fun g hg' => .inr (own_lt ho hg').1) HGN.out⟩
            have h2 := grown_trans (hg (some gn)) (show W.grownBy (W.setCell ⟨gn, k * 8 + 7, none⟩ (.slice lo TT.length lc)) (some gn) from ⟨rfl, rfl, rfl, by rw [size_set]; exact Nat.le_refl _, fun g _ hne => Below.heap_setCell W ⟨gn, k * 8 + 7, none⟩ _ g (fun e => hne (by rw [e]))⟩)
            rw [HGN.out]
            exact h2)
          have hgnl : gn < w.heap.size := HFO.out.ltN j gn HGN.out
          have hgdn : gd ≠ gn := fun e => own_types HFO.out.row (HFO.out.nodes j d HIDX.out.1) (by decide) (g := gd) rfl (by rw [e]; exact HGN.out)
          have HK6 : Hid (∀ W, Below wc.heap.size wc W → (W.setCell ⟨gn, k * 8 + 7, none⟩ (.slice lo TT.length lc)).cell? ⟨w.heap.size, 0, none⟩ = some (.slice (some ⟨gd, 0, none⟩) F.length fc) ∧ (W.setCell ⟨gn, k * 8 + 7, none⟩ (.slice lo TT.length lc)).cell? ⟨w.heap.size + 1, 0, none⟩ = some (.int .i64 (j : Int)) ∧ (W.setCell ⟨gn, k * 8 + 7, none⟩ (.slice lo TT.length lc)).cell? ⟨w.heap.size + 1, 1, none⟩ = some (.int .i64 xi) ∧ (W.setCell ⟨gn, k * 8 + 7, none⟩ (.slice lo TT.length lc)).cell? ⟨gd, j * 2 + 1, none⟩ = some (.slice (some ⟨gn, 0, none⟩) d.nodes.length cn)) := Lib.hid (fun W hb => by
            obtain ⟨a0, a1, a2, a3⟩ := HSX.out W hb
            have hk : ∀ g, g ≠ gn → (W.setCell ⟨gn, k * 8 + 7, none⟩ (.slice lo TT.length lc)).heap[g]? = W.heap[g]? := fun g hg => Below.heap_setCell W ⟨gn, k * 8 + 7, none⟩ _ g hg
            exact ⟨(World.cell?_of_block (a := ⟨w.heap.size, 0, none⟩) (hk w.heap.size (by omega))).trans a0, (World.cell?_of_block (a := ⟨w.heap.size + 1, 0, none⟩) (hk (w.heap.size + 1) (by omega))).trans a1, (World.cell?_of_block (a := ⟨w.heap.size + 1, 1, none⟩) (hk (w.heap.size + 1) (by omega))).trans a2, (World.cell?_of_block (a := ⟨gd, j * 2 + 1, none⟩) (hk gd hgdn)).trans a3⟩)
          clear HTT HD0 S5
          go_upto_region 14 with fail
          go_region_held3 (fun W => W.cell? ⟨w.heap.size, 0, none⟩ = some (.slice (some ⟨gd, 0, none⟩) F.length fc) ∧ W.cell? ⟨w.heap.size + 1, 0, none⟩ = some (.int .i64 (j : Int)) ∧ W.cell? ⟨w.heap.size + 1, 1, none⟩ = some (.int .i64 xi) ∧ W.cell? ⟨gd, j * 2 + 1, none⟩ = some (.slice (some ⟨gn, 0, none⟩) d.nodes.length cn))
            (first
              | go_keep
              | (with_reducible exact K5)
              | (with_reducible exact K6))
            ((go_at_call 41; (with_reducible refine (CI.out _ hbd).mono ?_); rintro e w9 ⟨rfl, hb9⟩; have hb8 : Below wc.heap.size wc w9 := (Below.refl wc.heap.size wc).drew.trans hb9; have K5 := HSX.out w9 hb8; have F5 := FIN.out w9 hb8; have s7 := F5.1; have f7 := F5.2.1; have HFN := Lib.hid F5.2.2; have K6 := HK6.out w9 hb8))
          all_goals
            clear K5 K6 F5 x0 x1 x2 c1 s7 f7
            go_wp2_with fail
            exact bodyPost_end (v := .tuple #[]) (by simp [results, Try.f52, go_sem]) rfl HFN.out
end Go.Proofs.Ytafnbpkdenjipaa.fl
namespace Go.Proofs.Ytafnbpkdenjipaa.fl
open Go.RowKit Go.Proofs.Ytafnbpkdenjipaa.cm

/-- the cells of what is left of the nodes, but node q -/
def skipR (e : Nat → Value) (q : Nat) : Nat → List NodeP → List Value
  | _, [] => []
  | s, n :: l => (if s = q then [] else ncs n (e s)) ++ skipR e q (s + 1) l
theorem skip_past (e : Nat → Value) (q : Nat) : ∀ (s : Nat) (l : List NodeP), q < s → skipR e q s l = nrow e s l
  | _, [], _ => by simp [skipR, nrow]
  | s, n :: l, h => by
    rw [skipR, nrow, if_neg (by omega), skip_past e q (s + 1) l (by omega)]
theorem skip_eq (e : Nat → Value) (q : Nat) : ∀ (s : Nat) (l : List NodeP), s ≤ q → skipR e q s l = nrow (shiftV e q) s (l.eraseIdx (q - s))
  | _, [], _ => by simp [skipR, nrow]
  | s, n :: l, h => by
    rw [skipR]
    by_cases c : s = q
    · subst c
      rw [if_pos rfl, Nat.sub_self, List.eraseIdx_cons_zero, skip_past e s (s + 1) l (by omega), List.nil_append]
      rw [nrow_ext (ev := shiftV e s) (ev' := fun k => e (k + 1)) s l (fun k h1 h2 => by unfold shiftV; rw [if_neg (by omega)]), nrow_shift]
    · rw [if_neg c, show q - s = (q - (s + 1)) + 1 by omega, List.eraseIdx_cons_succ, nrow, skip_eq e q (s + 1) l (by omega)]
      have : shiftV e q s = e s := by unfold shiftV; rw [if_pos (by omega)]
      rw [this]
theorem skip_len (q : Nat) {l : List NodeP} (h : q < l.length) : (l.eraseIdx q).length = l.length - 1 := List.length_eraseIdx_of_lt h

/-- what drop leaves -/
def DrpR (B : Nat) (w : World) (v : Value) (G : FilP) (e : Ending) (w' : World) : Prop :=
  e = .returned (.tuple #[]) ∧ w.grownBy w' v.ownBlock ∧ OutF B w' v G

set_option maxRecDepth 100000 in
set_option maxHeartbeats 4000000 in
theorem rdrop_ok (B : Nat) (gd fc j q gn cn : Nat) (F : FilP) (xi : Int) (w : World) (d : DevP) (n0 : NodeP) (vn : Nat → Value) (ev : Nat → Nat → Value) (h : FilesO B w (.slice (some ⟨gd, 0, none⟩) F.length fc) F vn ev) (hS : Sml F) (hA : AscF F) (hd : F[j]? = some d) (hi : idxL d.nodes xi = some q) (hk : d.nodes[q]? = some n0)
    (hvn : vn j = .slice (some ⟨gn, 0, none⟩) d.nodes.length cn) (hB : B ≤ w.heap.size) :
    Calls Try.prog 79 #[.agg #[.slice (some ⟨gd, 0, none⟩) F.length fc], .agg #[.int .i64 (j : Int), .int .i64 xi]] w (DrpR B w (.slice (some ⟨gd, 0, none⟩) F.length fc) (if linksF F ⟨(j : Int), xi⟩ = 0 then F.set j (dropD d xi) else F)) := by
  obtain ⟨iN, hiN, hzN0, hzN1, hzN2⟩ := info_parts infoN
  have hb1 : Below w.heap.size w (w.alloc (.cells #[.slice (some ⟨gd, 0, none⟩) F.length fc] 24)) := (Below.refl _ _).alloc (Nat.le_refl _) _
  have hb2 := hb1.alloc hb1.size (.cells #[.int .i64 (j : Int), .int .i64 xi] 36)
  have tA := (TB.new1 w [.slice (some ⟨gd, 0, none⟩) F.length fc] 24 w.heap.size rfl).alloc (.cells #[.int .i64 (j : Int), .int .i64 xi] 36)
  have tX := TB.new1 (w.alloc (.cells #[.slice (some ⟨gd, 0, none⟩) F.length fc] 24)) [.int .i64 (j : Int), .int .i64 xi] 36 (w.heap.size + 1) (size_alloc _ _)
  have CL := Lib.hid (rLinks_any (some ⟨gd, 0, none⟩) fc F ⟨(j : Int), xi⟩ _ (by
    obtain ⟨a', c', hv, -, -, hF⟩ := (h.stay hb2).at_
    injection hv with hv _ _
    subst hv
    exact hF) hS)
  have HFO := Lib.hid h
  have HAB := Lib.hid (hA d (List.mem_of_getElem? hd))
  have HGN : Hid ((vn j).ownBlock = some gn) := Lib.hid (by rw [hvn]; rfl)
  have hnl := hS.nodes d (List.mem_of_getElem? hd)
  have hjl : (j : Int) < (F.length : Int) := by
    have := (List.getElem?_eq_some_iff.1 hd).1
    omega
  have hql := (List.getElem?_eq_some_iff.1 hk).1
  have HC := Lib.hid (fun W (hb : Below w.heap.size w W) => (show W.cell? ⟨gd, j * 2 + 1, none⟩ = some (.slice (some ⟨gn, 0, none⟩) d.nodes.length cn) by rw [← hvn]; exact (h.stay hb).cellY hd rfl))
  have HM := Lib.hid (fun W (hb : Below w.heap.size w W) (t : Nat) (m : NodeP) (ht : d.nodes[t]? = some m) (c : Nat) (hc : c < 8) => (h.stay hb).cellN hd ht HGN.out hc)
  have HQ : Hid (∀ t m, d.nodes[t]? = some m → (m.ino = xi ↔ t = q)) := Lib.hid (fun t m hm => by
    obtain ⟨nq, h1, h2, -⟩ := idxL_node hi
    rw [hk] at h1
    injection h1 with h1
    subst h1
    refine ⟨fun e => ?_, fun e => by rw [e, hk] at hm; injection hm with hm; rw [← hm]; exact h2⟩
    have hasc := hA d (List.mem_of_getElem? hd)
    unfold AscL at hasc
    rw [List.pairwise_iff_getElem] at hasc
    obtain ⟨a1, a2⟩ := List.getElem?_eq_some_iff.1 hm
    obtain ⟨b1, b2⟩ := List.getElem?_eq_some_iff.1 hk
    rcases Nat.lt_trichotomy t q with c | c | c
    · have := hasc t q a1 b1 c; rw [a2, b2] at this; omega
    · exact c
    · have := hasc q t b1 a1 c; rw [a2, b2] at this; omega)
  have HDI := Lib.hid hd
  have HER : Hid (d.nodes.eraseIdx q = dropL d.nodes xi) := Lib.hid (erase_drop (hA d (List.mem_of_getElem? hd)) hk (by obtain ⟨nq, h1, h2, -⟩ := idxL_node hi; rw [hk] at h1; injection h1 with h1; rw [h1]; exact h2))
  have HVN := Lib.hid hvn
  have HB := Lib.hid hB
  obtain ⟨L, hL⟩ : ∃ L, L = linksF F ⟨(j : Int), xi⟩ := ⟨_, rfl⟩
  rw [← hL] at CL ⊢
  clear hL h hS hA hd hi hk hvn hB hb1
  by_cases hz : L = 0
  · subst hz
    rw [if_pos rfl]
    go_enter Try.func79, Try.ntmps79
    go_wp2_with fail
    refine CL.out.mono ?_
    rintro e w3 ⟨rfl, hb3⟩
    have hb4 := hb2.trans (hb3.mono hb2.size)
    have c1 := HC.out w3 hb4
    have uA := tA.stay hb3
    have uX := tX.stay hb3
    have x0 := uA.blk.c1.1
    obtain ⟨x1, x2, -⟩ := uX.blk.c2
    clear tA tX hb3 CL
    go_wp2_with fail
    clear x0 x1 x2 c1
    go_loopw [4, 6] (fun l ix wr => ∃ (t m : Nat) (acc : List Value), t ≤ d.nodes.length ∧ ix = .int .i64 t ∧ m ≤ t ∧ wr.ownsRow w.heap.size 43 8 l m acc ∧ Hid (acc ++ skipR (ev j) q t (d.nodes.drop t) = skipR (ev j) q 0 d.nodes) ∧ Below w.heap.size w wr ∧ TB 24 wr w.heap.size [.slice (some ⟨gd, 0, none⟩) F.length fc] ∧ TB 36 wr (w.heap.size + 1) [.int .i64 (j : Int), .int .i64 xi]) (fun _ ix _ => d.nodes.length - (intOf ix).toNat)
    case atStart => exact ⟨0, 0, [], Nat.zero_le _, rfl, Nat.le_refl _, World.ownsRow_nil _ _ _ _, Lib.hid rfl, hb4, uA, uX⟩
    case round =>
      obtain ⟨t, m, acc, ht, rfl, hmt, hown, HA, hb, qA, qX⟩ := hrel
      clear hb4 uA uX
      obtain ⟨lo, lc, rfl⟩ := own_isS hown
      by_cases hlt : t < d.nodes.length
      · have hkk : (t : Int) < (d.nodes.length : Int) := by omega
        have HDR : Hid (d.nodes.drop t = d.nodes[t] :: d.nodes.drop (t + 1)) := Lib.hid (List.drop_eq_getElem_cons hlt)
        have hgt := List.getElem?_eq_getElem hlt
        have hq := HQ.out t _ hgt
        have nc := HM.out wr hb t _ hgt
        generalize d.nodes[t] = n at *
        have HG : Hid (acc ++ ((if t = q then [] else ncs n (ev j t)) ++ skipR (ev j) q (t + 1) (d.nodes.drop (t + 1))) = skipR (ev j) q 0 d.nodes) := Lib.hid (by rw [← HA.out, HDR.out]; rfl)
        obtain ⟨ve, hve⟩ : ∃ v, v = ev j t := ⟨_, rfl⟩
        rw [← hve] at HG nc
        have m0 : wr.cell? ⟨gn, t * 8, none⟩ = some (.int .i64 n.ino) := nc 0 (by omega)
        obtain ⟨-, x2, -⟩ := qX.blk.c2
        by_cases hE : t = q
        · have e1 : (n.ino == xi) = true := by simpa using hq.2 hE
          have HX : Hid (acc ++ skipR (ev j) q (t + 1) (d.nodes.drop (t + 1)) = skipR (ev j) q 0 d.nodes) := Lib.hid (by have := HG.out; rwa [if_pos hE, List.nil_append] at this)
          have HS := Lib.hid (And.intro hown (And.intro hb (And.intro qA qX)))
          clear hE hq nc hve HG HA hgt hown hb qA qX
          go_wp2_with fail
          go_quiet (fail)
          go_wp2_with fail
          exact ⟨⟨t + 1, m, acc, by omega, by go_num, by omega, HS.out.1, HX, ⟨HS.out.2.1.os, HS.out.2.1.tape, HS.out.2.1.output, HS.out.2.1.size, HS.out.2.1.block⟩, HS.out.2.2.1, HS.out.2.2.2⟩, by simp [intOf]; omega⟩
        · have e1 : (n.ino == xi) = false := by simpa using fun h => hE (hq.1 h)
          have HX : Hid ((acc ++ ncs n ve) ++ skipR (ev j) q (t + 1) (d.nodes.drop (t + 1)) = skipR (ev j) q 0 d.nodes) := Lib.hid (by have := HG.out; rw [if_neg hE] at this; rw [List.append_assoc]; exact this)
          obtain ⟨va, cva, rfl⟩ : ∃ va cva, ve = .slice va n.ents.length cva := by
            obtain ⟨a', c', hv, -⟩ := (HFO.out.ents j d t n HDI.out hgt).at_
            exact ⟨a', c', hve.trans hv⟩
          have m1 : wr.cell? ⟨gn, t * 8 + 1, none⟩ = some (.int .i64 n.kind) := nc 1 (by omega)
          have m2 : wr.cell? ⟨gn, t * 8 + 2, none⟩ = some (.int .i64 n.mode) := nc 2 (by omega)
          have m3 : wr.cell? ⟨gn, t * 8 + 3, none⟩ = some (.int .i64 n.uid) := nc 3 (by omega)
          have m4 : wr.cell? ⟨gn, t * 8 + 4, none⟩ = some (.int .i64 n.gid) := nc 4 (by omega)
          have m5 : wr.cell? ⟨gn, t * 8 + 5, none⟩ = some (.int .i64 n.parent) := nc 5 (by omega)
          have m6 : wr.cell? ⟨gn, t * 8 + 6, none⟩ = some (.string n.target) := nc 6 (by omega)
          have m7 : wr.cell? ⟨gn, t * 8 + 7, none⟩ = some (.slice va n.ents.length cva) := nc 7 (by omega)
          have HS := Lib.hid (And.intro hown (And.intro hb (And.intro qA qX)))
          have hwz := hb.size
          clear hE hq nc hve HG HA hgt hown hb qA qX
          go_upto_region 7 with fail
          go_quiet (fail)
          go_upto_region 8 with fail
          obtain ⟨wd, hwd⟩ : ∃ wd, wd = wr.drewN nq := ⟨_, rfl⟩
          have hown : wd.ownsRow w.heap.size 43 8 (.slice lo m lc) m acc := by rw [hwd]; exact HS.out.1
          have hb : Below w.heap.size w wd := by rw [hwd]; exact ⟨HS.out.2.1.os, HS.out.2.1.tape, HS.out.2.1.output, HS.out.2.1.size, HS.out.2.1.block⟩
          have qA : TB 24 wd w.heap.size [.slice (some ⟨gd, 0, none⟩) F.length fc] := by rw [hwd]; exact HS.out.2.2.1
          have qX : TB 36 wd (w.heap.size + 1) [.int .i64 (j : Int), .int .i64 xi] := by rw [hwd]; exact HS.out.2.2.2
          have k0 : wd.cell? ⟨gn, t * 8, none⟩ = some (.int .i64 n.ino) := by rw [hwd]; exact m0
          have k1 : wd.cell? ⟨gn, t * 8 + 1, none⟩ = some (.int .i64 n.kind) := by rw [hwd]; exact m1
          have k2 : wd.cell? ⟨gn, t * 8 + 2, none⟩ = some (.int .i64 n.mode) := by rw [hwd]; exact m2
          have k3 : wd.cell? ⟨gn, t * 8 + 3, none⟩ = some (.int .i64 n.uid) := by rw [hwd]; exact m3
          have k4 : wd.cell? ⟨gn, t * 8 + 4, none⟩ = some (.int .i64 n.gid) := by rw [hwd]; exact m4
          have k5 : wd.cell? ⟨gn, t * 8 + 5, none⟩ = some (.int .i64 n.parent) := by rw [hwd]; exact m5
          have k6 : wd.cell? ⟨gn, t * 8 + 6, none⟩ = some (.string n.target) := by rw [hwd]; exact m6
          have k7 : wd.cell? ⟨gn, t * 8 + 7, none⟩ = some (.slice va n.ents.length cva) := by rw [hwd]; exact m7
          rw [← hwd]
          clear hwd m0 m1 m2 m3 m4 m5 m6 m7 x2 HS e1
          have HNW := Lib.hid (World.news_of_block (w := wd.alloc (.cells #[.int .i64 n.ino, .int .i64 n.kind, .int .i64 n.mode, .int .i64 n.uid, .int .i64 n.gid, .int .i64 n.parent, .string n.target, .slice va n.ents.length cva] 43)) (cs := #[.int .i64 n.ino, .int .i64 n.kind, .int .i64 n.mode, .int .i64 n.uid, .int .i64 n.gid, .int .i64 n.parent, .string n.target, .slice va n.ents.length cva]) (t := 43) (fr := (0, 0)) (heap_alloc_new wd _))
          have H5 : Hid (∀ u ∈ ncs n (.slice va n.ents.length cva), u.oneCell' = true) := Lib.hid (by simp [Value.oneCell', ncs])
          have H6 : Hid (m + 1 ≤ maxLen) := Lib.hid (by unfold maxLen; omega)
          have H7 : Hid ((m + 1) * 88 ≤ 140737488355328) := Lib.hid (by omega)
          have hbz := hb.size
          have H8 : Hid (w.heap.size ≤ (wd.alloc (.cells #[.int .i64 n.ino, .int .i64 n.kind, .int .i64 n.mode, .int .i64 n.uid, .int .i64 n.gid, .int .i64 n.parent, .string n.target, .slice va n.ents.length cva] 43)).heap.size) := Lib.hid (by rw [size_alloc]; omega)
          have HOW := Lib.hid hown
          have hba : Below wd.heap.size wd (wd.alloc (.cells #[.int .i64 n.ino, .int .i64 n.kind, .int .i64 n.mode, .int .i64 n.uid, .int .i64 n.gid, .int .i64 n.parent, .string n.target, .slice va n.ents.length cva] 43)) := (Below.refl _ _).alloc (Nat.le_refl _) _
          have HSA := Lib.hid (And.intro (hb.trans (hba.mono hbz)) (And.intro (qA.stay hba) (qX.stay hba)))
          clear hown hb qA qX hba
          go_wp2_with (first
            | (at_builtin; refine wpList_append_own _ rfl _ _ 70 rfl w.heap.size 43 iN _ 8 88 Try.underlying70 hiN hzN0 hzN1 hzN2 rfl (by omega) _ m _ rfl (HOW.out.alloc _) ⟨wd.heap.size, 0, none⟩ 1 1 (ncs n (.slice va n.ents.length cva)) rfl rfl HNW.out H5.out H6.out H7.out H8.out ?_)
            | fail)
          intro v9 w9 own9 hgrow _
          have rowC := HOW.out.alloc (.cells #[.int .i64 n.ino, .int .i64 n.kind, .int .i64 n.mode, .int .i64 n.uid, .int .i64 n.gid, .int .i64 n.parent, .string n.target, .slice va n.ents.length cva] 43)
          have RES := Lib.hid (And.intro own9 (And.intro (HSA.out.1.grown hgrow H8.out (fun g hg => (own_lt rowC hg).1)) (And.intro (HSA.out.2.1.grown rowC (by decide) hgrow) (HSA.out.2.2.grown rowC (by decide) hgrow))))
          clear own9 hgrow rowC HNW HOW HSA k0 k1 k2 k3 k4 k5 k6 k7
          go_wp2_with fail
          exact ⟨⟨t + 1, m + 1, _, by omega, by go_num, by omega, RES.out.1, HX, RES.out.2.1, RES.out.2.2.1, RES.out.2.2.2⟩, by simp [intOf]; omega⟩
      · have hkk : ¬ (t : Int) < (d.nodes.length : Int) := by omega
        obtain rfl : t = d.nodes.length := by omega
        have HN0 : Hid (acc = nrow (shiftV (ev j) q) 0 (d.nodes.eraseIdx q)) := Lib.hid (by
          have h1 := HA.out
          rw [List.drop_length, skipR, List.append_nil, skip_eq (ev j) q 0 d.nodes (Nat.zero_le _), Nat.sub_zero] at h1
          exact h1)
        have hlen : m = (d.nodes.eraseIdx q).length := by
          have h1 := hown.1
          rw [HN0.out, nrow_len] at h1
          omega
        have c1 := HC.out wr hb
        have x0 := qA.blk.c1.1
        obtain ⟨x1, x2, -⟩ := qX.blk.c2
        have hD := (HFO.out.stay hb).row
        have f7 : wr.frozen? ⟨gd, j * 2 + 1, none⟩ = false := hD.frozenAt _
        have hset : F.set j { d with nodes := d.nodes.eraseIdx q } = F.set j (dropD d xi) := by
          rw [HER.out]
          rfl
        have hO : OwnN B wr (.slice lo m lc) (shiftV (ev j) q) (d.nodes.eraseIdx q) := by
          unfold OwnN
          have h2 := own_mono hown HB.out
          rw [HN0.out, hlen] at h2
          rw [hlen]
          exact h2
        have hF := HFO.out.setNodes HDI.out (w' := wr) ⟨hb.os, hb.tape, hb.output, hb.size, fun g hg _ => hb.block g hg⟩ hO (fun k n' hm => by
            rw [List.getElem?_eraseIdx] at hm
            have key : ∀ t, d.nodes[t]? = some n' → OwnE B wr (ev j t) n'.ents := fun t ht => (HFO.out.stay hb).ents j d t n' HDI.out ht
            unfold shiftV
            split at hm
            · rename_i h1; rw [if_pos h1]; exact key k hm
            · rename_i h1; rw [if_neg h1]; exact key (k + 1) hm)
          (shift_inj (fun a b g' h1 h2 => (HFO.out.injE j a j b g' h1 h2).2) q) (fun m g' hg' => by
            unfold shiftV at hg'
            split at hg'
            · exact ⟨m, hg'⟩
            · exact ⟨m + 1, hg'⟩) (fun g' hg' => .inr (own_lt hown hg').1) (g := gd) rfl
        rw [hset] at hF
        have HFN : Hid (DrpR B w (.slice (some ⟨gd, 0, none⟩) F.length fc) (F.set j (dropD d xi)) (.returned (.tuple #[])) (wr.setCell ⟨gd, j * 2 + 1, none⟩ (.slice lo m lc))) := Lib.hid ⟨rfl, grown_trans (⟨hb.os, hb.tape, hb.output, hb.size, fun g hg _ => hb.block g hg⟩ : w.grownBy wr (some gd)) ⟨rfl, rfl, rfl, by rw [size_set]; exact Nat.le_refl _, fun g _ hne => Below.heap_setCell wr ⟨gd, j * 2 + 1, none⟩ _ g (fun e => hne (by rw [e]; rfl))⟩, _, _, hF⟩
        clear hF hO hset hown HA HN0 hb qA qX hD hlen HB HER HDI
        go_wp2_with fail
        exact bodyPost_end (v := .tuple #[]) (by simp [results, Try.f79, go_sem]) rfl HFN.out
  · rw [if_neg hz]
    have hpos : (0 : Int) < (L : Int) := by omega
    have HFN : Hid (∀ W, Below w.heap.size w W → DrpR B w (.slice (some ⟨gd, 0, none⟩) F.length fc) F (.returned (.tuple #[])) W) := Lib.hid (fun W hb => ⟨rfl, ⟨hb.os, hb.tape, hb.output, hb.size, fun g hg _ => hb.block g hg⟩, ⟨_, _, HFO.out.stay hb⟩⟩)
    go_enter Try.func79, Try.ntmps79
    go_wp2_with fail
    refine CL.out.mono ?_
    rintro e w3 ⟨rfl, hb3⟩
    have HF3 := Lib.hid (HFN.out w3 (hb2.trans (hb3.mono hb2.size)))
    clear hz
    go_wp2_with fail
    exact bodyPost_ret (v := .tuple #[]) (by simp [results, Try.f79, go_sem]) rfl HF3.out
end Go.Proofs.Ytafnbpkdenjipaa.fl
namespace Go.Proofs.Ytafnbpkdenjipaa.fl
open Go.RowKit Go.Proofs.Ytafnbpkdenjipaa.cm

/-- what enter and drop leave of files that are the caller's own -/
def GoR (B : Nat) (w : World) (v : Value) (G : FilP) (e : Ending) (w' : World) : Prop :=
  e = .returned (.tuple #[]) ∧ Below B w w' ∧ OutF B w' v G ∧ ∀ T D cs, T ≠ 43 → T ≠ 72 → TB T w D cs → TB T w' D cs
theorem renter_F (B : Nat) (fa : Option Addr) (fc : Nat) (F : FilP) (x : At) (s : ByteArray) (tg : At) (w : World) (h : OutF B w (.slice fa F.length fc) F) (hS : Sml F) (hA : AscF F) (hT : SrtF F) (hL : LowF F) {n : NodeP} (hn : nodeF F x = some n) (hB : B ≤ w.heap.size) (htg : tg = zA ↔ tg.ino = 0) :
    Calls Try.prog 52 #[.agg #[.slice fa F.length fc], .agg #[.int .i64 x.dev, .int .i64 x.ino], .string s, .int .i64 tg.ino] w (GoR B w (.slice fa F.length fc) (pointF F x s tg)) := by
  obtain ⟨vn, ev, h⟩ := h
  obtain ⟨j, k, d, hj, hd, hi, hk⟩ := node_where hn
  obtain ⟨gd, c1, hv, -⟩ := h.gD hd
  obtain ⟨gn, cn, hvn, -⟩ := h.gN hd hk
  obtain ⟨va, cva, hev, -⟩ := own_slice (h.ents j d k n hd hk)
  injection hv with h1 h2 h3
  subst h1
  have e1 : F.set j (setN d k { n with ents := goE s tg.ino (decide (tg.ino = 0)) n.ents }) = pointF F x s tg := by
    unfold pointF
    rw [← setN_on hA hj hd hi hk]
    congr 2
    by_cases c : tg = zA
    · rw [if_pos c, decide_eq_true (htg.1 c), goE_true]; rfl
    · rw [if_neg c, decide_eq_false (fun h => c (htg.2 h)), goE_false _ _ _ (hT d (List.mem_of_getElem? hd) n (List.mem_of_getElem? hk))]; rfl
  obtain ⟨xd, xi⟩ := x
  obtain rfl : xd = (j : Int) := hj
  have CE := renter_ok B gd fc j k gn cn va cva F xi s tg.ino w d n vn ev h hS hd hi hk hvn hev hB (hL d (List.mem_of_getElem? hd) n (List.mem_of_getElem? hk))
  refine CE.mono ?_
  rintro e w' ⟨rfl, hg, ev', hf⟩
  rw [e1] at hf
  exact ⟨rfl, (Below.refl B w).grown hg hB (fun g hg' => (own_lt (h.nodes j d hd) hg').1), ⟨vn, ev', hf⟩, fun T D cs h1 _ ht => ht.grown (h.nodes j d hd) h1 hg⟩
theorem rdrop_F (B : Nat) (fa : Option Addr) (fc : Nat) (F : FilP) (c : ChgP) (w : World) (h : OutF B w (.slice fa F.length fc) F) (hS : Sml F) (hA : AscF F) {n : NodeP} (hn : nodeF F c.old = some n) (hB : B ≤ w.heap.size) :
    Calls Try.prog 79 #[.agg #[.slice fa F.length fc], .agg #[.int .i64 c.old.dev, .int .i64 c.old.ino]] w (GoR B w (.slice fa F.length fc) (dropF1 F c)) := by
  obtain ⟨vn, ev, h⟩ := h
  obtain ⟨j, k, d, hj, hd, hi, hk⟩ := node_where hn
  obtain ⟨gd, c1, hv, -⟩ := h.gD hd
  obtain ⟨gn, cn, hvn, -⟩ := h.gN hd hk
  injection hv with h1 h2 h3
  subst h1
  have e1 : (if linksF F ⟨(j : Int), c.old.ino⟩ = 0 then F.set j (dropD d c.old.ino) else F) = dropF1 F c := by
    unfold dropF1
    rw [hn, ← hj]
    by_cases z : linksF F c.old = 0
    · rw [if_pos (show linksF F ⟨c.old.dev, c.old.ino⟩ = 0 from z), if_pos ⟨rfl, z⟩, set_on hd (fun d => dropD d c.old.ino), hj]
    · rw [if_neg (show ¬ linksF F ⟨c.old.dev, c.old.ino⟩ = 0 from z), if_neg (fun h => z h.2)]
  have CD := rdrop_ok B gd fc j k gn cn F c.old.ino w d n vn ev h hS hA hd hi hk hvn hB
  rw [hj]
  refine CD.mono ?_
  rintro e w' ⟨rfl, hg, hf⟩
  rw [e1] at hf
  exact ⟨rfl, (Below.refl B w).grown hg hB (fun g hg' => (own_lt h.row hg').1), hf, fun T D cs _ h2 ht => ht.grown h.row h2 hg⟩
end Go.Proofs.Ytafnbpkdenjipaa.fl
