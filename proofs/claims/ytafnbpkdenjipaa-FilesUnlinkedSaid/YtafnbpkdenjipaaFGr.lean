/-
  Reads of package files: indexOf.
  Reads of package files: nodeAt, isDir, hasRoom, isEmpty.
  Reads of package files: the entry with a name, by halving.
  Blocks of the call's own, known whole.
  Reads of package files: where an entry leads to.
  Reads of package files: places.
  Reads of package files: Links, hasRoom, isEmpty, within.
  Reads of package files: hasRoom, isEmpty, within.
-/
import Derived.Test.YtafnbpkdenjipaaFGp
import Derived.Test.YtafnbpkdenjipaaFilA
import Derived.Test.YtafnbpkdenjipaaDec
import Derived.Lib.Hide
import Derived.Deep.RegionHeld3
import Derived.Deep.QuietTactic
import Derived.Test.YtafnbpkdenjipaaPNm
namespace Go.Proofs.Ytafnbpkdenjipaa.fl
open Go.RowKit Go.Proofs.Ytafnbpkdenjipaa.cm

/-- where the node with a number is -/
def idxL (l : List NodeP) (i : Int) : Option Nat := l.findIdx? fun n => decide (n.ino = i)
def idxI (l : List NodeP) (i : Int) : Int := match idxL l i with | some k => (k : Int) | none => -1
/-- no node before k has the number -/
def NoN (l : List NodeP) (i : Int) (k : Nat) : Prop := ∀ j n, j < k → l[j]? = some n → n.ino ≠ i
theorem NoN.zero (l : List NodeP) (i : Int) : NoN l i 0 := fun _ _ h => absurd h (Nat.not_lt_zero _)
theorem NoN.succ {l : List NodeP} {i : Int} {k : Nat} {n : NodeP} (h : NoN l i k) (hn : l[k]? = some n) (hi : n.ino ≠ i) : NoN l i (k + 1) := fun j m hj hm => by
  by_cases e : j = k
  · subst e; rw [hn] at hm; injection hm with hm; rw [← hm]; exact hi
  · exact h j m (by omega) hm
theorem NoN.hit {l : List NodeP} {i : Int} {k : Nat} {n : NodeP} (h : NoN l i k) (hn : l[k]? = some n) (hi : n.ino = i) : idxL l i = some k := by
  obtain ⟨hk, e⟩ := List.getElem?_eq_some_iff.1 hn
  unfold idxL
  rw [List.findIdx?_eq_some_iff_getElem]
  refine ⟨hk, by rw [e]; simpa using hi, fun j hj => ?_⟩
  simpa using h j _ hj (List.getElem?_eq_getElem (by omega))
theorem NoN.miss {l : List NodeP} {i : Int} (h : NoN l i l.length) : idxL l i = none := by
  unfold idxL
  rw [List.findIdx?_eq_none_iff]
  intro n hn
  obtain ⟨j, hj⟩ := List.mem_iff_getElem?.1 hn
  simpa using h j n (List.getElem?_eq_some_iff.1 hj).1 hj
theorem idxL_node {l : List NodeP} {i : Int} {k : Nat} (h : idxL l i = some k) : ∃ n, l[k]? = some n ∧ n.ino = i ∧ nodeL l i = some n ∧ k < l.length := by
  have h2 := h
  unfold idxL at h
  rw [List.findIdx?_eq_some_iff_getElem] at h
  obtain ⟨hk, h1, h3⟩ := h
  refine ⟨l[k], List.getElem?_eq_getElem hk, by simpa using h1, ?_, hk⟩
  unfold nodeL
  rw [List.find?_eq_some_iff_getElem]
  refine ⟨h1, k, hk, rfl, fun j hj => ?_⟩
  have := h3 j hj
  simpa using this
theorem idxL_none {l : List NodeP} {i : Int} (h : idxL l i = none) : nodeL l i = none := by
  unfold idxL at h
  rw [List.findIdx?_eq_none_iff] at h
  unfold nodeL
  rw [List.find?_eq_none]
  intro n hn
  simpa using h n hn
theorem idxI_some {l : List NodeP} {i : Int} {k : Nat} (h : idxL l i = some k) : idxI l i = (k : Int) := by unfold idxI; rw [h]
theorem idxI_none {l : List NodeP} {i : Int} (h : idxL l i = none) : idxI l i = -1 := by unfold idxI; rw [h]
theorem ret_int {a b : Int} (h : a = b) : Ending.returned (.int .i64 a) = Ending.returned (.int .i64 b) := by rw [h]

abbrev Nodes (w : World) (a : Option Addr) (ns : List NodeP) : Prop := RowAt NodeAt 8 w a ns
abbrev Ents (w : World) (a : Option Addr) (es : List EntP) : Prop := RowAt EntAt 2 w a es

/-- a node as a value -/
abbrev nv (n : NodeP) (va : Option Addr) (cv : Nat) : Value := .agg #[.int .i64 n.ino, .int .i64 n.kind, .int .i64 n.mode, .int .i64 n.uid, .int .i64 n.gid, .int .i64 n.parent, .string n.target, .slice va n.ents.length cv]
/-- its cells -/
abbrev nc (n : NodeP) (va : Option Addr) (cv : Nat) : Array Value := #[.int .i64 n.ino, .int .i64 n.kind, .int .i64 n.mode, .int .i64 n.uid, .int .i64 n.gid, .int .i64 n.parent, .string n.target, .slice va n.ents.length cv]

set_option maxRecDepth 100000 in
theorem indexClo_any (n : NodeP) (va : Option Addr) (cv : Nat) (c : Nat) (ino : Int) (w : World) (hc : w.cell? ⟨c, 0, none⟩ = some (.int .i64 ino)) :
    Calls Try.prog 83 #[.agg #[.int .i64 n.ino, .int .i64 n.kind, .int .i64 n.mode, .int .i64 n.uid, .int .i64 n.gid, .int .i64 n.parent, .string n.target, .slice va n.ents.length cv], .pointer (some ⟨c, 0, none⟩)] w fun e w' => e = .returned (.bool (decide (n.ino = ino))) ∧ Below w.heap.size w w' := by
  have hb : Below w.heap.size w (w.alloc (.cells #[.int .i64 n.ino, .int .i64 n.kind, .int .i64 n.mode, .int .i64 n.uid, .int .i64 n.gid, .int .i64 n.parent, .string n.target, .slice va n.ents.length cv] 43)) := (Below.refl _ _).alloc (Nat.le_refl _) _
  have hc1 := cell_stays hc hb
  have e1 : (n.ino == ino) = decide (n.ino = ino) := by rw [Bool.eq_iff_iff]; simp
  generalize decide (n.ino = ino) = D at *
  go_enter Try.func83, Try.ntmps83
  go_wp2_with fail
  go_ret
  exact ⟨rfl, hb⟩

set_option maxRecDepth 100000 in
set_option maxHeartbeats 4000000 in
theorem indexFunc_any (a : Option Addr) (cap : Nat) (ns : List NodeP) (c : Nat) (ino : Int) (w : World) (hN : Nodes w a ns) (hc : w.cell? ⟨c, 0, none⟩ = some (.int .i64 ino)) (hl : ns.length ≤ 9223372036854775807) :
    Calls Try.prog 82 #[.slice a ns.length cap, .func (.func 83) #[] #[.pointer (some ⟨c, 0, none⟩)]] w fun e w' => e = .returned (.int .i64 (idxI ns ino)) ∧ Below w.heap.size w w' := by
  have FIN : Hid (∀ (k : Nat) (n : NodeP), NoN ns ino k → ns[k]? = some n → n.ino = ino → (k : Int) = idxI ns ino) := Lib.hid (fun k n h hn hi => (idxI_some (h.hit hn hi)).symm)
  have FIN0 : Hid (NoN ns ino ns.length → (-1 : Int) = idxI ns ino) := Lib.hid (fun h => (idxI_none h.miss).symm)
  have HN := Lib.hid (fun W (h : Below w.heap.size w W) => RowAt.below NodeAt.stays hN h)
  have HC := Lib.hid (fun W (h : Below w.heap.size w W) => cell_stays hc h)
  clear hN hc
  go_enter Try.func82, Try.ntmps82
  go_wp2_with fail
  go_loopw [8] (fun i wr => ∃ k : Nat, k ≤ ns.length ∧ i = .int .i64 k ∧ Hid (NoN ns ino k) ∧ Below w.heap.size w wr) (fun i _ => ns.length - (intOf i).toNat)
  case atStart => exact ⟨0, Nat.zero_le _, rfl, Lib.hid (NoN.zero _ _), Below.refl _ _⟩
  case round =>
    obtain ⟨k, hk, rfl, HNo, hb⟩ := hrel
    by_cases hlt : k < ns.length
    · obtain ⟨b, o, rfl, hp⟩ := (HN.out _ hb).get hlt
      have HPK := Lib.hid (List.getElem?_eq_getElem hlt)
      obtain ⟨a0, a1, a2, a3, a4, a5, a6, va, cv, a7, -, -, -⟩ := hp
      generalize ns[k] = n at *
      have hkk : (k : Int) < (ns.length : Int) := by omega
      have CC := Lib.hid (indexClo_any n va cv c ino wr (HC.out _ hb))
      by_cases he : n.ino = ino
      · have HF := Lib.hid (FIN.out k n HNo.out HPK.out he)
        have e1 : decide (n.ino = ino) = true := by simpa using he
        rw [e1] at CC
        clear he e1
        go_wp2_with fail
        refine CC.out.mono ?_
        rintro e w' ⟨rfl, hb2⟩
        have hb3 := hb.trans (hb2.mono hb.size)
        go_wp2_with fail
        go_ret
        exact ⟨ret_int HF.out, hb3⟩
      · have HN2 := Lib.hid (HNo.out.succ HPK.out he)
        have e1 : decide (n.ino = ino) = false := by simpa using he
        rw [e1] at CC
        clear he e1
        go_wp2_with fail
        refine CC.out.mono ?_
        rintro e w' ⟨rfl, hb2⟩
        have hb3 := hb.trans (hb2.mono hb.size)
        go_wp2_with fail
        exact ⟨⟨k + 1, by omega, by go_num, HN2, hb3⟩, by simp [intOf]; omega⟩
    · have HF := Lib.hid (FIN0.out (by have : k = ns.length := by omega
                                       rw [← this]; exact HNo.out))
      go_wp2_with fail
      go_ret
      exact ⟨ret_int HF.out, hb⟩

set_option maxRecDepth 100000 in
theorem indexOf_any (a : Option Addr) (cap : Nat) (ns : List NodeP) (ino : Int) (w : World) (hN : Nodes w a ns) (hl : ns.length ≤ 9223372036854775807) :
    Calls Try.prog 64 #[.slice a ns.length cap, .int .i64 ino] w fun e w' => e = .returned (.int .i64 (idxI ns ino)) ∧ Below w.heap.size w w' := by
  have hb : Below w.heap.size w (w.alloc (.cells #[.int .i64 ino] 3)) := (Below.refl _ _).alloc (Nat.le_refl _) _
  have CF := Lib.hid (indexFunc_any a cap ns w.heap.size ino (w.alloc (.cells #[.int .i64 ino] 3)) (RowAt.below NodeAt.stays hN hb) (by simp) hl)
  clear hN
  go_enter Try.func64, Try.ntmps64
  go_wp2_with fail
  refine CF.out.mono ?_
  rintro e w' ⟨rfl, hb2⟩
  have hb3 := hb.trans (hb2.mono hb.size)
  go_wp2_with fail
  go_ret
  exact ⟨rfl, hb3⟩
end Go.Proofs.Ytafnbpkdenjipaa.fl
namespace Go.Proofs.Ytafnbpkdenjipaa.fl
open Go.RowKit Go.Proofs.Ytafnbpkdenjipaa.cm

/-- files with few parts -/
structure Sml (F : FilP) : Prop where
  len : F.length ≤ 1000
  nodes : ∀ d ∈ F, d.nodes.length ≤ 1000
  ents : ∀ d ∈ F, ∀ n ∈ d.nodes, n.ents.length ≤ 1000
theorem OKF.sml {F : FilP} (h : OKF F) : Sml F := ⟨by have := h.1; omega, fun d hd => by have := (h.2 d hd).pre.few; omega, fun d hd n hn => by have := ((h.2 d hd).pre.dir n hn).1; omega⟩

theorem FilesAt.dev {w : World} {a : Option Addr} {F : FilP} (h : FilesAt w a F) {k : Nat} {d : DevP} (hd : F[k]? = some d) : ∃ b o, a = some ⟨b, o, none⟩ ∧ DevAt w b (o + k * 2) d := by
  obtain ⟨hk, rfl⟩ := List.getElem?_eq_some_iff.1 hd
  exact RowAt.get h hk
theorem devF_idx {F : FilP} {k : Nat} : devF F (k : Int) = F[k]? := by unfold devF; simp
theorem devF_neg {F : FilP} {k : Int} (h : k < 0) : devF F k = none := by unfold devF; rw [if_neg (by omega)]
theorem devF_past {F : FilP} {k : Nat} (h : F.length ≤ k) : devF F (k : Int) = none := by rw [devF_idx]; exact List.getElem?_eq_none h

/-- p is where node k of device j lies -/
def NodePtr (w : World) (a : Option Addr) (j k : Nat) (p : Addr) : Prop :=
  ∃ b o b' o' n c, a = some ⟨b, o, none⟩ ∧ w.cell? ⟨b, o + j * 2 + 1, none⟩ = some (.slice (some ⟨b', o', none⟩) n c) ∧ p = ⟨b', o' + k * 8, none⟩
/-- what nodeAt answers -/
def NodeR (a : Option Addr) (F : FilP) (x : At) (w : World) (e : Ending) (w' : World) : Prop :=
  Below w.heap.size w w' ∧ ((nodeF F x = none ∧ e = .returned (.pointer none)) ∨
   ∃ (j k : Nat) (d : DevP) (n : NodeP) (b o : Nat), x.dev = (j : Int) ∧ F[j]? = some d ∧ idxL d.nodes x.ino = some k ∧ d.nodes[k]? = some n ∧ nodeF F x = some n ∧ e = .returned (.pointer (some ⟨b, o, none⟩)) ∧ NodePtr w a j k ⟨b, o, none⟩ ∧ NodeAt w b o n)

set_option maxRecDepth 100000 in
set_option maxHeartbeats 4000000 in
theorem nodeAt_any (a : Option Addr) (cap : Nat) (F : FilP) (x : At) (w : World) (hF : FilesAt w a F) (hS : Sml F) :
    Calls Try.prog 39 #[.agg #[.slice a F.length cap], .agg #[.int .i64 x.dev, .int .i64 x.ino]] w (NodeR a F x w) := by
  have hb1 : Below w.heap.size w (w.alloc (.cells #[.slice a F.length cap] 24)) := (Below.refl _ _).alloc (Nat.le_refl _) _
  have hb2 := hb1.alloc hb1.size (.cells #[.int .i64 x.dev, .int .i64 x.ino] 36)
  obtain ⟨dv, ino⟩ := x
  have hlen := hS.len
  by_cases h0 : dv < 0
  · have FIN : Hid (NodeR a F ⟨dv, ino⟩ w (.returned (.pointer none)) ((w.alloc (.cells #[.slice a F.length cap] 24)).alloc (.cells #[.int .i64 dv, .int .i64 ino] 36))) := Lib.hid ⟨hb2, .inl ⟨by unfold nodeF; rw [devF_neg h0]; rfl, rfl⟩⟩
    clear hF hS
    go_enter Try.func39, Try.ntmps39
    go_wp2_with fail
    go_ret
    exact FIN.out
  · obtain ⟨j, rfl⟩ := Int.eq_ofNat_of_zero_le (by omega : 0 ≤ dv)
    by_cases h1 : F.length ≤ j
    · have FIN : Hid (NodeR a F ⟨(j : Int), ino⟩ w (.returned (.pointer none)) ((w.alloc (.cells #[.slice a F.length cap] 24)).alloc (.cells #[.int .i64 (j : Int), .int .i64 ino] 36))) := Lib.hid ⟨hb2, .inl ⟨by unfold nodeF; rw [devF_past h1]; rfl, rfl⟩⟩
      have e1 : ((j : Int) ≥ (F.length : Int)) := by omega
      clear hF hS
      go_enter Try.func39, Try.ntmps39
      go_wp2_with fail
      go_ret
      exact FIN.out
    · have hj : j < F.length := by omega
      have hd : F[j]? = some F[j] := List.getElem?_eq_getElem hj
      have hm : F[j] ∈ F := List.getElem_mem hj
      have hnl := hS.nodes _ hm
      obtain ⟨b, o, rfl, hda⟩ := hF.dev hd
      generalize F[j] = d at *
      obtain ⟨c0, va, cv, c1, hcv, -, hns⟩ := hda
      have CI := Lib.hid (indexOf_any va cv d.nodes ino _ (RowAt.below NodeAt.stays hns hb2) (by omega))
      have hnF : nodeF F ⟨(j : Int), ino⟩ = nodeD d ino := by unfold nodeF; rw [show devF F (j : Int) = some d from devF_idx.trans hd]; rfl
      have hjj : (j : Int) < (F.length : Int) := by omega
      have hl1 : w.cell? ⟨b, o + j * 2 + 1, none⟩ = some (.slice va d.nodes.length cv) := c1
      have hl2 : ((w.alloc (.cells #[.slice (some ⟨b, o, none⟩) F.length cap] 24)).alloc (.cells #[.int .i64 (j : Int), .int .i64 ino] 36)).cell? ⟨b, o + j * 2 + 1, none⟩ = some (.slice va d.nodes.length cv) := cell_stays c1 hb2
      cases hi : idxL d.nodes ino with
      | none =>
        have FIN : Hid (∀ w', Below w.heap.size w w' → NodeR (some ⟨b, o, none⟩) F ⟨(j : Int), ino⟩ w (.returned (.pointer none)) w') := Lib.hid (fun w' hb => ⟨hb, .inl ⟨hnF.trans (idxL_none hi), rfl⟩⟩)
        rw [idxI_none hi] at CI
        clear hF hS hns hi hnF c0 c1 hd hm
        go_enter Try.func39, Try.ntmps39
        go_wp2_with fail
        refine CI.out.mono ?_
        rintro e w' ⟨rfl, hb3⟩
        have hb4 := hb2.trans (hb3.mono hb2.size)
        go_wp2_with fail
        go_ret
        exact FIN.out _ hb4
      | some k =>
        obtain ⟨n, hkn, hni, hnl2, hkl⟩ := idxL_node hi
        obtain ⟨b', o', rfl, hna⟩ := RowAt.get hns hkl
        have hkn' : d.nodes[k] = n := by rw [List.getElem?_eq_getElem hkl] at hkn; injection hkn
        rw [hkn'] at hna
        have FIN : Hid (∀ w', Below w.heap.size w w' → NodeR (some ⟨b, o, none⟩) F ⟨(j : Int), ino⟩ w (.returned (.pointer (some ⟨b', o' + k * 8, none⟩))) w') := Lib.hid (fun w' hb => ⟨hb, .inr ⟨j, k, d, n, b', o' + k * 8, rfl, hd, hi, hkn, hnF.trans hnl2, rfl, ⟨b, o, b', o', _, _, rfl, c1, rfl⟩, hna⟩⟩)
        rw [idxI_some hi] at CI
        have hkk : (k : Int) < (d.nodes.length : Int) := by omega
        clear hF hS hns hi hnF c0 c1 hd hm hna hkn hkn' hnl2
        go_enter Try.func39, Try.ntmps39
        go_wp2_with fail
        refine CI.out.mono ?_
        rintro e w' ⟨rfl, hb3⟩
        have hb4 := hb2.trans (hb3.mono hb2.size)
        go_wp2_with fail
        go_ret
        exact FIN.out _ hb4

set_option maxRecDepth 100000 in
set_option maxHeartbeats 4000000 in
theorem isDir_any (a : Option Addr) (cap : Nat) (F : FilP) (x : At) (w : World) (hF : FilesAt w a F) (hS : Sml F) :
    Calls Try.prog 66 #[.agg #[.slice a F.length cap], .agg #[.int .i64 x.dev, .int .i64 x.ino]] w fun e w' => e = .returned (.bool (dirF F x)) ∧ Below w.heap.size w w' := by
  have hb1 : Below w.heap.size w (w.alloc (.cells #[.slice a F.length cap] 24)) := (Below.refl _ _).alloc (Nat.le_refl _) _
  have hb2 := hb1.alloc hb1.size (.cells #[.int .i64 x.dev, .int .i64 x.ino] 36)
  have CN := Lib.hid (nodeAt_any a cap F x _ (hF.below hb2) hS)
  have HD := Lib.hid (show dirF F x = match nodeF F x with | some n => decide (n.kind = 2) | none => false from rfl)
  clear hF hS
  go_enter Try.func66, Try.ntmps66
  go_wp2_with fail
  refine CN.out.mono ?_
  rintro e w' ⟨hb3, ⟨h1, rfl⟩ | ⟨j, k, d, n, b, o, -, -, -, -, h1, rfl, -, hna⟩⟩
  · have hb4 := hb2.trans (hb3.mono hb2.size)
    have HR := Lib.hid (show dirF F x = false by rw [HD.out, h1])
    clear h1
    go_wp2_with fail
    go_ret
    exact ⟨ret_bool HR.out.symm, hb4⟩
  · have hb4 := hb2.trans (hb3.mono hb2.size)
    have hna := NodeAt.stays _ _ _ _ _ hna hb3
    have HR := Lib.hid (show dirF F x = decide (n.kind = 2) by rw [HD.out, h1])
    have e1 : (n.kind == 2) = decide (n.kind = 2) := by rw [Bool.eq_iff_iff]; simp
    generalize decide (n.kind = 2) = D at *
    have a1 := hna.c1
    clear h1 hna
    go_wp2_with fail
    go_ret
    exact ⟨ret_bool HR.out.symm, hb4⟩
end Go.Proofs.Ytafnbpkdenjipaa.fl
namespace Go.Proofs.Ytafnbpkdenjipaa.fl
open Go.RowKit Go.Proofs.Ytafnbpkdenjipaa.cm

theorem less_lt : ∀ a b : List UInt8, Op.bytesLess a b = decide (a < b)
  | [], [] => rfl
  | [], _ :: _ => rfl
  | _ :: _, [] => rfl
  | x :: a, y :: b => by
    unfold Op.bytesLess
    rw [less_lt a b]
    rw [Bool.eq_iff_iff]
    simp [List.cons_lt_cons_iff]
theorem less_name (a b : ByteArray) : Op.bytesLess a.toList b.toList = decide (lt a b) := by
  rw [ByteArray.toList_eq, ByteArray.toList_eq, less_lt]; rfl

/-- how names compare -/
def cmpB (a b : ByteArray) : Int := if lt a b then -1 else if lt b a then 1 else 0

set_option maxRecDepth 100000 in
theorem isNaN_any (s : ByteArray) (w : World) : Calls Try.prog 94 #[.string s] w fun e w' => e = .returned (.bool false) ∧ w' = w := by
  have e1 : (s.toList == s.toList) = true := by simp
  go_enter Try.func94, Try.ntmps94
  go_wp2_with fail
  go_ret
  exact ⟨rfl, rfl⟩

set_option maxRecDepth 100000 in
theorem compare_any (a b : ByteArray) (w : World) : Calls Try.prog 86 #[.string a, .string b] w fun e w' => e = .returned (.int .i64 (cmpB a b)) ∧ w' = w := by
  have CN := Lib.hid (fun s => isNaN_any s w)
  have e1 := less_name a b
  have e2 := less_name b a
  by_cases h1 : lt a b
  · have HR := Lib.hid (show cmpB a b = -1 from if_pos h1)
    rw [decide_eq_true h1] at e1
    clear h1 e2
    go_enter Try.func86, Try.ntmps86
    go_wp2_with fail
    refine (CN.out a).mono ?_
    rintro e w' ⟨rfl, rfl⟩
    go_wp2_with fail
    refine (CN.out b).mono ?_
    rintro e w' ⟨rfl, rfl⟩
    go_wp2_with fail
    go_ret
    exact ⟨ret_int HR.out.symm, rfl⟩
  · by_cases h2 : lt b a
    · have HR := Lib.hid (show cmpB a b = 1 by unfold cmpB; rw [if_neg h1, if_pos h2])
      rw [decide_eq_false h1] at e1
      have e3 : (a.toList == b.toList) = false := by
        rw [ByteArray.toList_eq, ByteArray.toList_eq, beq_eq_false_iff_ne]
        exact fun e => ne_of_lt h2 (bytes_ext e).symm
      clear h1 h2 e2
      go_enter Try.func86, Try.ntmps86
      go_wp2_with fail
      refine (CN.out a).mono ?_
      rintro e w' ⟨rfl, rfl⟩
      go_wp2_with fail
      refine (CN.out b).mono ?_
      rintro e w' ⟨rfl, rfl⟩
      go_wp2_with fail
      go_ret
      exact ⟨ret_int HR.out.symm, rfl⟩
    · have HR := Lib.hid (show cmpB a b = 0 by unfold cmpB; rw [if_neg h1, if_neg h2])
      rw [decide_eq_false h1] at e1
      have e3 : (a.toList == b.toList) = true := by
        rw [ByteArray.toList_eq, ByteArray.toList_eq, beq_iff_eq]
        by_cases e : a = b
        · rw [e]
        · rcases lt_total a b e with x | x
          · exact (h1 x).elim
          · exact (h2 x).elim
      clear h1 h2 e2
      go_enter Try.func86, Try.ntmps86
      go_wp2_with fail
      refine (CN.out a).mono ?_
      rintro e w' ⟨rfl, rfl⟩
      go_wp2_with fail
      refine (CN.out b).mono ?_
      rintro e w' ⟨rfl, rfl⟩
      go_wp2_with fail
      go_ret
      exact ⟨ret_int HR.out.symm, rfl⟩

set_option maxRecDepth 100000 in
theorem entryClo_any (x : EntP) (s : ByteArray) (w : World) : Calls Try.prog 85 #[.agg #[.string x.name, .int .i64 x.ino], .string s] w fun e w' => e = .returned (.int .i64 (cmpB x.name s)) ∧ Below w.heap.size w w' := by
  have CN := Lib.hid (fun w => compare_any x.name s w)
  have hb : Below w.heap.size w (w.alloc (.cells #[.string x.name, .int .i64 x.ino] 87)) := (Below.refl _ _).alloc (Nat.le_refl _) _
  generalize cmpB x.name s = r at *
  go_enter Try.func85, Try.ntmps85
  go_wp2_with fail
  refine (CN.out _).mono ?_
  rintro e w' ⟨rfl, rfl⟩
  go_wp2_with fail
  go_ret
  exact ⟨rfl, hb⟩

/-- where an entry with a name stands, or would stand -/
def posE (l : List EntP) (s : ByteArray) : Nat := l.countP fun e => decide (lt e.name s)
/-- whether it is there -/
def hasE (l : List EntP) (s : ByteArray) : Bool := (findE l s).isSome
/-- all before k are less -/
def LessTo (l : List EntP) (s : ByteArray) (k : Nat) : Prop := ∀ (j : Nat) e, j < k → l[j]? = some e → lt e.name s
/-- none from k on is less -/
def MoreFrom (l : List EntP) (s : ByteArray) (k : Nat) : Prop := ∀ (j : Nat) e, k ≤ j → l[j]? = some e → ¬ lt e.name s
theorem sort_at {l : List EntP} (h : SortE l) {i j : Nat} {x y : EntP} (hij : i < j) (hx : l[i]? = some x) (hy : l[j]? = some y) : lt x.name y.name := by
  obtain ⟨h1, rfl⟩ := List.getElem?_eq_some_iff.1 hx
  obtain ⟨h2, rfl⟩ := List.getElem?_eq_some_iff.1 hy
  exact List.pairwise_iff_getElem.1 h i j h1 h2 hij
theorem LessTo.up {l : List EntP} (h : SortE l) {s : ByteArray} {k : Nat} {x : EntP} (hx : l[k]? = some x) (hl : lt x.name s) : LessTo l s (k + 1) := fun j e hj he => by
  by_cases hk : j = k
  · subst hk; rw [hx] at he; injection he with he; rw [← he]; exact hl
  · exact lt_trans (sort_at h (by omega) he hx) hl
theorem MoreFrom.down {l : List EntP} (h : SortE l) {s : ByteArray} {k : Nat} {x : EntP} (hx : l[k]? = some x) (hl : ¬ lt x.name s) : MoreFrom l s k := fun j e hj he => by
  by_cases hk : j = k
  · subst hk; rw [hx] at he; injection he with he; rw [← he]; exact hl
  · exact fun h2 => hl (lt_trans (sort_at h (by omega) hx he) h2)
theorem pos_eq {l : List EntP} {s : ByteArray} {k : Nat} (hk : k ≤ l.length) (h1 : LessTo l s k) (h2 : MoreFrom l s k) : posE l s = k := by
  unfold posE
  have e : l = l.take k ++ l.drop k := (List.take_append_drop k l).symm
  rw [e, List.countP_append]
  have a1 : (l.take k).countP (fun e => decide (lt e.name s)) = (l.take k).length := by
    rw [List.countP_eq_length]
    intro x hx
    obtain ⟨j, hj⟩ := List.mem_iff_getElem?.1 hx
    rw [List.getElem?_take] at hj
    split at hj
    · exact decide_eq_true (h1 j x (by assumption) hj)
    · cases hj
  have a2 : (l.drop k).countP (fun e => decide (lt e.name s)) = 0 := by
    rw [List.countP_eq_zero]
    intro x hx
    obtain ⟨j, hj⟩ := List.mem_iff_getElem?.1 hx
    rw [List.getElem?_drop] at hj
    simpa using h2 (k + j) x (by omega) hj
  rw [a1, a2, List.length_take]
  omega
theorem pos_le (l : List EntP) (s : ByteArray) : posE l s ≤ l.length := List.countP_le_length
theorem pos_less {l : List EntP} (h : SortE l) (s : ByteArray) : LessTo l s (posE l s) ∧ MoreFrom l s (posE l s) := by
  induction l with
  | nil => exact ⟨fun j e hj he => by simp at he, fun j e hj he => by simp at he⟩
  | cons x l ih =>
    have hs' := List.pairwise_cons.1 h
    by_cases hx : lt x.name s
    · have e : posE (x :: l) s = posE l s + 1 := by unfold posE; rw [List.countP_cons_of_pos (by simpa using hx)]
      obtain ⟨i1, i2⟩ := ih hs'.2
      rw [e]
      refine ⟨fun j y hj hy => ?_, fun j y hj hy => ?_⟩
      · cases j with
        | zero => simp at hy; rw [← hy]; exact hx
        | succ j => exact i1 j y (by omega) (by simpa using hy)
      · cases j with
        | zero => omega
        | succ j => exact i2 j y (by omega) (by simpa using hy)
    · have e : posE (x :: l) s = 0 := by
        unfold posE
        rw [List.countP_eq_zero]
        intro y hy
        rcases List.mem_cons.1 hy with hy | hy
        · rw [hy]; simpa using hx
        · simpa using fun h2 => hx (lt_trans (hs'.1 _ hy) h2)
      rw [e]
      exact ⟨fun j y hj => absurd hj (Nat.not_lt_zero _), MoreFrom.down (l := x :: l) h (k := 0) rfl hx⟩
/-- what stands there -/
theorem pos_at {l : List EntP} (h : SortE l) {s : ByteArray} {x : EntP} (hx : l[posE l s]? = some x) : (x.name = s → findE l s = some x.ino) ∧ (x.name ≠ s → findE l s = none) := by
  obtain ⟨h1, h2⟩ := pos_less h s
  refine ⟨fun e => (find_some h).2 ?_, fun e => find_none.2 fun y hy hy2 => ?_⟩
  · have := List.mem_of_getElem? hx
    cases x; cases e; exact this
  · obtain ⟨j, hj⟩ := List.mem_iff_getElem?.1 hy
    by_cases c1 : j < posE l s
    · exact lt_irrefl s (hy2 ▸ h1 j y c1 hj)
    · by_cases c2 : j = posE l s
      · rw [c2, hx] at hj; injection hj with hj; exact e (hj ▸ hy2)
      · exact h2 _ x (Nat.le_refl _) hx (hy2 ▸ sort_at h (by omega) hx hj)
theorem pos_end {l : List EntP} (h : SortE l) {s : ByteArray} (hx : posE l s = l.length) : findE l s = none := find_none.2 fun y hy hy2 => by
  obtain ⟨j, hj⟩ := List.mem_iff_getElem?.1 hy
  have := (pos_less h s).1 j y (by rw [hx]; exact (List.getElem?_eq_some_iff.1 hj).1) hj
  exact lt_irrefl s (hy2 ▸ this)
theorem cmp_lt {a b : ByteArray} : (cmpB a b < 0) ↔ lt a b := by
  unfold cmpB
  split
  · rename_i h; exact ⟨fun _ => h, fun _ => by decide⟩
  · rename_i h
    split
    · exact ⟨fun x => absurd x (by decide), fun x => (h x).elim⟩
    · exact ⟨fun x => absurd x (by decide), fun x => (h x).elim⟩
theorem cmp_eq {a b : ByteArray} : (cmpB a b = 0) ↔ a = b := by
  unfold cmpB
  split
  · rename_i h; exact ⟨fun x => absurd x (by decide), fun x => (ne_of_lt h x).elim⟩
  · rename_i h
    split
    · rename_i k; exact ⟨fun x => absurd x (by decide), fun x => (ne_of_lt k x.symm).elim⟩
    · rename_i k
      refine ⟨fun _ => ?_, fun _ => rfl⟩
      by_cases e : a = b
      · exact e
      · rcases lt_total a b e with x | x
        · exact (h x).elim
        · exact (k x).elim
set_option maxRecDepth 100000 in
set_option maxHeartbeats 4000000 in
theorem search_any (a : Option Addr) (cap : Nat) (es : List EntP) (s : ByteArray) (w : World) (hE : Ents w a es) (hl : es.length ≤ 1000) (hs : SortE es) :
    Calls Try.prog 84 #[.slice a es.length cap, .string s, .func (.func 85) #[] #[]] w fun e w' => e = .returned (.tuple #[.int .i64 (posE es s), .bool (hasE es s)]) ∧ Below w.heap.size w w' := by
  have HS := Lib.hid hs
  have HN := Lib.hid (fun W (h : Below w.heap.size w W) => RowAt.below EntAt.stays hE h)
  clear hE hs
  go_enter Try.func84, Try.ntmps84
  go_wp2_with fail
  go_loopw [9, 10] (fun i j wr => ∃ l h : Nat, l ≤ h ∧ h ≤ es.length ∧ i = .int .i64 l ∧ j = .int .i64 h ∧ Hid (LessTo es s l) ∧ Hid (MoreFrom es s h) ∧ Below w.heap.size w wr) (fun i j _ => (intOf j).toNat - (intOf i).toNat)
  case atStart => exact ⟨0, es.length, Nat.zero_le _, Nat.le_refl _, rfl, rfl, Lib.hid (fun _ _ h => absurd h (Nat.not_lt_zero _)), Lib.hid (fun j e hj he => absurd (List.getElem?_eq_some_iff.1 he).1 (by omega)), Below.refl _ _⟩
  case round =>
    obtain ⟨l, h, hlh, hh, rfl, rfl, HL, HM, hb⟩ := hrel
    by_cases hlt : l < h
    · have hmid : (l + h) / 2 < es.length := by omega
      have hlt' : (l : Int) < (h : Int) := by omega
      obtain ⟨b, o, rfl, hp⟩ := (HN.out _ hb).get hmid
      have HPK := Lib.hid (List.getElem?_eq_getElem hmid)
      generalize es[(l + h) / 2] = x at *
      obtain ⟨a0, a1⟩ := hp
      have CC := Lib.hid (entryClo_any x s wr)
      by_cases hc : lt x.name s
      · have hc1 : cmpB x.name s < 0 := cmp_lt.2 hc
        have HL2 := Lib.hid (LessTo.up HS.out HPK.out hc)
        clear hc
        generalize cmpB x.name s = r at *
        go_wp2_with fail
        refine CC.out.mono ?_
        rintro e w' ⟨rfl, hb2⟩
        have hb3 := hb.trans (hb2.mono hb.size)
        go_wp2_with fail
        exact ⟨⟨(l + h) / 2 + 1, h, by omega, hh, by go_num, rfl, HL2, HM, hb3⟩, by simp [intOf]; omega⟩
      · have hc1 : ¬ cmpB x.name s < 0 := fun k => hc (cmp_lt.1 k)
        have HM2 := Lib.hid (MoreFrom.down HS.out HPK.out hc)
        clear hc
        generalize cmpB x.name s = r at *
        go_wp2_with fail
        refine CC.out.mono ?_
        rintro e w' ⟨rfl, hb2⟩
        have hb3 := hb.trans (hb2.mono hb.size)
        go_wp2_with fail
        exact ⟨⟨l, (l + h) / 2, by omega, by omega, rfl, by go_num, HL, HM2, hb3⟩, by simp [intOf]; omega⟩
    · obtain rfl : l = h := by omega
      have hpos : posE es s = l := pos_eq hh HL.out HM.out
      by_cases hlt2 : l < es.length
      · have hlt' : (l : Int) < (es.length : Int) := by omega
        obtain ⟨b, o, rfl, hp⟩ := (HN.out _ hb).get hlt2
        have hx : es[posE es s]? = some es[l] := by rw [hpos]; exact List.getElem?_eq_getElem hlt2
        have hat := pos_at HS.out hx
        generalize es[l] = x at *
        obtain ⟨a0, a1⟩ := hp
        have CC := Lib.hid (entryClo_any x s wr)
        have HF : Hid (posE es s = l ∧ hasE es s = decide (cmpB x.name s = 0)) := Lib.hid ⟨hpos, by
          unfold hasE
          by_cases hc : x.name = s
          · rw [hat.1 hc, decide_eq_true (cmp_eq.2 hc)]; rfl
          · rw [hat.2 hc, decide_eq_false (fun k => hc (cmp_eq.1 k))]; rfl⟩
        have e1 : (cmpB x.name s == 0) = decide (cmpB x.name s = 0) := by rw [Bool.eq_iff_iff]; simp
        generalize decide (cmpB x.name s = 0) = D at *
        clear hx hat hpos
        generalize cmpB x.name s = r at *
        go_wp2_with fail
        refine CC.out.mono ?_
        rintro e w' ⟨rfl, hb2⟩
        have hb3 := hb.trans (hb2.mono hb.size)
        go_wp2_with fail
        go_ret2
        exact ⟨by rw [HF.out.1, HF.out.2]; rfl, hb3⟩
      · have hlt' : ¬ (l : Int) < (es.length : Int) := by omega
        have HF : Hid (posE es s = l ∧ hasE es s = false) := Lib.hid ⟨hpos, by
          unfold hasE
          rw [pos_end HS.out (by omega)]; rfl⟩
        clear hpos
        go_wp2_with fail
        go_ret2
        exact ⟨by rw [HF.out.1, HF.out.2]; rfl, hb⟩

set_option maxRecDepth 100000 in
theorem entryOf_any (a : Option Addr) (cap : Nat) (es : List EntP) (s : ByteArray) (w : World) (hE : Ents w a es) (hl : es.length ≤ 1000) (hs : SortE es) :
    Calls Try.prog 67 #[.slice a es.length cap, .string s] w fun e w' => e = .returned (.tuple #[.int .i64 (posE es s), .bool (hasE es s)]) ∧ Below w.heap.size w w' := by
  have CS := Lib.hid (search_any a cap es s w hE hl hs)
  clear hE hs
  generalize posE es s = r at *
  generalize hasE es s = h at *
  go_enter Try.func67, Try.ntmps67
  go_wp2_with fail
  refine CS.out.mono ?_
  rintro e w' ⟨rfl, hb2⟩
  go_wp2_with fail
  go_ret2
  exact ⟨rfl, hb2⟩
end Go.Proofs.Ytafnbpkdenjipaa.fl
namespace Go.Proofs.Ytafnbpkdenjipaa.fl
open Go.RowKit Go.Proofs.Ytafnbpkdenjipaa.cm

/-- a block that is known whole -/
def Blk (w : World) (B : Nat) (cs : List Value) : Prop := ∃ t, w.heap[B]? = some (.cells cs.toArray t (0, 0))
section
variable {w w' : World} {B : Nat} {cs : List Value}
theorem Blk.lt (h : Blk w B cs) : B < w.heap.size := by obtain ⟨t, h⟩ := h; exact (Array.getElem?_eq_some_iff.1 h).1
theorem Blk.cell (h : Blk w B cs) (j : Nat) (v : Value) (hv : cs[j]? = some v) : w.cell? ⟨B, j, none⟩ = some v := by
  obtain ⟨t, h⟩ := h
  simp [World.cell?, h, hv]
theorem Blk.fr (h : Blk w B cs) (j : Nat) : w.frozen? ⟨B, j, none⟩ = false := by
  obtain ⟨t, h⟩ := h
  simp [World.frozen?, h]
theorem Blk.keep (h : Blk w B cs) (hk : w'.heap[B]? = w.heap[B]?) : Blk w' B cs := by obtain ⟨t, h⟩ := h; exact ⟨t, hk.trans h⟩
theorem Blk.below {N : Nat} (h : Blk w B cs) (hb : Below N w w') (hN : B < N) : Blk w' B cs := h.keep (hb.block B hN)
theorem Blk.stay (h : Blk w B cs) (hb : Below w.heap.size w w') : Blk w' B cs := h.below hb h.lt
theorem Blk.alloc (h : Blk w B cs) (o : Obj) : Blk (w.alloc o) B cs := h.stay ((Below.refl _ _).alloc (Nat.le_refl _) _)
theorem Blk.drew (h : Blk w B cs) : Blk w.drew B cs := h
theorem Blk.new (w : World) (cs : List Value) (t : Nat) : Blk (w.alloc (.cells cs.toArray t)) w.heap.size cs := ⟨t, by
  show (w.heap.push (.cells cs.toArray t))[w.heap.size]? = _
  simp⟩
theorem Blk.new1 (w : World) (cs : List Value) (t n : Nat) (hn : w.heap.size = n) : Blk (w.alloc (.cells cs.toArray t)) n cs := by subst hn; exact Blk.new w cs t
theorem Blk.set (h : Blk w B cs) (j : Nat) (v : Value) : Blk (w.setCell ⟨B, j, none⟩ v) B (cs.set j v) := by
  obtain ⟨t, h⟩ := h
  obtain ⟨hlt, hk⟩ := Array.getElem?_eq_some_iff.1 h
  refine ⟨t, ?_⟩
  show (w.heap.modify B _)[B]? = _
  rw [Array.getElem?_eq_getElem (by rw [Array.size_modify]; exact hlt), Array.getElem_modify_self, hk]
  simp
theorem Blk.other (h : Blk w B cs) {C : Nat} (hne : B ≠ C) (j : Nat) (v : Value) : Blk (w.setCell ⟨C, j, none⟩ v) B cs := h.keep (Below.heap_setCell w ⟨C, j, none⟩ v B hne)
theorem Blk.c1 {a : Value} (h : Blk w B [a]) : w.cell? ⟨B, 0, none⟩ = some a ∧ w.frozen? ⟨B, 0, none⟩ = false := ⟨h.cell 0 a rfl, h.fr 0⟩
theorem Blk.c2 {a b : Value} (h : Blk w B [a, b]) : w.cell? ⟨B, 0, none⟩ = some a ∧ w.cell? ⟨B, 1, none⟩ = some b ∧ w.frozen? ⟨B, 0, none⟩ = false ∧ w.frozen? ⟨B, 1, none⟩ = false := ⟨h.cell 0 a rfl, h.cell 1 b rfl, h.fr 0, h.fr 1⟩
theorem Blk.c3 {a b c : Value} (h : Blk w B [a, b, c]) : w.cell? ⟨B, 0, none⟩ = some a ∧ w.cell? ⟨B, 1, none⟩ = some b ∧ w.cell? ⟨B, 2, none⟩ = some c ∧ w.frozen? ⟨B, 0, none⟩ = false ∧ w.frozen? ⟨B, 1, none⟩ = false ∧ w.frozen? ⟨B, 2, none⟩ = false := ⟨h.cell 0 a rfl, h.cell 1 b rfl, h.cell 2 c rfl, h.fr 0, h.fr 1, h.fr 2⟩
theorem Blk.c7 {a b c d e f g : Value} (h : Blk w B [a, b, c, d, e, f, g]) : (w.cell? ⟨B, 0, none⟩ = some a ∧ w.cell? ⟨B, 1, none⟩ = some b ∧ w.cell? ⟨B, 2, none⟩ = some c ∧ w.cell? ⟨B, 3, none⟩ = some d ∧ w.cell? ⟨B, 4, none⟩ = some e ∧ w.cell? ⟨B, 5, none⟩ = some f ∧ w.cell? ⟨B, 6, none⟩ = some g) ∧ w.frozen? ⟨B, 0, none⟩ = false ∧ w.frozen? ⟨B, 1, none⟩ = false ∧ w.frozen? ⟨B, 2, none⟩ = false ∧ w.frozen? ⟨B, 3, none⟩ = false ∧ w.frozen? ⟨B, 4, none⟩ = false ∧ w.frozen? ⟨B, 5, none⟩ = false ∧ w.frozen? ⟨B, 6, none⟩ = false :=
  ⟨⟨h.cell 0 a rfl, h.cell 1 b rfl, h.cell 2 c rfl, h.cell 3 d rfl, h.cell 4 e rfl, h.cell 5 f rfl, h.cell 6 g rfl⟩, h.fr 0, h.fr 1, h.fr 2, h.fr 3, h.fr 4, h.fr 5, h.fr 6⟩
theorem Blk.c8 {a b c d e f g i : Value} (h : Blk w B [a, b, c, d, e, f, g, i]) : (w.cell? ⟨B, 0, none⟩ = some a ∧ w.cell? ⟨B, 1, none⟩ = some b ∧ w.cell? ⟨B, 2, none⟩ = some c ∧ w.cell? ⟨B, 3, none⟩ = some d ∧ w.cell? ⟨B, 4, none⟩ = some e ∧ w.cell? ⟨B, 5, none⟩ = some f ∧ w.cell? ⟨B, 6, none⟩ = some g ∧ w.cell? ⟨B, 7, none⟩ = some i) ∧ w.frozen? ⟨B, 0, none⟩ = false ∧ w.frozen? ⟨B, 1, none⟩ = false ∧ w.frozen? ⟨B, 2, none⟩ = false ∧ w.frozen? ⟨B, 3, none⟩ = false ∧ w.frozen? ⟨B, 4, none⟩ = false ∧ w.frozen? ⟨B, 5, none⟩ = false ∧ w.frozen? ⟨B, 6, none⟩ = false ∧ w.frozen? ⟨B, 7, none⟩ = false :=
  ⟨⟨h.cell 0 a rfl, h.cell 1 b rfl, h.cell 2 c rfl, h.cell 3 d rfl, h.cell 4 e rfl, h.cell 5 f rfl, h.cell 6 g rfl, h.cell 7 i rfl⟩, h.fr 0, h.fr 1, h.fr 2, h.fr 3, h.fr 4, h.fr 5, h.fr 6, h.fr 7⟩
end
theorem below_set {B N : Nat} {a w : World} (h : Below B a w) (hp : B ≤ N) (j : Nat) (u : Value) : Below B a (w.setCell ⟨N, j, none⟩ u) := h.setCell (p := ⟨N, j, none⟩) hp u
theorem size_alloc (w : World) (o : Obj) : (w.alloc o).heap.size = w.heap.size + 1 := by simp
theorem size_set (w : World) (p : Addr) (v : Value) : (w.setCell p v).heap.size = w.heap.size := by simp [World.setCell]
end Go.Proofs.Ytafnbpkdenjipaa.fl
namespace Go.Proofs.Ytafnbpkdenjipaa.fl
open Go.RowKit Go.Proofs.Ytafnbpkdenjipaa.cm

/-- what leadsTo answers -/
def leadV (o : Option At) : Value := match o with
  | some x => .tuple #[.agg #[.int .i64 x.dev, .int .i64 x.ino], .bool true]
  | none => .tuple #[.agg #[.int .i64 0, .int .i64 0], .bool false]
theorem atF_none {F : FilP} {x : At} {s : ByteArray} (h : nodeF F x = none) : atF F x s = none := by
  unfold atF atD
  unfold nodeF at h
  cases hd : devF F x.dev with
  | none => rfl
  | some d => rw [hd] at h; simp only [Option.bind_some] at h ⊢; rw [h]; rfl
theorem atF_some {F : FilP} {x : At} {s : ByteArray} {n : NodeP} (h : nodeF F x = some n) : atF F x s = (findE n.ents s).map fun i => ⟨x.dev, i⟩ := by
  obtain ⟨d, hd, hn⟩ := nodeF_of h
  unfold atF atD
  rw [hd]; simp only [Option.bind_some]; rw [hn]; rfl
theorem hasE_find {l : List EntP} {s : ByteArray} : hasE l s = (findE l s).isSome := rfl
/-- the entries of every directory are in order -/
def SrtF (F : FilP) : Prop := ∀ d ∈ F, ∀ n ∈ d.nodes, SortE n.ents
theorem OKF.srt {F : FilP} (h : OKF F) : SrtF F := fun d hd n hn => ((h.2 d hd).pre.dir n hn).2.1
theorem pos_find {l : List EntP} (h : SortE l) {s : ByteArray} {i : Int} (hf : findE l s = some i) : ∃ e, l[posE l s]? = some e ∧ e.name = s ∧ e.ino = i ∧ posE l s < l.length := by
  by_cases c : posE l s < l.length
  · have hx : l[posE l s]? = some l[posE l s] := List.getElem?_eq_getElem c
    obtain ⟨h1, h2⟩ := pos_at h hx
    by_cases e : (l[posE l s]).name = s
    · have := h1 e
      rw [hf] at this
      injection this with this
      exact ⟨_, hx, e, this.symm, c⟩
    · rw [h2 e] at hf; cases hf
  · rw [pos_end h (by have := pos_le l s; omega)] at hf; cases hf

set_option maxRecDepth 100000 in
set_option maxHeartbeats 400000 in
theorem leadsTo_any (a : Option Addr) (cap : Nat) (F : FilP) (x : At) (s : ByteArray) (w : World) (hF : FilesAt w a F) (hS : Sml F) (hO : SrtF F) :
    Calls Try.prog 43 #[.agg #[.slice a F.length cap], .agg #[.int .i64 x.dev, .int .i64 x.ino, .string s]] w fun e w' => e = .returned (leadV (atF F x s)) ∧ Below w.heap.size w w' := by
  have hb1 : Below w.heap.size w (w.alloc (.cells #[.slice a F.length cap] 24)) := (Below.refl _ _).alloc (Nat.le_refl _) _
  have hb2 := hb1.alloc hb1.size (.cells #[.int .i64 x.dev, .int .i64 x.ino, .string s] 82)
  have hb3 := hb2.alloc hb2.size (.cells #[.int .i64 0, .int .i64 0] 36)
  have bP := (Blk.new1 (w.alloc (.cells #[.slice a F.length cap] 24)) [.int .i64 x.dev, .int .i64 x.ino, .string s] 82 (w.heap.size + 1) (size_alloc _ _)).alloc (.cells #[.int .i64 0, .int .i64 0] 36)
  have bR := Blk.new1 ((w.alloc (.cells #[.slice a F.length cap] 24)).alloc (.cells #[.int .i64 x.dev, .int .i64 x.ino, .string s] 82)) [.int .i64 0, .int .i64 0] 36 (w.heap.size + 1 + 1) (by rw [size_alloc, size_alloc])
  have CN := Lib.hid (nodeAt_any a cap F x _ (hF.below hb3) hS)
  have HN := Lib.hid (fun h => atF_none (F := F) (x := x) (s := s) h)
  have HM := Lib.hid (fun n h => atF_some (F := F) (x := x) (s := s) (n := n) h)
  clear hF
  go_enter Try.func43, Try.ntmps43
  go_wp2_with fail
  refine CN.out.mono ?_
  rintro e w' ⟨hb4, ⟨h1, rfl⟩ | ⟨j, k, d, n, b, o, -, hd, -, hkn, h1, rfl, -, hna⟩⟩
  · have hb5 := hb3.trans (hb4.mono hb3.size)
    have HR := Lib.hid (HN.out h1)
    have q := bR.stay hb4
    have qs := (q.set 0 (.int .i64 0)).set 1 (.int .i64 0)
    have hb6 := below_set (below_set hb5 (N := w.heap.size + 1 + 1) (by omega) 0 (.int .i64 0)) (N := w.heap.size + 1 + 1) (by omega) 1 (.int .i64 0)
    obtain ⟨c0, c1, f0, f1⟩ := q.c2
    obtain ⟨d0, d1, -, -⟩ := qs.c2
    clear h1 hb1 hb2 hb3 hb4
    go_wp2_with fail
    exact bodyPost_ret (v := .tuple #[.agg #[.int .i64 0, .int .i64 0], .bool false]) (by simp [results, Try.f43, go_sem, d0, d1]) rfl ⟨by rw [HR.out]; rfl, hb6⟩
  · have hm : d ∈ F := List.mem_of_getElem? hd
    have hmn : n ∈ d.nodes := List.mem_of_getElem? hkn
    have hso := hO d hm n hmn
    have hsm := hS.ents d hm n hmn
    have hb5 := hb3.trans (hb4.mono hb3.size)
    have hna' := NodeAt.stays _ _ _ _ _ hna hb4
    obtain ⟨a0, a1, a2, a3, a4, a5, a6, va, cv, a7, hcv, -, hes⟩ := hna'
    have q := bR.stay hb4
    have p := bP.stay hb4
    have HE := Lib.hid (fun W (h : Below w'.heap.size w' W) => (hes.below EntAt.stays h))
    have CE := Lib.hid (fun W (h : Below w'.heap.size w' W) => entryOf_any va cv n.ents s W (hes.below EntAt.stays h) hsm hso)
    have HR := Lib.hid (HM.out n h1)
    have HSO := Lib.hid hso
    clear h1 hna hes hso hb1 hb2 hb3 hb4 a0 a1 a2 a3 a4 a5 a6
    have hb0 := (Below.refl w'.heap.size w').drew
    have p2 := p.cell 2 _ rfl
    have hbn : b < w'.heap.size := World.block_lt_of_cell? w' ⟨b, o + 7, none⟩ a7
    have hpn : w.heap.size + 1 < w'.heap.size := p.lt
    cases hh : hasE n.ents s with
    | false =>
      rw [hh] at CE
      have HF0 : Hid (atF F x s = none) := Lib.hid (by
        rw [HR.out]
        unfold hasE at hh
        cases hf : findE n.ents s with
        | none => rfl
        | some i => rw [hf] at hh; cases hh)
      have K7 := Lib.hid (fun W (h : Below w'.heap.size w' W) => cell_stays a7 h)
      clear hh HR
      generalize posE n.ents s = ps at *
      go_wp2_with fail
      go_region_held3 (fun W => W.cell? ⟨w.heap.size + 1, 2, none⟩ = some (.string s) ∧ W.cell? ⟨b, o + 7, none⟩ = some (.slice va n.ents.length cv))
        (first
          | go_keep
          | (with_reducible exact ⟨(hbE.cell (p := ⟨w.heap.size + 1, 2, none⟩) hpn).trans p2, (hbE.cell (p := ⟨b, o + 7, none⟩) hbn).trans a7⟩))
        ((go_at_call 67; (with_reducible refine (CE.out _ hb0).mono ?_); rintro e wE ⟨rfl, hbE0⟩; have hbE : Below w'.heap.size w' wE := hb0.trans hbE0))
      have hb6 := hb5.trans (hbE.mono hb5.size)
      have q2 := q.stay hbE
      have qs := (q2.set 0 (.int .i64 0)).set 1 (.int .i64 0)
      have hb7 := below_set (below_set hb6 (N := w.heap.size + 1 + 1) (by omega) 0 (.int .i64 0)) (N := w.heap.size + 1 + 1) (by omega) 1 (.int .i64 0)
      obtain ⟨c0, c1, f0, f1⟩ := q2.c2
      obtain ⟨d0, d1, -, -⟩ := qs.c2
      clear hb5 hb0 q p
      go_wp2_with fail
      exact bodyPost_ret (v := .tuple #[.agg #[.int .i64 0, .int .i64 0], .bool false]) (by simp [results, Try.f43, go_sem, d0, d1]) rfl ⟨by rw [HF0.out]; rfl, hb7⟩
    | true =>
      rw [hh] at CE
      obtain ⟨i, hfi⟩ : ∃ i, findE n.ents s = some i := by
        unfold hasE at hh
        cases hf : findE n.ents s with
        | none => rw [hf] at hh; cases hh
        | some i => exact ⟨i, rfl⟩
      obtain ⟨en, hen, -, hei, hpl⟩ := pos_find HSO.out hfi
      have HF0 : Hid (atF F x s = some ⟨x.dev, i⟩) := Lib.hid (by rw [HR.out, hfi]; rfl)
      obtain ⟨be, oe, rfl, -⟩ := RowAt.get (HE.out _ (Below.refl _ _)) hpl
      have HEN : Hid (∀ W, Below w'.heap.size w' W → W.cell? ⟨be, oe + posE n.ents s * 2 + 1, none⟩ = some (.int .i64 i)) := Lib.hid (fun W h => by
        obtain ⟨b', o', hab, hpe⟩ := RowAt.get (HE.out _ h) hpl
        injection hab with hab
        injection hab with h1 h2
        subst h1; subst h2
        rw [List.getElem?_eq_getElem hpl] at hen
        injection hen with hen
        rw [hen] at hpe
        have := hpe.c1
        rw [hei] at this
        exact this)
      have e7 := HEN.out _ (Below.refl _ _)
      have hel := World.block_lt_of_cell? w' ⟨be, oe + posE n.ents s * 2 + 1, none⟩ e7
      have hpl' : (posE n.ents s : Int) < (n.ents.length : Int) := by omega
      clear hh HR hfi hen hei HE HSO HEN
      generalize posE n.ents s = ps at *
      have p0 := p.cell 0 _ rfl
      have p1 := p.cell 1 _ rfl
      go_wp2_with fail
      go_region_held3 (fun W => W.cell? ⟨w.heap.size + 1, 2, none⟩ = some (.string s) ∧ W.cell? ⟨b, o + 7, none⟩ = some (.slice (some ⟨be, oe, none⟩) n.ents.length cv))
        (first
          | go_keep
          | (with_reducible exact ⟨(hbE.cell (p := ⟨w.heap.size + 1, 2, none⟩) hpn).trans p2, (hbE.cell (p := ⟨b, o + 7, none⟩) hbn).trans a7⟩))
        ((go_at_call 67; (with_reducible refine (CE.out _ hb0).mono ?_); rintro e wE ⟨rfl, hbE0⟩; have hbE : Below w'.heap.size w' wE := hb0.trans hbE0))
      have hb6 := hb5.trans (hbE.mono hb5.size)
      have q2 := q.stay hbE
      have qs := (q2.set 0 (.int .i64 x.dev)).set 1 (.int .i64 i)
      have hb7 := below_set (below_set hb6 (N := w.heap.size + 1 + 1) (by omega) 0 (.int .i64 x.dev)) (N := w.heap.size + 1 + 1) (by omega) 1 (.int .i64 i)
      have r0 := (hbE.cell (p := ⟨w.heap.size + 1, 0, none⟩) hpn).trans p0
      have r1 := (hbE.cell (p := ⟨w.heap.size + 1, 1, none⟩) hpn).trans p1
      have r7 := (hbE.cell (p := ⟨b, o + 7, none⟩) hbn).trans a7
      have re := (hbE.cell (p := ⟨be, oe + ps * 2 + 1, none⟩) hel).trans e7
      obtain ⟨c0, c1, f0, f1⟩ := q2.c2
      obtain ⟨d0, d1, -, -⟩ := qs.c2
      clear hb5 hb0 q p
      go_wp2_with fail
      go_region
      go_wp2_with fail
      exact bodyPost_ret (v := .tuple #[.agg #[.int .i64 x.dev, .int .i64 i], .bool true]) (by simp [results, Try.f43, go_sem, d0, d1]) rfl ⟨by rw [HF0.out]; rfl, hb7.drew⟩
end Go.Proofs.Ytafnbpkdenjipaa.fl
namespace Go.Proofs.Ytafnbpkdenjipaa.fl
open Go.RowKit Go.Proofs.Ytafnbpkdenjipaa.cm

/-- a place as a value, and places in memory -/
structure PlaceAt (w : World) (b o : Nat) (p : At × ByteArray) : Prop where
  c0 : w.cell? ⟨b, o, none⟩ = some (.int .i64 p.1.dev)
  c1 : w.cell? ⟨b, o + 1, none⟩ = some (.int .i64 p.1.ino)
  c2 : w.cell? ⟨b, o + 2, none⟩ = some (.string p.2)
theorem PlaceAt.stays : Stays PlaceAt := fun _ _ _ _ _ h hb => ⟨cell_stays h.c0 hb, cell_stays h.c1 hb, cell_stays h.c2 hb⟩
/-- the first error of places' directories, and of places -/
def dirsE (F : FilP) (ps : List (At × ByteArray)) : Int := if ps.any (fun p => (nodeF F p.1).isNone) then 2 else if ps.any (fun p => !dirF F p.1) then 20 else 0
def placesE (F : FilP) (ps : List (At × ByteArray)) : Int := if dirsE F ps ≠ 0 then dirsE F ps else if ps.any (fun p => !nm p.2) then 22 else 0
theorem any_take {α : Type} {l : List α} {f : α → Bool} {k : Nat} {x : α} (h : (l.take k).any f = false) (hx : l[k]? = some x) (hf : f x = false) : (l.take (k + 1)).any f = false := by
  obtain ⟨hk, rfl⟩ := List.getElem?_eq_some_iff.1 hx
  rw [List.take_succ_eq_append_getElem hk, List.any_append, h]
  simp [hf]
theorem any_hit {α : Type} {l : List α} {f : α → Bool} {k : Nat} {x : α} (hx : l[k]? = some x) (hf : f x = true) : l.any f = true := List.any_eq_true.2 ⟨x, List.mem_of_getElem? hx, hf⟩
theorem any_all {α : Type} {l : List α} {f : α → Bool} (h : (l.take l.length).any f = false) : l.any f = false := by rwa [List.take_length] at h

set_option maxRecDepth 100000 in
set_option maxHeartbeats 1000000 in
theorem checkDirs_any (a : Option Addr) (cap : Nat) (F : FilP) (pa : Option Addr) (pc : Nat) (ps : List (At × ByteArray)) (w : World) (hF : FilesAt w a F) (hS : Sml F) (hP : RowAt PlaceAt 3 w pa ps) (hl : ps.length ≤ 1000) :
    Calls Try.prog 42 #[.agg #[.slice a F.length cap], .slice pa ps.length pc] w fun e w' => e = .returned (.int .i64 (dirsE F ps)) ∧ Below w.heap.size w w' := by
  have hb1 : Below w.heap.size w (w.alloc (.cells #[.slice a F.length cap] 24)) := (Below.refl _ _).alloc (Nat.le_refl _) _
  have bF := Blk.new w [.slice a F.length cap] 24
  have HP := Lib.hid (fun W (h : Below w.heap.size w W) => RowAt.below PlaceAt.stays hP h)
  have HA := Lib.hid (fun W x (h : Below w.heap.size w W) => nodeAt_any a cap F x W (hF.below h) hS)
  have HD := Lib.hid (fun W x (h : Below w.heap.size w W) => isDir_any a cap F x W (hF.below h) hS)
  have HE := Lib.hid (show dirsE F ps = if ps.any (fun p => (nodeF F p.1).isNone) then 2 else if ps.any (fun p => !dirF F p.1) then 20 else 0 from rfl)
  clear hF hP hS
  go_enter Try.func42, Try.ntmps42
  go_wp2_with fail
  go_loopw [11] (fun i wr => ∃ k : Nat, k ≤ ps.length ∧ i = .int .i64 k ∧ Hid ((ps.take k).any (fun p => (nodeF F p.1).isNone) = false) ∧ Below w.heap.size w wr ∧ Blk wr w.heap.size [.slice a F.length cap]) (fun i _ => ps.length - (intOf i).toNat)
  case atStart => exact ⟨0, Nat.zero_le _, rfl, Lib.hid (by simp), hb1, bF⟩
  case round =>
    obtain ⟨k, hk, rfl, HN, hb, q⟩ := hrel
    clear hb1 bF
    by_cases hlt : k < ps.length
    · have hkk : (k : Int) < (ps.length : Int) := by omega
      obtain ⟨b, o, rfl, hp⟩ := (HP.out _ hb).get hlt
      have HPK := Lib.hid (List.getElem?_eq_getElem hlt)
      generalize ps[k] = p at *
      obtain ⟨x, s⟩ := p
      obtain ⟨a0, a1, a2⟩ := hp
      have hb2 := hb.alloc hb.size (.cells #[.int .i64 x.dev, .int .i64 x.ino, .string s] 82)
      have q2 := q.alloc (.cells #[.int .i64 x.dev, .int .i64 x.ino, .string s] 82)
      obtain ⟨c0, f0⟩ := q2.c1
      have hlw := q.lt
      simp only at a0 a1 a2
      go_wp2_with fail
      refine (HA.out _ x hb2).mono ?_
      rintro e w' ⟨hb4, ⟨h1, rfl⟩ | ⟨j, k', d, n, b', o', -, -, -, -, h1, rfl, -, -⟩⟩
      · have hb5 := hb2.trans (hb4.mono hb2.size)
        have HR := Lib.hid (show dirsE F ps = 2 by
          rw [HE.out, if_pos]
          exact any_hit HPK.out (by simp [h1]))
        clear h1
        go_wp2_with fail
        go_ret
        exact ⟨ret_int HR.out.symm, hb5⟩
      · have hb5 := hb2.trans (hb4.mono hb2.size)
        have q3 := q2.stay hb4
        have HN2 := Lib.hid (any_take HN.out HPK.out (by simp [h1]))
        clear h1
        go_wp2_with fail
        exact ⟨⟨k + 1, by omega, by go_num, HN2, hb5, q3⟩, by simp [intOf]; omega⟩
    · have hkk : ¬ (k : Int) < (ps.length : Int) := by omega
      obtain rfl : k = ps.length := by omega
      have HN := Lib.hid (any_all HN.out)
      clear hlt hk
      go_wp2_with fail
      go_loopw [23] (fun i wr => ∃ k : Nat, k ≤ ps.length ∧ i = .int .i64 k ∧ Hid ((ps.take k).any (fun p => !dirF F p.1) = false) ∧ Below w.heap.size w wr ∧ Blk wr w.heap.size [.slice a F.length cap]) (fun i _ => ps.length - (intOf i).toNat)
      case atStart => exact ⟨0, Nat.zero_le _, rfl, Lib.hid (by simp), hb, q⟩
      case round =>
        obtain ⟨k, hk, rfl, HM, hb, q⟩ := hrel
        by_cases hlt : k < ps.length
        · have hkk : (k : Int) < (ps.length : Int) := by omega
          obtain ⟨b, o, rfl, hp⟩ := (HP.out _ hb).get hlt
          have HPK := Lib.hid (List.getElem?_eq_getElem hlt)
          generalize ps[k] = p at *
          obtain ⟨x, s⟩ := p
          obtain ⟨a0, a1, a2⟩ := hp
          have hb2 := hb.alloc hb.size (.cells #[.int .i64 x.dev, .int .i64 x.ino, .string s] 82)
          have q2 := q.alloc (.cells #[.int .i64 x.dev, .int .i64 x.ino, .string s] 82)
          obtain ⟨c0, f0⟩ := q2.c1
          have hlw := q.lt
          simp only at a0 a1 a2
          have CD := Lib.hid (HD.out _ x hb2)
          cases hD : dirF F x with
          | true =>
            rw [hD] at CD
            have HN2 := Lib.hid (any_take HM.out HPK.out (by simp [hD]))
            clear hD
            go_wp2_with fail
            refine CD.out.mono ?_
            rintro e w' ⟨rfl, hb4⟩
            have hb5 := hb2.trans (hb4.mono hb2.size)
            have q3 := q2.stay hb4
            go_wp2_with fail
            exact ⟨⟨k + 1, by omega, by go_num, HN2, hb5, q3⟩, by simp [intOf]; omega⟩
          | false =>
            rw [hD] at CD
            have HR := Lib.hid (show dirsE F ps = 20 by
              rw [HE.out, if_neg (by rw [HN.out]; decide), if_pos]
              exact any_hit HPK.out (by simp [hD]))
            clear hD
            go_wp2_with fail
            refine CD.out.mono ?_
            rintro e w' ⟨rfl, hb4⟩
            have hb5 := hb2.trans (hb4.mono hb2.size)
            go_wp2_with fail
            go_ret
            exact ⟨ret_int HR.out.symm, hb5⟩
        · have hkk : ¬ (k : Int) < (ps.length : Int) := by omega
          obtain rfl : k = ps.length := by omega
          have HM := Lib.hid (any_all HM.out)
          have HR := Lib.hid (show dirsE F ps = 0 by
              rw [HE.out, if_neg (by rw [HN.out]; decide), if_neg (by rw [HM.out]; decide)])
          clear hlt hk
          go_wp2_with fail
          go_ret
          exact ⟨ret_int HR.out.symm, hb⟩

set_option maxRecDepth 100000 in
set_option maxHeartbeats 1000000 in
theorem checkPlaces_any (a : Option Addr) (cap : Nat) (F : FilP) (pa : Option Addr) (pc : Nat) (ps : List (At × ByteArray)) (w : World) (hF : FilesAt w a F) (hS : Sml F) (hP : RowAt PlaceAt 3 w pa ps) (hl : ps.length ≤ 1000) :
    Calls Try.prog 71 #[.agg #[.slice a F.length cap], .slice pa ps.length pc] w fun e w' => e = .returned (.int .i64 (placesE F ps)) ∧ Below w.heap.size w w' := by
  have hb1 : Below w.heap.size w (w.alloc (.cells #[.slice a F.length cap] 24)) := (Below.refl _ _).alloc (Nat.le_refl _) _
  have HP := Lib.hid (fun W (h : Below w.heap.size w W) => RowAt.below PlaceAt.stays hP h)
  have CD := Lib.hid (checkDirs_any a cap F pa pc ps _ (hF.below hb1) hS (RowAt.below PlaceAt.stays hP hb1) hl)
  have HE := Lib.hid (show placesE F ps = if dirsE F ps ≠ 0 then dirsE F ps else if ps.any (fun p => !nm p.2) then 22 else 0 from rfl)
  clear hF hP hS
  by_cases h0 : dirsE F ps = 0
  · rw [h0] at CD
    have HE := Lib.hid (show placesE F ps = if ps.any (fun p => !nm p.2) then 22 else 0 by rw [HE.out, if_neg (by rw [h0]; decide)])
    clear h0
    go_enter Try.func71, Try.ntmps71
    go_wp2_with fail
    refine CD.out.mono ?_
    rintro e w1 ⟨rfl, hb2⟩
    have hb3 := hb1.trans (hb2.mono hb1.size)
    clear hb1 hb2
    go_wp2_with fail
    go_loopw [16] (fun i wr => ∃ k : Nat, k ≤ ps.length ∧ i = .int .i64 k ∧ Hid ((ps.take k).any (fun p => !nm p.2) = false) ∧ Below w.heap.size w wr) (fun i _ => ps.length - (intOf i).toNat)
    case atStart => exact ⟨0, Nat.zero_le _, rfl, Lib.hid (by simp), hb3⟩
    case round =>
      obtain ⟨k, hk, rfl, HM, hb⟩ := hrel
      by_cases hlt : k < ps.length
      · have hkk : (k : Int) < (ps.length : Int) := by omega
        obtain ⟨b, o, rfl, hp⟩ := (HP.out _ hb).get hlt
        have HPK := Lib.hid (List.getElem?_eq_getElem hlt)
        generalize ps[k] = p at *
        obtain ⟨x, s⟩ := p
        obtain ⟨a0, a1, a2⟩ := hp
        have hb2 := hb.alloc hb.size (.cells #[.int .i64 x.dev, .int .i64 x.ino, .string s] 82)
        simp only at a0 a1 a2
        have CN := Lib.hid (fun W => pt.Name_any s W)
        have hnn : pt.nameS s = nm s := rfl
        rw [hnn] at CN
        clear hnn
        cases hD : nm s with
        | true =>
          rw [hD] at CN
          have HN2 := Lib.hid (any_take HM.out HPK.out (by simp [hD]))
          clear hD
          go_wp2_with fail
          refine (CN.out _).mono ?_
          rintro e w' ⟨rfl, hb4⟩
          have hb5 := hb2.trans (hb4.mono hb2.size)
          go_wp2_with fail
          exact ⟨⟨k + 1, by omega, by go_num, HN2, hb5⟩, by simp [intOf]; omega⟩
        | false =>
          rw [hD] at CN
          have HR := Lib.hid (show placesE F ps = 22 by
            rw [HE.out, if_pos]
            exact any_hit HPK.out (by simp [hD]))
          clear hD
          go_wp2_with fail
          refine (CN.out _).mono ?_
          rintro e w' ⟨rfl, hb4⟩
          have hb5 := hb2.trans (hb4.mono hb2.size)
          go_wp2_with fail
          go_ret
          exact ⟨ret_int HR.out.symm, hb5⟩
      · have hkk : ¬ (k : Int) < (ps.length : Int) := by omega
        obtain rfl : k = ps.length := by omega
        have HM := Lib.hid (any_all HM.out)
        have HR := Lib.hid (show placesE F ps = 0 by rw [HE.out, if_neg (by rw [HM.out]; decide)])
        clear hlt hk
        go_wp2_with fail
        go_ret
        exact ⟨ret_int HR.out.symm, hb⟩
  · have HR := Lib.hid (show placesE F ps = dirsE F ps by rw [HE.out, if_pos h0])
    have e0 : (dirsE F ps != 0) = true := by simpa using h0
    generalize dirsE F ps = r at *
    clear h0
    go_enter Try.func71, Try.ntmps71
    go_wp2_with fail
    refine CD.out.mono ?_
    rintro e w1 ⟨rfl, hb2⟩
    have hb3 := hb1.trans (hb2.mono hb1.size)
    go_wp2_with fail
    go_ret
    exact ⟨ret_int HR.out.symm, hb3⟩
end Go.Proofs.Ytafnbpkdenjipaa.fl
namespace Go.Proofs.Ytafnbpkdenjipaa.fl
open Go.RowKit Go.Proofs.Ytafnbpkdenjipaa.cm

theorem links_take {l : List NodeP} {i : Int} {k : Nat} {n : NodeP} (h : l[k]? = some n) : linksL (l.take (k + 1)) i = linksL (l.take k) i + cnt n.ents i := by
  obtain ⟨hk, rfl⟩ := List.getElem?_eq_some_iff.1 h
  unfold linksL
  rw [List.take_succ_eq_append_getElem hk, List.map_append, List.sum_append]
  simp
theorem cnt_take {l : List EntP} {i : Int} {k : Nat} {e : EntP} (h : l[k]? = some e) : cnt (l.take (k + 1)) i = cnt (l.take k) i + if e.ino = i then 1 else 0 := by
  obtain ⟨hk, rfl⟩ := List.getElem?_eq_some_iff.1 h
  rw [List.take_succ_eq_append_getElem hk, cnt_app, cnt_cons, cnt_nil]
  omega
theorem cnt_le (l : List EntP) (i : Int) : cnt l i ≤ l.length := List.countP_le_length
theorem links_le {l : List NodeP} (hl : ∀ n ∈ l, n.ents.length ≤ 1000) (i : Int) : linksL l i ≤ l.length * 1000 := by
  induction l with
  | nil => exact Nat.le_refl _
  | cons n l ih =>
    have h1 := ih (fun m hm => hl m (List.mem_cons_of_mem _ hm))
    have h2 := hl n List.mem_cons_self
    have h3 := cnt_le n.ents i
    unfold linksL at h1 ⊢
    rw [List.map_cons, List.sum_cons, List.length_cons]
    omega

set_option maxRecDepth 100000 in
set_option maxHeartbeats 2000000 in
theorem Links_any (a : Option Addr) (cap : Nat) (F : FilP) (x : At) (w : World) (hF : FilesAt w a F) (hS : Sml F) :
    Calls Try.prog 22 #[.agg #[.slice a F.length cap], .agg #[.int .i64 x.dev, .int .i64 x.ino]] w fun e w' => e = .returned (.int .i64 (linksF F x)) ∧ Below w.heap.size w w' := by
  obtain ⟨dv, ino⟩ := x
  have hb1 : Below w.heap.size w (w.alloc (.cells #[.slice a F.length cap] 24)) := (Below.refl _ _).alloc (Nat.le_refl _) _
  have hb2 := hb1.alloc hb1.size (.cells #[.int .i64 dv, .int .i64 ino] 36)
  have bF := (Blk.new w [.slice a F.length cap] 24).alloc (.cells #[.int .i64 dv, .int .i64 ino] 36)
  have bX := Blk.new1 (w.alloc (.cells #[.slice a F.length cap] 24)) [.int .i64 dv, .int .i64 ino] 36 (w.heap.size + 1) (size_alloc _ _)
  have CN := Lib.hid (nodeAt_any a cap F ⟨dv, ino⟩ _ (hF.below hb2) hS)
  have HL := Lib.hid (show linksF F ⟨dv, ino⟩ = match devF F dv with | some d => if (nodeD d ino).isSome then linksD d ino else 0 | none => 0 from rfl)
  have hlen := hS.len
  go_enter Try.func22, Try.ntmps22
  go_wp2_with fail
  refine CN.out.mono ?_
  rintro e w' ⟨hb4, ⟨h1, rfl⟩ | ⟨j, k, d, n, b, o, hj, hd, hi, hkn, h1, rfl, -, -⟩⟩
  · have hb5 := hb2.trans (hb4.mono hb2.size)
    have HR : Hid (linksF F ⟨dv, ino⟩ = 0) := Lib.hid (by
      rw [HL.out]
      unfold nodeF at h1
      simp only at h1
      cases hd : devF F dv with
      | none => rfl
      | some d => rw [hd] at h1; simp only [Option.bind_some] at h1; simp [h1])
    clear h1 hF hS bF bX hb1 hb2 hb4 HL
    go_wp2_with fail
    go_ret
    exact ⟨ret_int (by rw [HR.out]; rfl), hb5⟩
  · have hb5 := hb2.trans (hb4.mono hb2.size)
    have hm : d ∈ F := List.mem_of_getElem? hd
    have hnl := hS.nodes d hm
    have hel := hS.ents d hm
    simp only at hj hi h1
    subst hj
    have HR : Hid (linksF F ⟨(j : Int), ino⟩ = linksL d.nodes ino) := Lib.hid (by
      rw [HL.out, show devF F (j : Int) = some d from (devF_nat F j).trans hd]
      obtain ⟨n', -, -, h4, -⟩ := idxL_node hi
      show (if (nodeD d ino).isSome then _ else _) = _
      rw [show nodeD d ino = some n' from h4]; rfl)
    have hjl : j < F.length := (List.getElem?_eq_some_iff.1 hd).1
    obtain ⟨b0, o0, rfl, hda⟩ := hF.dev hd
    have qF := bF.stay hb4
    have qX := bX.stay hb4
    have hlF := qF.lt
    have hlX := qX.lt
    have hjj : (j : Int) < (F.length : Int) := by omega
    have hj0 : (0 : Int) ≤ (j : Int) := by omega
    obtain ⟨-, va, cv, c1, hcv, -, hns⟩ := hda
    have c1' := cell_stays c1 hb5
    have HN := Lib.hid (fun W (h : Below w.heap.size w W) => RowAt.below NodeAt.stays hns h)
    have HE := Lib.hid hel
    have HB : Hid (∀ k, linksL (d.nodes.take k) ino ≤ 1000000) := Lib.hid (fun k => by
      have h2 := links_le (l := d.nodes.take k) (fun m hm => hel m (List.mem_of_mem_take hm)) ino
      have h3 : (d.nodes.take k).length ≤ 1000 := Nat.le_trans (List.length_take_le' _ _) hnl
      omega)
    clear hF hS bF bX hb1 hb2 hb4 HL hns hel h1 hi hkn hd hm c1
    obtain ⟨p0, -⟩ := qF.c1
    obtain ⟨p1, p2, -, -⟩ := qX.c2
    go_wp2_with fail
    go_loopw [5, 22] (fun v i wr => ∃ k : Nat, k ≤ d.nodes.length ∧ i = .int .i64 k ∧ v = .int .i64 (linksL (d.nodes.take k) ino) ∧ Below w.heap.size w wr ∧ Blk wr (w.heap.size + 1) [.int .i64 (j : Int), .int .i64 ino]) (fun _ i _ => d.nodes.length - (intOf i).toNat)
    case atStart => exact ⟨0, Nat.zero_le _, rfl, rfl, hb5, qX⟩
    case round =>
      obtain ⟨k, hk, rfl, rfl, hb, q⟩ := hrel
      clear hb5 qF qX p0 p1 p2
      by_cases hlt : k < d.nodes.length
      · have hkk : (k : Int) < (d.nodes.length : Int) := by omega
        obtain ⟨b, o, rfl, hp⟩ := (HN.out _ hb).get hlt
        have HPK : Hid (linksL (d.nodes.take (k + 1)) ino = linksL (d.nodes.take k) ino + cnt (d.nodes[k]'hlt).ents ino) := Lib.hid (links_take (List.getElem?_eq_getElem hlt))
        have hle := HE.out _ (List.getElem_mem hlt)
        have hbd := HB.out k
        generalize d.nodes[k] = m at *
        obtain ⟨a0, a1, a2, a3, a4, a5, a6, ve, ce, a7, hce, -, hes⟩ := hp
        have HES := Lib.hid (fun W (h : Below wr.heap.size wr W) => RowAt.below EntAt.stays hes h)
        have hb2 := hb.alloc hb.size (.cells #[.int .i64 m.ino, .int .i64 m.kind, .int .i64 m.mode, .int .i64 m.uid, .int .i64 m.gid, .int .i64 m.parent, .string m.target, .slice ve m.ents.length ce] 43)
        have hbr : Below wr.heap.size wr (wr.alloc (.cells #[.int .i64 m.ino, .int .i64 m.kind, .int .i64 m.mode, .int .i64 m.uid, .int .i64 m.gid, .int .i64 m.parent, .string m.target, .slice ve m.ents.length ce] 43)) := (Below.refl _ _).alloc (Nat.le_refl _) _
        have q2 := q.alloc (.cells #[.int .i64 m.ino, .int .i64 m.kind, .int .i64 m.mode, .int .i64 m.uid, .int .i64 m.gid, .int .i64 m.parent, .string m.target, .slice ve m.ents.length ce] 43)
        have hlw := q.lt
        have H1 : Hid (∀ t, t + 1 = k + 1 → linksL (d.nodes.take t) ino = linksL (d.nodes.take k) ino) := Lib.hid (fun t ht => by rw [show t = k by omega])
        generalize linksL (d.nodes.take k) ino = L at *
        clear hes
        go_wp2_with fail
        go_loopw [5, 29] (fun v i wr2 => ∃ t : Nat, t ≤ m.ents.length ∧ i = .int .i64 t ∧ v = .int .i64 ((L + cnt (m.ents.take t) ino : Nat) : Int) ∧ Below wr.heap.size wr wr2 ∧ Blk wr2 (w.heap.size + 1) [.int .i64 (j : Int), .int .i64 ino]) (fun _ i _ => m.ents.length - (intOf i).toNat)
        case atStart => exact ⟨0, Nat.zero_le _, rfl, by simp [cnt], hbr, q2⟩
        case round =>
          obtain ⟨t, ht, rfl, rfl, hbi, qi⟩ := hrel
          have hcl := cnt_le (m.ents.take t) ino
          have hct : (m.ents.take t).length ≤ 1000 := Nat.le_trans (List.length_take_le' _ _) hle
          by_cases htl : t < m.ents.length
          · have htt : (t : Int) < (m.ents.length : Int) := by omega
            obtain ⟨b', o', rfl, hpe⟩ := (HES.out _ hbi).get htl
            have HCT : Hid (cnt (m.ents.take (t + 1)) ino = cnt (m.ents.take t) ino + if (m.ents[t]'htl).ino = ino then 1 else 0) := Lib.hid (cnt_take (List.getElem?_eq_getElem htl))
            generalize m.ents[t] = en at *
            obtain ⟨g0, g1⟩ := hpe
            have hbi2 := hbi.alloc hbi.size (.cells #[.string en.name, .int .i64 en.ino] 87)
            have qi2 := qi.alloc (.cells #[.string en.name, .int .i64 en.ino] 87)
            obtain ⟨r0, r1, -, -⟩ := qi.c2
            have hlwi := qi.lt
            by_cases he : en.ino = ino
            · have e1 : (en.ino == ino) = true := by simpa using he
              have HC2 : Hid (L + cnt (m.ents.take t) ino + 1 = L + cnt (m.ents.take (t + 1)) ino) := Lib.hid (by rw [HCT.out, if_pos he]; omega)
              generalize cnt (m.ents.take t) ino = C at *
              clear he
              go_wp2_with fail
              exact ⟨⟨t + 1, by omega, by go_num, by rw [← HC2.out]; go_num, hbi2, qi2⟩, by simp [intOf]; omega⟩
            · have e1 : (en.ino == ino) = false := by simpa using he
              have HC2 : Hid (cnt (m.ents.take t) ino = cnt (m.ents.take (t + 1)) ino) := Lib.hid (by rw [HCT.out, if_neg he]; rfl)
              generalize cnt (m.ents.take t) ino = C at *
              clear he
              go_wp2_with fail
              exact ⟨⟨t + 1, by omega, by go_num, by rw [← HC2.out], hbi2, qi2⟩, by simp [intOf]; omega⟩
          · have htt : ¬ (t : Int) < (m.ents.length : Int) := by omega
            obtain rfl : t = m.ents.length := by omega
            have HC : Hid (L + cnt (m.ents.take m.ents.length) ino = linksL (d.nodes.take (k + 1)) ino) := Lib.hid (by rw [HPK.out, List.take_length])
            have hb3 := hb.trans (hbi.mono hb.size)
            generalize cnt (m.ents.take m.ents.length) ino = C at *
            clear htl ht
            go_wp2_with fail
            exact ⟨⟨k + 1, by omega, by go_num, by rw [← HC.out], hb3, qi⟩, by simp [intOf]; omega⟩
      · have hkk : ¬ (k : Int) < (d.nodes.length : Int) := by omega
        obtain rfl : k = d.nodes.length := by omega
        have HR := Lib.hid (show linksF F ⟨(j : Int), ino⟩ = linksL (d.nodes.take d.nodes.length) ino by rw [HR.out, List.take_length])
        generalize linksL (d.nodes.take d.nodes.length) ino = L at *
        clear hlt hk
        go_wp2_with fail
        go_ret
        exact ⟨ret_int (by rw [HR.out]), hb⟩
end Go.Proofs.Ytafnbpkdenjipaa.fl
namespace Go.Proofs.Ytafnbpkdenjipaa.fl
open Go.RowKit Go.Proofs.Ytafnbpkdenjipaa.cm

def roomF (F : FilP) (x : At) : Bool := match nodeF F x with | some n => decide (n.ents.length < 12) | none => false
def voidF (F : FilP) (x : At) : Bool := match nodeF F x with | some n => decide (n.ents.length = 0) | none => true

set_option maxRecDepth 100000 in
set_option maxHeartbeats 1000000 in
theorem hasRoom_any (a : Option Addr) (cap : Nat) (F : FilP) (x : At) (w : World) (hF : FilesAt w a F) (hS : Sml F) :
    Calls Try.prog 74 #[.agg #[.slice a F.length cap], .agg #[.int .i64 x.dev, .int .i64 x.ino]] w fun e w' => e = .returned (.bool (roomF F x)) ∧ Below w.heap.size w w' := by
  have hb1 : Below w.heap.size w (w.alloc (.cells #[.slice a F.length cap] 24)) := (Below.refl _ _).alloc (Nat.le_refl _) _
  have hb2 := hb1.alloc hb1.size (.cells #[.int .i64 x.dev, .int .i64 x.ino] 36)
  have CN := Lib.hid (nodeAt_any a cap F x _ (hF.below hb2) hS)
  have HD := Lib.hid (show roomF F x = match nodeF F x with | some n => decide (n.ents.length < 12) | none => false from rfl)
  clear hF hS
  go_enter Try.func74, Try.ntmps74
  go_wp2_with fail
  refine CN.out.mono ?_
  rintro e w' ⟨hb3, ⟨h1, rfl⟩ | ⟨j, k, d, n, b, o, -, -, -, -, h1, rfl, -, hna⟩⟩
  · have hb4 := hb2.trans (hb3.mono hb2.size)
    have HR := Lib.hid (show roomF F x = false by rw [HD.out, h1])
    clear h1
    go_wp2_with fail
    go_ret
    exact ⟨ret_bool HR.out.symm, hb4⟩
  · have hb4 := hb2.trans (hb3.mono hb2.size)
    have hna := NodeAt.stays _ _ _ _ _ hna hb3
    have HR := Lib.hid (show roomF F x = decide (n.ents.length < 12) by rw [HD.out, h1])
    obtain ⟨va, cv, a7, -⟩ := hna.c7
    obtain ⟨D, hD⟩ : ∃ D, decide (n.ents.length < 12) = D := ⟨_, rfl⟩
    rw [hD] at HR
    have e1 : decide ((n.ents.length : Int) < 12) = D := hD ▸ (by rw [Bool.eq_iff_iff, decide_eq_true_eq, decide_eq_true_eq]; omega)
    clear h1 hna hD
    go_wp2_with fail
    go_ret
    exact ⟨ret_bool HR.out.symm, hb4⟩

/-- the ways up of within: it stands still where there is no node -/
def witL (l : List NodeP) (top : Int) : Nat → Int → Bool
  | 0, _ => false
  | k + 1, i => if i = top then true else match nodeL l i with | some n => witL l top k n.parent | none => false

end Go.Proofs.Ytafnbpkdenjipaa.fl
