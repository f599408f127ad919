/-
  Files as plain data: devices, nodes, entries, and what the changes of a device do to them; no program.
  Devices as plain data: what is valid, and that the steps of a change keep it; no program.
  Devices as plain data: the changes keep what is valid; no program.
  Devices as plain data: each call's change keeps what is valid; no program.
  Devices as plain data: the ways up are short; moving an entry keeps what is valid; no program.
  Devices as plain data: moving an entry over another keeps what is valid; no program.
  Devices as plain data: what is valid, as a test; no program.
  Files as plain data: the calls of the chapter, and that they keep what is valid; no program.
  Files as plain data: Rename keeps what is valid; no program.
  Files as plain data: all entries as a list, the changes applied to it; no program.
  Files as plain data: a call's changes tell exactly which entries lead elsewhere; no program.
  Files as plain data: what the changes of Make and Rename tell; no number is used again; no program.
  Files as plain data: an entry moved to a free place and back: the files that were; no program.
  Files as plain data: Rename to a free place and back gives the files that were; no program.
  Files as plain data: a file with many names, made and removed one by one; no program.
  The laws' small example as plain data: a directory, a file, two names; no program.
-/
import Derived.Test.YtafnbpkdenjipaaPth
namespace Go.Proofs.Ytafnbpkdenjipaa.fl
open Go.Proofs.Ytafnbpkdenjipaa.pt

structure EntP where
  name : ByteArray
  ino : Int
structure NodeP where
  ino : Int
  kind : Int
  mode : Int
  uid : Int
  gid : Int
  parent : Int
  target : ByteArray
  ents : List EntP
structure DevP where
  next : Int
  nodes : List NodeP

/-- is a text a name -/
def nm (s : ByteArray) : Bool := nameL s.data.toList
/-- the order of names -/
def lt (a b : ByteArray) : Prop := a.data.toList < b.data.toList
instance (a b : ByteArray) : Decidable (lt a b) := inferInstanceAs (Decidable (a.data.toList < b.data.toList))
theorem lt_irrefl (a : ByteArray) : ¬ lt a a := List.lt_irrefl _
theorem lt_trans {a b c : ByteArray} (h : lt a b) (k : lt b c) : lt a c := List.lt_trans h k
theorem lt_asymm {a b : ByteArray} (h : lt a b) : ¬ lt b a := fun k => lt_irrefl a (lt_trans h k)
theorem bytes_ext {a b : ByteArray} (h : a.data.toList = b.data.toList) : a = b := by
  cases a; cases b
  congr 1
  exact Array.toList_inj.1 h
theorem lt_total (a b : ByteArray) (h : a ≠ b) : lt a b ∨ lt b a := by
  by_cases k : lt a b
  · exact .inl k
  · by_cases k2 : lt b a
    · exact .inr k2
    · exact (h (bytes_ext (List.le_antisymm (List.not_lt.1 k2) (List.not_lt.1 k)))).elim
theorem ne_of_lt {a b : ByteArray} (h : lt a b) : a ≠ b := fun e => lt_irrefl b (e ▸ h)

-- the entries of a directory
def cnt (l : List EntP) (i : Int) : Nat := l.countP fun e => decide (e.ino = i)
def SortE (l : List EntP) : Prop := l.Pairwise fun a b => lt a.name b.name
def findE (l : List EntP) (s : ByteArray) : Option Int := (l.find? fun e => decide (e.name = s)).map (·.ino)
def remE (l : List EntP) (s : ByteArray) : List EntP := l.filter fun e => decide (e.name ≠ s)
def insE (l : List EntP) (s : ByteArray) (i : Int) : List EntP := l.filter (fun e => decide (lt e.name s)) ++ ⟨s, i⟩ :: l.filter (fun e => decide (lt s e.name))

theorem cnt_nil (i : Int) : cnt [] i = 0 := rfl
theorem cnt_cons (e : EntP) (l : List EntP) (i : Int) : cnt (e :: l) i = cnt l i + if e.ino = i then 1 else 0 := by
  unfold cnt; rw [List.countP_cons]; simp
theorem cnt_app (l r : List EntP) (i : Int) : cnt (l ++ r) i = cnt l i + cnt r i := by unfold cnt; rw [List.countP_append]
theorem cnt_pos {l : List EntP} {i : Int} : 0 < cnt l i ↔ ∃ e ∈ l, e.ino = i := by
  unfold cnt; rw [List.countP_pos_iff]; simp
theorem find_cons (e : EntP) (l : List EntP) (s : ByteArray) : findE (e :: l) s = if e.name = s then some e.ino else findE l s := by
  unfold findE
  rw [List.find?_cons]
  by_cases h : e.name = s
  · simp [h]
  · simp [h]
theorem find_none {l : List EntP} {s : ByteArray} : findE l s = none ↔ ∀ e ∈ l, e.name ≠ s := by
  unfold findE; simp
theorem find_some {l : List EntP} (hs : SortE l) {s : ByteArray} {j : Int} : findE l s = some j ↔ (⟨s, j⟩ : EntP) ∈ l := by
  induction l with
  | nil => simp [findE]
  | cons e l ih =>
    have hs' := List.pairwise_cons.1 hs
    rw [find_cons]
    by_cases h : e.name = s
    · rw [if_pos h]
      constructor
      · intro hj
        injection hj with hj
        subst h; subst hj
        exact List.mem_cons_self
      · intro hm
        rcases List.mem_cons.1 hm with hm | hm
        · rw [← hm]
        · exact (ne_of_lt (hs'.1 _ hm) h).elim
    · rw [if_neg h, ih hs'.2]
      constructor
      · exact fun hm => List.mem_cons_of_mem _ hm
      · intro hm
        rcases List.mem_cons.1 hm with hm | hm
        · exact (h (by rw [← hm])).elim
        · exact hm
theorem sort_rem {l : List EntP} (h : SortE l) (s : ByteArray) : SortE (remE l s) := List.Pairwise.filter _ h
theorem mem_rem {l : List EntP} {s : ByteArray} {x : EntP} : x ∈ remE l s ↔ x ∈ l ∧ x.name ≠ s := by
  unfold remE; rw [List.mem_filter]; simp
theorem mem_ins {l : List EntP} {s : ByteArray} {i : Int} {x : EntP} : x ∈ insE l s i ↔ x = ⟨s, i⟩ ∨ x ∈ l ∧ x.name ≠ s := by
  unfold insE
  simp only [List.mem_append, List.mem_cons, List.mem_filter, decide_eq_true_eq]
  constructor
  · rintro (⟨h, k⟩ | h | ⟨h, k⟩)
    · exact .inr ⟨h, ne_of_lt k⟩
    · exact .inl h
    · exact .inr ⟨h, (ne_of_lt k).symm⟩
  · rintro (h | ⟨h, k⟩)
    · exact .inr (.inl h)
    · rcases lt_total _ _ k with k | k
      · exact .inl ⟨h, k⟩
      · exact .inr (.inr ⟨h, k⟩)
theorem sort_ins {l : List EntP} (h : SortE l) (s : ByteArray) (i : Int) : SortE (insE l s i) := by
  unfold insE SortE
  rw [List.pairwise_append]
  refine ⟨List.Pairwise.filter _ h, List.pairwise_cons.2 ⟨fun x hx => ?_, List.Pairwise.filter _ h⟩, fun a ha b hb => ?_⟩
  · exact of_decide_eq_true (List.mem_filter.1 hx).2
  · have ha' : lt a.name s := of_decide_eq_true (List.mem_filter.1 ha).2
    rcases List.mem_cons.1 hb with hb | hb
    · rw [hb]; exact ha'
    · exact lt_trans ha' (of_decide_eq_true (List.mem_filter.1 hb).2)
theorem rem_none {l : List EntP} {s : ByteArray} (h : findE l s = none) : remE l s = l := by
  unfold remE
  rw [List.filter_eq_self]
  intro e he
  simpa using find_none.1 h e he
theorem find_rem (l : List EntP) (s : ByteArray) : findE (remE l s) s = none := find_none.2 fun _ he => (mem_rem.1 he).2
theorem rem_some {l : List EntP} (hs : SortE l) {s : ByteArray} {j : Int} (h : findE l s = some j) : (remE l s).length + 1 = l.length ∧ ∀ i, cnt (remE l s) i + (if j = i then 1 else 0) = cnt l i := by
  induction l with
  | nil => cases h
  | cons e l ih =>
    have hs' := List.pairwise_cons.1 hs
    rw [find_cons] at h
    by_cases k : e.name = s
    · rw [if_pos k] at h
      injection h with h
      have hn : findE l s = none := find_none.2 fun x hx => by
        have := ne_of_lt (hs'.1 x hx)
        rw [k] at this
        exact this.symm
      have hr : remE (e :: l) s = l := by
        unfold remE
        rw [List.filter_cons_of_neg (by simp [k])]
        exact rem_none hn
      rw [hr]
      refine ⟨rfl, fun i => ?_⟩
      rw [cnt_cons, h]
    · rw [if_neg k] at h
      have hr : remE (e :: l) s = e :: remE l s := by
        unfold remE
        rw [List.filter_cons_of_pos (by simp [k])]
      obtain ⟨h1, h2⟩ := ih hs'.2 h
      rw [hr]
      refine ⟨by simp; omega, fun i => ?_⟩
      rw [cnt_cons, cnt_cons, ← h2 i]
      omega
theorem ins_rem (l : List EntP) (s : ByteArray) (i : Int) : insE (remE l s) s i = insE l s i := by
  unfold insE remE
  rw [List.filter_filter, List.filter_filter]
  congr 1
  · congr 1
    funext e
    by_cases h : lt e.name s
    · simp [h, ne_of_lt h]
    · simp [h]
  · congr 2
    funext e
    by_cases h : lt s e.name
    · simp [h, (ne_of_lt h).symm]
    · simp [h]
theorem part_cnt (s : ByteArray) (i : Int) : ∀ l : List EntP, (∀ e ∈ l, e.name ≠ s) → cnt (l.filter fun e => decide (lt e.name s)) i + cnt (l.filter fun e => decide (lt s e.name)) i = cnt l i ∧ (l.filter fun e => decide (lt e.name s)).length + (l.filter fun e => decide (lt s e.name)).length = l.length
  | [], _ => ⟨rfl, rfl⟩
  | e :: l, h => by
    obtain ⟨h1, h2⟩ := part_cnt s i l (fun x hx => h x (List.mem_cons_of_mem _ hx))
    rcases lt_total _ _ (h e List.mem_cons_self) with k | k
    · rw [List.filter_cons_of_pos (by simpa using k), List.filter_cons_of_neg (by simpa using lt_asymm k), cnt_cons, cnt_cons]
      refine ⟨by omega, by simp; omega⟩
    · rw [List.filter_cons_of_neg (by simpa using lt_asymm k), List.filter_cons_of_pos (by simpa using k), cnt_cons, cnt_cons]
      refine ⟨by omega, by simp; omega⟩
theorem ins_none {l : List EntP} {s : ByteArray} (h : findE l s = none) (j : Int) : (insE l s j).length = l.length + 1 ∧ ∀ i, cnt (insE l s j) i = cnt l i + if j = i then 1 else 0 := by
  have hp := fun i => part_cnt s i l (find_none.1 h)
  unfold insE
  refine ⟨by rw [List.length_append, List.length_cons]; have := (hp 0).2; omega, fun i => ?_⟩
  rw [cnt_app, cnt_cons, ← (hp i).1]
  show _ + (_ + if j = i then 1 else 0) = _
  omega
theorem ins_some {l : List EntP} (hs : SortE l) {s : ByteArray} {k : Int} (h : findE l s = some k) (j : Int) : (insE l s j).length = l.length ∧ ∀ i, cnt (insE l s j) i + (if k = i then 1 else 0) = cnt l i + if j = i then 1 else 0 := by
  obtain ⟨h1, h2⟩ := rem_some hs h
  obtain ⟨h3, h4⟩ := ins_none (find_rem l s) j
  rw [ins_rem] at h3 h4
  refine ⟨by omega, fun i => ?_⟩
  rw [h4, ← h2 i]
  omega
theorem find_rem_ne (l : List EntP) {s t : ByteArray} (h : t ≠ s) : findE (remE l s) t = findE l t := by
  induction l with
  | nil => rfl
  | cons e l ih =>
    rw [find_cons]
    by_cases k : e.name = s
    · have hr : remE (e :: l) s = remE l s := by unfold remE; rw [List.filter_cons_of_neg (by simp [k])]
      rw [hr, ih, if_neg (fun h2 => h (h2.symm.trans k))]
    · have hr : remE (e :: l) s = e :: remE l s := by unfold remE; rw [List.filter_cons_of_pos (by simp [k])]
      rw [hr, find_cons, ih]
theorem find_ins {l : List EntP} (hs : SortE l) (s : ByteArray) (j : Int) (t : ByteArray) : findE (insE l s j) t = if t = s then some j else findE l t := by
  by_cases h : t = s
  · rw [if_pos h, h]
    exact (find_some (sort_ins hs s j)).2 (mem_ins.2 (.inl rfl))
  · rw [if_neg h]
    cases hf : findE l t with
    | none =>
      refine find_none.2 fun e he => ?_
      rcases mem_ins.1 he with he | he
      · rw [he]; exact fun h2 => h h2.symm
      · exact find_none.1 hf e he.1
    | some k => exact (find_some (sort_ins hs s j)).2 (mem_ins.2 (.inr ⟨(find_some hs).1 hf, h⟩))
end Go.Proofs.Ytafnbpkdenjipaa.fl
namespace Go.Proofs.Ytafnbpkdenjipaa.fl
open Go.Proofs.Ytafnbpkdenjipaa.pt

def nodeL (l : List NodeP) (i : Int) : Option NodeP := l.find? fun n => decide (n.ino = i)
def nodeD (d : DevP) (i : Int) : Option NodeP := nodeL d.nodes i
def linksL (l : List NodeP) (i : Int) : Nat := (l.map fun n => cnt n.ents i).sum
def linksD (d : DevP) (i : Int) : Nat := linksL d.nodes i
def parD (d : DevP) (i : Int) : Int := match nodeD d i with | some n => n.parent | none => 0
def upD (d : DevP) : Nat → Int → Int
  | 0, i => i
  | k + 1, i => upD d k (parD d i)
def targetB (s : ByteArray) : Bool := !s.data.toList.any (· == 0) && decide (1 ≤ s.size ∧ s.size ≤ 128)
def plainB (n : NodeP) : Bool := decide (1 ≤ n.kind ∧ n.kind ≤ 3 ∧ 0 ≤ n.mode ∧ n.mode ≤ 511 ∧ 0 ≤ n.uid ∧ n.uid ≤ 4294967295 ∧ 0 ≤ n.gid ∧ n.gid ≤ 4294967295) && if n.kind = 3 then targetB n.target else decide (n.target.size = 0)
def AscL (l : List NodeP) : Prop := l.Pairwise fun a b => a.ino < b.ino

/-- all of what is valid but the counts of the entries that lead to a node, and the ways up -/
structure PreD (d : DevP) : Prop where
  few : d.nodes.length ≤ 16
  nxt : 2 ≤ d.next ∧ d.next ≤ 1073741824
  asc : AscL d.nodes
  low : ∀ n ∈ d.nodes, 1 ≤ n.ino ∧ n.ino < d.next
  root : ∃ n, nodeD d 1 = some n ∧ n.kind = 2 ∧ n.parent = 1
  plain : ∀ n ∈ d.nodes, plainB n = true
  leaf : ∀ n ∈ d.nodes, n.kind ≠ 2 → n.parent = 0 ∧ n.ents = []
  dir : ∀ n ∈ d.nodes, n.ents.length ≤ 12 ∧ SortE n.ents ∧ ∀ e ∈ n.ents, nm e.name = true ∧ e.ino ≠ 1 ∧ ∃ m, nodeD d e.ino = some m
structure OKD (d : DevP) : Prop where
  pre : PreD d
  held : ∀ n ∈ d.nodes, n.ino ≠ 1 → n.kind ≠ 2 → 1 ≤ linksD d n.ino
  once : ∀ n ∈ d.nodes, n.ino ≠ 1 → n.kind = 2 → linksD d n.ino = 1 ∧ ∃ p, nodeD d n.parent = some p ∧ 1 ≤ cnt p.ents n.ino
  up : ∀ n ∈ d.nodes, n.kind = 2 → ∃ k, upD d k n.ino = 1

theorem node_cons (n : NodeP) (l : List NodeP) (i : Int) : nodeL (n :: l) i = if n.ino = i then some n else nodeL l i := by
  unfold nodeL
  rw [List.find?_cons]
  by_cases h : n.ino = i
  · simp [h]
  · simp [h]
theorem node_mem {l : List NodeP} {i : Int} {n : NodeP} (h : nodeL l i = some n) : n ∈ l ∧ n.ino = i :=
  ⟨List.mem_of_find?_eq_some h, by simpa using List.find?_some h⟩
theorem mem_node {l : List NodeP} (ha : AscL l) {n : NodeP} (h : n ∈ l) : nodeL l n.ino = some n := by
  induction l with
  | nil => cases h
  | cons x l ih =>
    have ha' := List.pairwise_cons.1 ha
    rw [node_cons]
    rcases List.mem_cons.1 h with e | e
    · rw [e, if_pos rfl]
    · rw [if_neg (by have := ha'.1 _ e; omega), ih ha'.2 e]
theorem node_none {l : List NodeP} {i : Int} : nodeL l i = none ↔ ∀ n ∈ l, n.ino ≠ i := by
  unfold nodeL; simp

-- one node turned
def modL (l : List NodeP) (g : Int) (f : NodeP → NodeP) : List NodeP := l.map fun n => if n.ino = g then f n else n
def modD (d : DevP) (g : Int) (f : NodeP → NodeP) : DevP := ⟨d.next, modL d.nodes g f⟩
theorem mod_cons (n : NodeP) (l : List NodeP) (g : Int) (f : NodeP → NodeP) : modL (n :: l) g f = (if n.ino = g then f n else n) :: modL l g f := rfl
theorem node_mod (l : List NodeP) (g : Int) (f : NodeP → NodeP) (hf : ∀ n, (f n).ino = n.ino) (i : Int) : nodeL (modL l g f) i = (nodeL l i).map fun n => if i = g then f n else n := by
  induction l with
  | nil => rfl
  | cons n l ih =>
    rw [mod_cons, node_cons, node_cons, ih]
    by_cases h : n.ino = g
    · rw [if_pos h, hf]
      by_cases k : n.ino = i
      · rw [if_pos k, if_pos k, Option.map_some, if_pos (k.symm.trans h)]
      · rw [if_neg k, if_neg k]
    · rw [if_neg h]
      by_cases k : n.ino = i
      · rw [if_pos k, if_pos k, Option.map_some, if_neg (fun e => h (k.trans e))]
      · rw [if_neg k, if_neg k]
theorem mod_ids (l : List NodeP) (g : Int) (f : NodeP → NodeP) (hf : ∀ n, (f n).ino = n.ino) : (modL l g f).map (·.ino) = l.map (·.ino) := by
  unfold modL
  rw [List.map_map]
  apply List.map_congr_left
  intro n _
  show (if n.ino = g then f n else n).ino = n.ino
  split
  · exact hf n
  · rfl
theorem asc_ids (l : List NodeP) : AscL l ↔ (l.map (·.ino)).Pairwise (· < ·) := by
  unfold AscL
  rw [List.pairwise_map]
theorem asc_mod {l : List NodeP} (h : AscL l) (g : Int) (f : NodeP → NodeP) (hf : ∀ n, (f n).ino = n.ino) : AscL (modL l g f) := by
  rw [asc_ids, mod_ids _ _ _ hf, ← asc_ids]; exact h
theorem mod_off {l : List NodeP} {g : Int} (h : ∀ n ∈ l, n.ino ≠ g) (f : NodeP → NodeP) : modL l g f = l := by
  unfold modL
  conv => rhs; rw [← List.map_id l]
  apply List.map_congr_left
  intro n hn
  rw [if_neg (h n hn)]; rfl
theorem mem_mod {l : List NodeP} {g : Int} {f : NodeP → NodeP} {x : NodeP} : x ∈ modL l g f ↔ ∃ n ∈ l, x = if n.ino = g then f n else n := by
  unfold modL
  rw [List.mem_map]
  constructor
  · rintro ⟨n, h, k⟩; exact ⟨n, h, k.symm⟩
  · rintro ⟨n, h, k⟩; exact ⟨n, h, k.symm⟩
theorem links_cons (n : NodeP) (l : List NodeP) (i : Int) : linksL (n :: l) i = cnt n.ents i + linksL l i := by
  unfold linksL; rw [List.map_cons, List.sum_cons]
theorem links_mod {l : List NodeP} (ha : AscL l) {g : Int} {n : NodeP} (hn : nodeL l g = some n) (f : NodeP → NodeP) (i : Int) : linksL (modL l g f) i + cnt n.ents i = linksL l i + cnt (f n).ents i := by
  induction l with
  | nil => cases hn
  | cons x l ih =>
    have ha' := List.pairwise_cons.1 ha
    rw [mod_cons, links_cons, links_cons]
    rw [node_cons] at hn
    by_cases h : x.ino = g
    · rw [if_pos h] at hn
      injection hn with hn
      rw [if_pos h, mod_off (fun y hy => by have := ha'.1 y hy; omega) f, hn]
      omega
    · rw [if_neg h] at hn
      rw [if_neg h]
      have := ih ha'.2 hn
      omega
theorem links_pos {l : List NodeP} {i : Int} : 1 ≤ linksL l i ↔ ∃ n ∈ l, 1 ≤ cnt n.ents i := by
  induction l with
  | nil => simp [linksL]
  | cons x l ih =>
    rw [links_cons]
    constructor
    · intro h
      by_cases k : 1 ≤ cnt x.ents i
      · exact ⟨x, List.mem_cons_self, k⟩
      · obtain ⟨n, hn, hc⟩ := ih.1 (by omega)
        exact ⟨n, List.mem_cons_of_mem _ hn, hc⟩
    · rintro ⟨n, hn, hc⟩
      rcases List.mem_cons.1 hn with e | e
      · rw [← e]; omega
      · have := ih.2 ⟨n, e, hc⟩
        omega

-- one node gone
def dropL (l : List NodeP) (g : Int) : List NodeP := l.filter fun n => decide (n.ino ≠ g)
def dropD (d : DevP) (g : Int) : DevP := ⟨d.next, dropL d.nodes g⟩
theorem node_drop (l : List NodeP) (g i : Int) : nodeL (dropL l g) i = if i = g then none else nodeL l i := by
  induction l with
  | nil => simp [dropL, nodeL]
  | cons x l ih =>
    by_cases h : x.ino = g
    · have e : dropL (x :: l) g = dropL l g := by unfold dropL; rw [List.filter_cons_of_neg (by simp [h])]
      rw [e, ih, node_cons]
      by_cases k : i = g
      · rw [if_pos k, if_pos k]
      · rw [if_neg k, if_neg k, if_neg (fun e => k (e.symm.trans h))]
    · have e : dropL (x :: l) g = x :: dropL l g := by unfold dropL; rw [List.filter_cons_of_pos (by simp [h])]
      rw [e, node_cons, node_cons, ih]
      by_cases k : x.ino = i
      · rw [if_pos k, if_pos k, if_neg (fun e => h (k.trans e))]
      · rw [if_neg k, if_neg k]
theorem asc_drop {l : List NodeP} (h : AscL l) (g : Int) : AscL (dropL l g) := List.Pairwise.filter _ h
theorem links_drop {l : List NodeP} {g : Int} (h : ∀ n ∈ l, n.ino = g → n.ents = []) (i : Int) : linksL (dropL l g) i = linksL l i := by
  induction l with
  | nil => rfl
  | cons x l ih =>
    have ih := ih (fun n hn => h n (List.mem_cons_of_mem _ hn))
    by_cases k : x.ino = g
    · have e : dropL (x :: l) g = dropL l g := by unfold dropL; rw [List.filter_cons_of_neg (by simp [k])]
      rw [e, ih, links_cons, h x List.mem_cons_self k, cnt_nil]; omega
    · have e : dropL (x :: l) g = x :: dropL l g := by unfold dropL; rw [List.filter_cons_of_pos (by simp [k])]
      rw [e, links_cons, links_cons, ih]
theorem mem_drop {l : List NodeP} {g : Int} {x : NodeP} : x ∈ dropL l g ↔ x ∈ l ∧ x.ino ≠ g := by
  unfold dropL; rw [List.mem_filter]; simp

-- one node more
def addD (d : DevP) (n : NodeP) : DevP := ⟨d.next + 1, d.nodes ++ [n]⟩
theorem node_app (l : List NodeP) (n : NodeP) (i : Int) : nodeL (l ++ [n]) i = (nodeL l i).or (if n.ino = i then some n else none) := by
  induction l with
  | nil => rw [List.nil_append, node_cons]; rfl
  | cons x l ih =>
    rw [List.cons_append, node_cons, node_cons, ih]
    by_cases h : x.ino = i
    · rw [if_pos h, if_pos h]; rfl
    · rw [if_neg h, if_neg h]
theorem links_app (l : List NodeP) (n : NodeP) (i : Int) : linksL (l ++ [n]) i = linksL l i + cnt n.ents i := by
  induction l with
  | nil => rw [List.nil_append, links_cons]; show _ + 0 = 0 + _; omega
  | cons x l ih => rw [List.cons_append, links_cons, links_cons, ih]; omega

/-- a step on one node keeps what PreD says -/
theorem PreD.mod {d : DevP} (h : PreD d) {g : Int} {n : NodeP} (hn : nodeD d g = some n) (f : NodeP → NodeP) (hf : ∀ m, (f m).ino = m.ino)
    (hk : (f n).kind = n.kind) (hp : g = 1 → (f n).parent = n.parent) (hpl : plainB (f n) = true) (hl : n.kind ≠ 2 → (f n).parent = 0 ∧ (f n).ents = [])
    (he : (f n).ents.length ≤ 12 ∧ SortE (f n).ents ∧ ∀ e ∈ (f n).ents, nm e.name = true ∧ e.ino ≠ 1 ∧ ∃ m, nodeD d e.ino = some m) : PreD (modD d g f) := by
  have hat : ∀ i, nodeD (modD d g f) i = (nodeD d i).map fun m => if i = g then f m else m := fun i => node_mod d.nodes g f hf i
  have hex : ∀ i, (∃ m, nodeD d i = some m) → ∃ m, nodeD (modD d g f) i = some m := fun i ⟨m, hm⟩ => ⟨_, by rw [hat, hm]; rfl⟩
  have hmem : ∀ x ∈ (modD d g f).nodes, (x = f n ∧ n ∈ d.nodes ∧ n.ino = g) ∨ (x ∈ d.nodes ∧ x.ino ≠ g) := fun x hx => by
    obtain ⟨m, hm, rfl⟩ := mem_mod.1 hx
    by_cases k : m.ino = g
    · have := mem_node h.asc hm
      rw [k] at this
      have e : some m = some n := this.symm.trans hn
      injection e with e
      subst e
      rw [if_pos k]
      exact .inl ⟨rfl, hm, k⟩
    · rw [if_neg k]
      exact .inr ⟨hm, k⟩
  refine ⟨?_, h.nxt, asc_mod h.asc g f hf, ?_, ?_, ?_, ?_, ?_⟩
  · show (modL d.nodes g f).length ≤ 16
    unfold modL; rw [List.length_map]; exact h.few
  · intro x hx
    rcases hmem x hx with ⟨rfl, hm, -⟩ | ⟨hm, -⟩
    · rw [hf]; exact h.low _ hm
    · exact h.low _ hm
  · obtain ⟨r, hr, hr1, hr2⟩ := h.root
    by_cases k : (1 : Int) = g
    · subst k
      have e : some r = some n := hr.symm.trans hn
      injection e with e
      subst e
      exact ⟨f r, by rw [hat, hr, Option.map_some, if_pos rfl], by rw [hk]; exact hr1, by rw [hp rfl]; exact hr2⟩
    · exact ⟨r, by rw [hat, hr, Option.map_some, if_neg k], hr1, hr2⟩
  · intro x hx
    rcases hmem x hx with ⟨rfl, -, -⟩ | ⟨hm, -⟩
    · exact hpl
    · exact h.plain _ hm
  · intro x hx hx2
    rcases hmem x hx with ⟨rfl, -, -⟩ | ⟨hm, -⟩
    · exact hl (by rw [← hk]; exact hx2)
    · exact h.leaf _ hm hx2
  · intro x hx
    rcases hmem x hx with ⟨rfl, -, -⟩ | ⟨hm, -⟩
    · exact ⟨he.1, he.2.1, fun e hee => ⟨(he.2.2 e hee).1, (he.2.2 e hee).2.1, hex _ (he.2.2 e hee).2.2⟩⟩
    · exact ⟨(h.dir _ hm).1, (h.dir _ hm).2.1, fun e hee => ⟨((h.dir _ hm).2.2 e hee).1, ((h.dir _ hm).2.2 e hee).2.1, hex _ ((h.dir _ hm).2.2 e hee).2.2⟩⟩
theorem PreD.drop {d : DevP} (h : PreD d) {g : Int} (hg : g ≠ 1) (hl : linksD d g = 0) : PreD (dropD d g) := by
  have hat : ∀ i, nodeD (dropD d g) i = if i = g then none else nodeD d i := fun i => node_drop d.nodes g i
  refine ⟨Nat.le_trans (List.length_filter_le _ _) h.few, h.nxt, asc_drop h.asc g, fun x hx => h.low x (mem_drop.1 hx).1, ?_, fun x hx => h.plain x (mem_drop.1 hx).1, fun x hx => h.leaf x (mem_drop.1 hx).1, fun x hx => ?_⟩
  · obtain ⟨r, hr, hr1⟩ := h.root
    exact ⟨r, by rw [hat, if_neg (fun e => hg e.symm), hr], hr1⟩
  · have hx' := (mem_drop.1 hx).1
    obtain ⟨h1, h2, h3⟩ := h.dir x hx'
    refine ⟨h1, h2, fun e he => ⟨(h3 e he).1, (h3 e he).2.1, ?_⟩⟩
    obtain ⟨m, hm⟩ := (h3 e he).2.2
    refine ⟨m, ?_⟩
    rw [hat, if_neg (fun k => ?_), hm]
    have := links_pos.2 ⟨x, hx', (cnt_pos (l := x.ents) (i := g)).2 ⟨e, he, k⟩⟩
    have hl' : linksL d.nodes g = 0 := hl
    omega
theorem PreD.add {d : DevP} (h : PreD d) {n : NodeP} (hi : n.ino = d.next) (hfew : d.nodes.length < 16) (hnx : d.next < 1073741824) (hpl : plainB n = true) (hl : n.kind ≠ 2 → n.parent = 0) (he : n.ents = []) : PreD (addD d n) := by
  have hat : ∀ i, nodeD (addD d n) i = (nodeD d i).or (if n.ino = i then some n else none) := fun i => node_app d.nodes n i
  have hex : ∀ i m, nodeD d i = some m → nodeD (addD d n) i = some m := fun i m hm => by rw [hat, hm]; rfl
  have hmem : ∀ x ∈ (addD d n).nodes, x ∈ d.nodes ∨ x = n := fun x hx => by
    rcases List.mem_append.1 hx with k | k
    · exact .inl k
    · exact .inr (by simpa using k)
  have h2 := h.nxt
  refine ⟨by show (d.nodes ++ [n]).length ≤ 16; simp; omega, by show 2 ≤ d.next + 1 ∧ d.next + 1 ≤ _; omega, ?_, ?_, ?_, ?_, ?_, ?_⟩
  · show AscL (d.nodes ++ [n])
    unfold AscL
    rw [List.pairwise_append]
    refine ⟨h.asc, List.pairwise_singleton _ _, fun a ha b hb => ?_⟩
    obtain rfl : b = n := by simpa using hb
    rw [hi]; exact (h.low a ha).2
  · intro x hx
    show 1 ≤ x.ino ∧ x.ino < d.next + 1
    rcases hmem x hx with k | rfl
    · have := h.low x k; omega
    · omega
  · obtain ⟨r, hr, hr1⟩ := h.root
    exact ⟨r, hex _ _ hr, hr1⟩
  · intro x hx
    rcases hmem x hx with k | rfl
    · exact h.plain x k
    · exact hpl
  · intro x hx hx2
    rcases hmem x hx with k | rfl
    · exact h.leaf x k hx2
    · exact ⟨hl hx2, he⟩
  · intro x hx
    rcases hmem x hx with k | rfl
    · obtain ⟨h1, h2, h3⟩ := h.dir x k
      refine ⟨h1, h2, fun e he => ⟨(h3 e he).1, (h3 e he).2.1, ?_⟩⟩
      obtain ⟨m, hm⟩ := (h3 e he).2.2
      exact ⟨m, hex _ _ hm⟩
    · rw [he]; exact ⟨by simp, List.Pairwise.nil, fun e h => by cases h⟩
end Go.Proofs.Ytafnbpkdenjipaa.fl
namespace Go.Proofs.Ytafnbpkdenjipaa.fl
open Go.Proofs.Ytafnbpkdenjipaa.pt

/-- a device that is valid but for the entries that lead to node a -/
structure OKE (d : DevP) (a : Int) : Prop where
  pre : PreD d
  held : ∀ n ∈ d.nodes, n.ino ≠ 1 → n.ino ≠ a → n.kind ≠ 2 → 1 ≤ linksD d n.ino
  once : ∀ n ∈ d.nodes, n.ino ≠ 1 → n.ino ≠ a → n.kind = 2 → linksD d n.ino = 1 ∧ ∃ p, nodeD d n.parent = some p ∧ 1 ≤ cnt p.ents n.ino
  in_ : ∀ n ∈ d.nodes, n.kind = 2 → ∃ p, nodeD d n.parent = some p ∧ p.kind = 2
  up : ∀ n ∈ d.nodes, n.kind = 2 → ∃ k, upD d k n.ino = 1
def Dir (d : DevP) (i : Int) : Prop := ∃ n, nodeD d i = some n ∧ n.kind = 2
theorem par_of {d : DevP} {i : Int} {n : NodeP} (h : nodeD d i = some n) : parD d i = n.parent := by unfold parD; rw [h]
theorem PreD.dir_of {d : DevP} (h : PreD d) {n : NodeP} (hn : n ∈ d.nodes) {i : Int} (hc : 1 ≤ cnt n.ents i) : n.kind = 2 := by
  by_cases k : n.kind = 2
  · exact k
  · rw [(h.leaf n hn k).2, cnt_nil] at hc; omega
theorem OKD.oke {d : DevP} (h : OKD d) (a : Int) : OKE d a := by
  refine ⟨h.pre, fun n hn h1 _ hk => h.held n hn h1 hk, fun n hn h1 _ hk => h.once n hn h1 hk, fun n hn hk => ?_, h.up⟩
  by_cases k : n.ino = 1
  · obtain ⟨r, hr, hr1, hr2⟩ := h.pre.root
    have := mem_node h.pre.asc hn
    rw [k] at this
    have e : some n = some r := this.symm.trans hr
    injection e with e
    subst e
    exact ⟨n, by rw [hr2]; exact hr, hr1⟩
  · obtain ⟨-, p, hp, hc⟩ := h.once n hn k hk
    exact ⟨p, hp, h.pre.dir_of (node_mem hp).1 hc⟩
theorem OKE.par_dir {d : DevP} {a : Int} (h : OKE d a) {i : Int} (hi : Dir d i) : Dir d (parD d i) := by
  obtain ⟨n, hn, hk⟩ := hi
  rw [par_of hn]
  exact h.in_ n (node_mem hn).1 hk
theorem OKE.up_dir {d : DevP} {a : Int} (h : OKE d a) : ∀ (k : Nat) {i : Int}, Dir d i → Dir d (upD d k i)
  | 0, _, hi => hi
  | k + 1, _, hi => h.up_dir k (h.par_dir hi)
/-- where the parents are the same, the ways up are -/
theorem OKE.up_same {d d' : DevP} {a : Int} (h : OKE d a) (hp : ∀ i, Dir d i → parD d' i = parD d i) : ∀ (k : Nat) {i : Int}, Dir d i → upD d' k i = upD d k i
  | 0, _, _ => rfl
  | k + 1, i, hi => by
    show upD d' k (parD d' i) = upD d k (parD d i)
    rw [hp i hi]
    exact h.up_same hp k (h.par_dir hi)

/-- entries turned at one directory -/
def setF (l : List EntP) (n : NodeP) : NodeP := { n with ents := l }
theorem node_set {d : DevP} {g : Int} (l : List EntP) (i : Int) : nodeD (modD d g (setF l)) i = (nodeD d i).map fun n => if i = g then setF l n else n := node_mod d.nodes g (setF l) (fun _ => rfl) i
theorem par_set {d : DevP} {g : Int} (l : List EntP) (i : Int) : parD (modD d g (setF l)) i = parD d i := by
  unfold parD
  rw [node_set]
  cases nodeD d i with
  | none => rfl
  | some n =>
    show (if i = g then setF l n else n).parent = n.parent
    split <;> rfl
theorem up_set {d : DevP} {g : Int} (l : List EntP) : ∀ (k : Nat) (i : Int), upD (modD d g (setF l)) k i = upD d k i
  | 0, _ => rfl
  | k + 1, i => by
    show upD (modD d g (setF l)) k (parD (modD d g (setF l)) i) = upD d k (parD d i)
    rw [par_set, up_set]
theorem mem_set {d : DevP} {g : Int} {l : List EntP} {x : NodeP} (h : x ∈ (modD d g (setF l)).nodes) : ∃ n ∈ d.nodes, n.ino = x.ino ∧ n.kind = x.kind ∧ n.parent = x.parent := by
  obtain ⟨n, hn, rfl⟩ := mem_mod.1 h
  refine ⟨n, hn, ?_⟩
  split <;> exact ⟨rfl, rfl, rfl⟩
/-- entries turned at one directory: all others' counts and places stand, but for those that lead to a -/
theorem OKE.set {d : DevP} {a g : Int} (h : OKE d a) {p : NodeP} (hp : nodeD d g = some p) (hk : p.kind = 2) {l : List EntP}
    (hl : l.length ≤ 12 ∧ SortE l ∧ ∀ e ∈ l, nm e.name = true ∧ e.ino ≠ 1 ∧ ∃ m, nodeD d e.ino = some m) (hc : ∀ i, i ≠ a → cnt l i = cnt p.ents i) : OKE (modD d g (setF l)) a := by
  have hpre : PreD (modD d g (setF l)) := h.pre.mod hp (setF l) (fun _ => rfl) rfl (fun _ => rfl) (h.pre.plain p (node_mem hp).1) (fun k => (k hk).elim) hl
  have hlk : ∀ i, i ≠ a → linksD (modD d g (setF l)) i = linksD d i := fun i hi => by
    have h1 : linksL (modL d.nodes g (setF l)) i + cnt p.ents i = linksL d.nodes i + cnt l i := links_mod h.pre.asc hp (setF l) i
    rw [hc i hi] at h1
    show linksL (modL d.nodes g (setF l)) i = linksL d.nodes i
    omega
  have hcn : ∀ j q i, i ≠ a → nodeD d j = some q → ∃ q', nodeD (modD d g (setF l)) j = some q' ∧ q'.kind = q.kind ∧ cnt q'.ents i = cnt q.ents i := fun j q i hi hq => by
    rw [node_set, hq]
    refine ⟨_, rfl, ?_⟩
    split
    · rename_i e
      subst e
      have e : some q = some p := hq.symm.trans hp
      injection e with e
      subst e
      exact ⟨rfl, hc i hi⟩
    · exact ⟨rfl, rfl⟩
  refine ⟨hpre, fun x hx h1 h2 hx2 => ?_, fun x hx h1 h2 hx2 => ?_, fun x hx hx2 => ?_, fun x hx hx2 => ?_⟩
  · obtain ⟨n, hn, e1, e2, -⟩ := mem_set hx
    rw [hlk _ h2, ← e1]
    exact h.held n hn (by rw [e1]; exact h1) (by rw [e1]; exact h2) (by rw [e2]; exact hx2)
  · obtain ⟨n, hn, e1, e2, e3⟩ := mem_set hx
    obtain ⟨k1, q, hq, hcq⟩ := h.once n hn (by rw [e1]; exact h1) (by rw [e1]; exact h2) (by rw [e2]; exact hx2)
    obtain ⟨q', hq', -, hcq'⟩ := hcn _ q x.ino h2 hq
    refine ⟨by rw [hlk _ h2, ← e1]; exact k1, q', by rw [← e3]; exact hq', by rw [hcq', ← e1]; exact hcq⟩
  · obtain ⟨n, hn, e1, e2, e3⟩ := mem_set hx
    obtain ⟨q, hq, hqk⟩ := h.in_ n hn (by rw [e2]; exact hx2)
    have := node_set (d := d) (g := g) l x.parent
    rw [← e3, hq] at this
    refine ⟨_, by rw [← e3]; exact this, ?_⟩
    split <;> exact hqk
  · obtain ⟨n, hn, e1, e2, e3⟩ := mem_set hx
    obtain ⟨k, hk2⟩ := h.up n hn (by rw [e2]; exact hx2)
    exact ⟨k, by rw [up_set, ← e1]; exact hk2⟩
theorem links_set {d : DevP} {g : Int} (ha : AscL d.nodes) {p : NodeP} (hp : nodeD d g = some p) (l : List EntP) (i : Int) : linksD (modD d g (setF l)) i + cnt p.ents i = linksD d i + cnt l i := links_mod ha hp (setF l) i

/-- an entry goes -/
theorem OKE.rem {d : DevP} {a g : Int} (h : OKE d a) {p : NodeP} (hp : nodeD d g = some p) (hk : p.kind = 2) {s : ByteArray} (hs : findE p.ents s = some a) :
    OKE (modD d g (setF (remE p.ents s))) a ∧ linksD (modD d g (setF (remE p.ents s))) a + 1 = linksD d a := by
  obtain ⟨h1, h2, h3⟩ := h.pre.dir p (node_mem hp).1
  obtain ⟨h4, h5⟩ := rem_some h2 hs
  refine ⟨h.set hp hk ⟨by omega, sort_rem h2 s, fun e he => h3 e (mem_rem.1 he).1⟩ (fun i hi => ?_), ?_⟩
  · have := h5 i
    rw [if_neg (fun e => hi e.symm)] at this
    omega
  · have h6 := links_set h.pre.asc hp (remE p.ents s) a
    have h7 := h5 a
    rw [if_pos rfl] at h7
    omega
/-- an entry comes -/
theorem OKE.ins {d : DevP} {a g : Int} (h : OKE d a) {p : NodeP} (hp : nodeD d g = some p) (hk : p.kind = 2) {s : ByteArray} (hs : findE p.ents s = none) (hn : nm s = true) (hr : p.ents.length < 12) (ha : a ≠ 1) (hm : ∃ m, nodeD d a = some m) :
    OKE (modD d g (setF (insE p.ents s a))) a ∧ linksD (modD d g (setF (insE p.ents s a))) a = linksD d a + 1 := by
  obtain ⟨h1, h2, h3⟩ := h.pre.dir p (node_mem hp).1
  obtain ⟨h4, h5⟩ := ins_none hs a
  refine ⟨h.set hp hk ⟨by omega, sort_ins h2 s a, fun e he => ?_⟩ (fun i hi => ?_), ?_⟩
  · rcases mem_ins.1 he with rfl | he
    · exact ⟨hn, ha, hm⟩
    · exact h3 e he.1
  · have := h5 i
    rw [if_neg (fun e => hi e.symm)] at this
    omega
  · have h6 := links_set h.pre.asc hp (insE p.ents s a) a
    have h7 := h5 a
    rw [if_pos rfl] at h7
    omega
/-- a node to which an entry leads, and that is no directory -/
theorem OKE.leaf {d : DevP} {a : Int} (h : OKE d a) (hl : 1 ≤ linksD d a) (hk : ∀ n, nodeD d a = some n → n.kind ≠ 2) : OKD d := by
  refine ⟨h.pre, fun n hn h1 hx => ?_, fun n hn h1 hx => ?_, h.up⟩
  · by_cases e : n.ino = a
    · rw [e]; exact hl
    · exact h.held n hn h1 e hx
  · by_cases e : n.ino = a
    · have := mem_node h.pre.asc hn
      rw [e] at this
      exact (hk n this hx).elim
    · exact h.once n hn h1 e hx
/-- a directory in its place -/
theorem OKE.placed {d : DevP} {a : Int} (h : OKE d a) (hl : linksD d a = 1) {n p : NodeP} (hn : nodeD d a = some n) (hk : n.kind = 2) (hp : nodeD d n.parent = some p) (hc : 1 ≤ cnt p.ents a) : OKD d := by
  have he : ∀ m ∈ d.nodes, m.ino = a → m = n := fun m hm e => by
    have := mem_node h.pre.asc hm
    rw [e] at this
    have e : some m = some n := this.symm.trans hn
    injection e
  refine ⟨h.pre, fun m hm h1 hx => ?_, fun m hm h1 hx => ?_, h.up⟩
  · by_cases e : m.ino = a
    · exact (hx (by rw [he m hm e]; exact hk)).elim
    · exact h.held m hm h1 e hx
  · by_cases e : m.ino = a
    · have := he m hm e
      subst this
      rw [e]
      exact ⟨hl, p, hp, hc⟩
    · exact h.once m hm h1 e hx
/-- a node without entries to it goes -/
theorem OKE.drop {d : DevP} {a : Int} (h : OKE d a) (ha : a ≠ 1) (hl : linksD d a = 0) (he : ∀ n, nodeD d a = some n → n.ents = []) : OKD (dropD d a) := by
  have hat : ∀ i, nodeD (dropD d a) i = if i = a then none else nodeD d i := fun i => node_drop d.nodes a i
  have hlk : ∀ i, linksD (dropD d a) i = linksD d i := fun i => links_drop (fun n hn e => he n (by have := mem_node h.pre.asc hn; rw [e] at this; exact this)) i
  have hpre := h.pre.drop ha hl
  have hup : ∀ (k : Nat) (i : Int), Dir d i → i ≠ a → upD d k i = 1 → ∃ j, upD (dropD d a) j i = 1 := by
    intro k
    induction k with
    | zero => exact fun i _ _ h1 => ⟨0, h1⟩
    | succ k ih =>
      intro i hi hia h1
      by_cases e1 : i = 1
      · exact ⟨0, e1⟩
      · obtain ⟨n, hn, hk⟩ := hi
        have hm := node_mem hn
        obtain ⟨-, p, hp, hc⟩ := h.once n hm.1 (by rw [hm.2]; exact e1) (by rw [hm.2]; exact hia) hk
        have hpa : n.parent ≠ a := fun e => by
          rw [e] at hp
          rw [he p hp, cnt_nil] at hc
          omega
        have hpd : Dir d n.parent := ⟨p, hp, h.pre.dir_of (node_mem hp).1 hc⟩
        have h2 : upD d k n.parent = 1 := by rw [← par_of hn]; exact h1
        obtain ⟨j, hj⟩ := ih n.parent hpd hpa h2
        refine ⟨j + 1, ?_⟩
        show upD (dropD d a) j (parD (dropD d a) i) = 1
        rw [par_of (n := n) (by rw [hat, if_neg hia, hn])]
        exact hj
  refine ⟨hpre, fun n hn h1 hx => ?_, fun n hn h1 hx => ?_, fun n hn hx => ?_⟩
  · obtain ⟨hn, e⟩ := mem_drop.1 hn
    rw [hlk]
    exact h.held n hn h1 e hx
  · obtain ⟨hn, e⟩ := mem_drop.1 hn
    obtain ⟨k1, p, hp, hc⟩ := h.once n hn h1 e hx
    refine ⟨by rw [hlk]; exact k1, p, ?_, hc⟩
    rw [hat, if_neg (fun k => ?_), hp]
    rw [k] at hp
    rw [he p hp, cnt_nil] at hc
    omega
  · obtain ⟨hn, e⟩ := mem_drop.1 hn
    obtain ⟨k, hk⟩ := h.up n hn hx
    exact hup k n.ino ⟨n, mem_node h.pre.asc hn, hx⟩ e hk

/-- the parent turned -/
def parF (g : Int) (n : NodeP) : NodeP := { n with parent := g }
theorem OKE.moved {d : DevP} {a g : Int} (h : OKE d a) (ha : a ≠ 1) {n : NodeP} (hn : nodeD d a = some n) (hk : n.kind = 2) (hg : Dir d g) (hb : ∀ k, upD d k g ≠ a) : OKE (modD d a (parF g)) a := by
  have hat : ∀ i, nodeD (modD d a (parF g)) i = (nodeD d i).map fun m => if i = a then parF g m else m := fun i => node_mod d.nodes a (parF g) (fun _ => rfl) i
  have hpre : PreD (modD d a (parF g)) := h.pre.mod hn (parF g) (fun _ => rfl) rfl (fun e => (ha e).elim) (h.pre.plain n (node_mem hn).1) (fun k => (k hk).elim) (h.pre.dir n (node_mem hn).1)
  have hlk : ∀ i, linksD (modD d a (parF g)) i = linksD d i := fun i => by
    have h1 : linksL (modL d.nodes a (parF g)) i + cnt n.ents i = linksL d.nodes i + cnt n.ents i := links_mod h.pre.asc hn (parF g) i
    show linksL (modL d.nodes a (parF g)) i = linksL d.nodes i
    omega
  have hcn : ∀ j q, nodeD d j = some q → ∃ q', nodeD (modD d a (parF g)) j = some q' ∧ q'.kind = q.kind ∧ q'.ents = q.ents := fun j q hq => by
    rw [hat, hq]
    refine ⟨_, rfl, ?_⟩
    split <;> exact ⟨rfl, rfl⟩
  have hpar : ∀ i, i ≠ a → parD (modD d a (parF g)) i = parD d i := fun i hi => by
    unfold parD
    rw [hat]
    cases nodeD d i with
    | none => rfl
    | some m =>
      show (if i = a then parF g m else m).parent = m.parent
      rw [if_neg hi]
  have hpa : parD (modD d a (parF g)) a = g := by
    rw [par_of (n := parF g n) (by rw [hat, hn, Option.map_some, if_pos rfl])]; rfl
  -- g's way up does not come to a
  have hgu : ∀ (k : Nat) (i : Int), (∀ j, upD d j i ≠ a) → upD (modD d a (parF g)) k i = upD d k i := by
    intro k
    induction k with
    | zero => exact fun _ _ => rfl
    | succ k ih =>
      intro i hi
      show upD (modD d a (parF g)) k (parD (modD d a (parF g)) i) = upD d k (parD d i)
      rw [hpar i (hi 0)]
      exact ih _ (fun j => hi (j + 1))
  have hau : ∃ k, upD (modD d a (parF g)) k a = 1 := by
    obtain ⟨m, hm, hmk⟩ := hg
    obtain ⟨k, hk1⟩ := h.up m (node_mem hm).1 hmk
    rw [(node_mem hm).2] at hk1
    refine ⟨k + 1, ?_⟩
    show upD (modD d a (parF g)) k (parD (modD d a (parF g)) a) = 1
    rw [hpa, hgu k g hb, hk1]
  have hup : ∀ (k : Nat) (i : Int), upD d k i = 1 → ∃ j, upD (modD d a (parF g)) j i = 1 := by
    intro k
    induction k with
    | zero => exact fun i h1 => ⟨0, h1⟩
    | succ k ih =>
      intro i h1
      by_cases e : i = a
      · rw [e]; exact hau
      · obtain ⟨j, hj⟩ := ih (parD d i) h1
        refine ⟨j + 1, ?_⟩
        show upD (modD d a (parF g)) j (parD (modD d a (parF g)) i) = 1
        rw [hpar i e]
        exact hj
  have hmem : ∀ x ∈ (modD d a (parF g)).nodes, ∃ m ∈ d.nodes, m.ino = x.ino ∧ m.kind = x.kind ∧ (x.ino ≠ a → m.parent = x.parent) ∧ (x.ino = a → x.parent = g) := fun x hx => by
    obtain ⟨m, hm, rfl⟩ := mem_mod.1 hx
    refine ⟨m, hm, ?_⟩
    by_cases e : m.ino = a
    · rw [if_pos e]; exact ⟨rfl, rfl, fun k => (k e).elim, fun _ => rfl⟩
    · rw [if_neg e]; exact ⟨rfl, rfl, fun _ => rfl, fun k => (e k).elim⟩
  refine ⟨hpre, fun x hx h1 h2 hx2 => ?_, fun x hx h1 h2 hx2 => ?_, fun x hx hx2 => ?_, fun x hx hx2 => ?_⟩
  · obtain ⟨m, hm, e1, e2, -, -⟩ := hmem x hx
    rw [hlk, ← e1]
    exact h.held m hm (by rw [e1]; exact h1) (by rw [e1]; exact h2) (by rw [e2]; exact hx2)
  · obtain ⟨m, hm, e1, e2, e3, -⟩ := hmem x hx
    obtain ⟨k1, q, hq, hcq⟩ := h.once m hm (by rw [e1]; exact h1) (by rw [e1]; exact h2) (by rw [e2]; exact hx2)
    obtain ⟨q', hq', -, he'⟩ := hcn _ q hq
    refine ⟨by rw [hlk, ← e1]; exact k1, q', by rw [← e3 h2]; exact hq', by rw [he', ← e1]; exact hcq⟩
  · obtain ⟨m, hm, e1, e2, e3, e4⟩ := hmem x hx
    by_cases e : x.ino = a
    · obtain ⟨q, hq, hqk⟩ := hg
      obtain ⟨q', hq', hk', -⟩ := hcn _ q hq
      exact ⟨q', by rw [e4 e]; exact hq', by rw [hk']; exact hqk⟩
    · obtain ⟨q, hq, hqk⟩ := h.in_ m hm (by rw [e2]; exact hx2)
      obtain ⟨q', hq', hk', -⟩ := hcn _ q hq
      exact ⟨q', by rw [← e3 e]; exact hq', by rw [hk']; exact hqk⟩
  · obtain ⟨m, hm, e1, e2, -, -⟩ := hmem x hx
    obtain ⟨k, hk2⟩ := h.up m hm (by rw [e2]; exact hx2)
    rw [e1] at hk2
    exact hup k _ hk2
end Go.Proofs.Ytafnbpkdenjipaa.fl
namespace Go.Proofs.Ytafnbpkdenjipaa.fl
open Go.Proofs.Ytafnbpkdenjipaa.pt

theorem mod_get {d : DevP} {a g : Int} {p : NodeP} (f : NodeP → NodeP) (hf : ∀ n, (f n).ino = n.ino) (h : nodeD d a = some p) : nodeD (modD d g f) a = some (if a = g then f p else p) := by
  show nodeL (modL d.nodes g f) a = _
  rw [node_mod _ _ _ hf, show nodeL d.nodes a = some p from h]; rfl
theorem mod_none {d : DevP} {a g : Int} (f : NodeP → NodeP) (hf : ∀ n, (f n).ino = n.ino) (h : nodeD d a = none) : nodeD (modD d g f) a = none := by
  show nodeL (modL d.nodes g f) a = _
  rw [node_mod _ _ _ hf, show nodeL d.nodes a = none from h]; rfl
theorem ino_of {d : DevP} {a : Int} {p : NodeP} (h : nodeD d a = some p) : p.ino = a := (node_mem h).2
theorem mem_of {d : DevP} {a : Int} {p : NodeP} (h : nodeD d a = some p) : p ∈ d.nodes := (node_mem h).1

/-- no entry leads to a number without a node -/
theorem PreD.none_links {d : DevP} (h : PreD d) {i : Int} (hi : nodeD d i = none) : linksD d i = 0 := by
  by_cases k : 1 ≤ linksD d i
  · obtain ⟨n, hn, hc⟩ := links_pos.1 k
    obtain ⟨e, he, hei⟩ := cnt_pos.1 hc
    obtain ⟨m, hm⟩ := ((h.dir n hn).2.2 e he).2.2
    rw [hei, hi] at hm
    cases hm
  · omega
/-- no entry leads to the root -/
theorem PreD.root_links {d : DevP} (h : PreD d) : linksD d 1 = 0 := by
  by_cases k : 1 ≤ linksD d 1
  · obtain ⟨n, hn, hc⟩ := links_pos.1 k
    obtain ⟨e, he, hei⟩ := cnt_pos.1 hc
    exact (((h.dir n hn).2.2 e he).2.1 hei).elim
  · omega
theorem PreD.next_none {d : DevP} (h : PreD d) : nodeD d d.next = none := node_none.2 fun n hn => by have := (h.low n hn).2; omega

/-- what an entry leads to -/
theorem PreD.look {d : DevP} (h : PreD d) {g : Int} {p : NodeP} (hp : nodeD d g = some p) {s : ByteArray} {a : Int} (hs : findE p.ents s = some a) : a ≠ 1 ∧ (∃ m, nodeD d a = some m) ∧ p.kind = 2 ∧ 1 ≤ cnt p.ents a := by
  obtain ⟨-, h2, h3⟩ := h.dir p (mem_of hp)
  have hm := (find_some h2).1 hs
  have hc : 1 ≤ cnt p.ents a := cnt_pos.2 ⟨_, hm, rfl⟩
  exact ⟨(h3 _ hm).2.1, (h3 _ hm).2.2, h.dir_of (mem_of hp) hc, hc⟩

-- the changes of a device
def linkD (d : DevP) (g : Int) (p : NodeP) (s : ByteArray) (a : Int) : DevP := modD d g (setF (insE p.ents s a))
def freeD (d : DevP) (a : Int) : DevP := if linksD d a = 0 then dropD d a else d
def unlinkD (d : DevP) (g : Int) (p : NodeP) (s : ByteArray) (a : Int) : DevP := freeD (modD d g (setF (remE p.ents s))) a

theorem OKD.link {d : DevP} (h : OKD d) {g a : Int} {p m : NodeP} (hp : nodeD d g = some p) (hk : p.kind = 2) {s : ByteArray} (hs : findE p.ents s = none) (hn : nm s = true) (hr : p.ents.length < 12) (hm : nodeD d a = some m) (hmk : m.kind ≠ 2) : OKD (linkD d g p s a) := by
  have ha : a ≠ 1 := fun e => by
    obtain ⟨r, hr, hr1, -⟩ := h.pre.root
    rw [e, hr] at hm
    injection hm with hm
    exact hmk (hm ▸ hr1)
  obtain ⟨h1, h2⟩ := (h.oke a).ins hp hk hs hn hr ha ⟨m, hm⟩
  refine h1.leaf (by rw [h2]; omega) fun n hn => ?_
  have := mod_get (g := g) (setF (insE p.ents s a)) (fun _ => rfl) hm
  rw [hn] at this
  injection this with this
  rw [this]
  split <;> exact hmk
theorem OKD.unlink {d : DevP} (h : OKD d) {g a : Int} {p m : NodeP} (hp : nodeD d g = some p) {s : ByteArray} (hs : findE p.ents s = some a) (hm : nodeD d a = some m) (hme : m.kind = 2 → m.ents = []) : OKD (unlinkD d g p s a) := by
  obtain ⟨ha, -, hk, hc⟩ := h.pre.look hp hs
  obtain ⟨h1, h2⟩ := (h.oke a).rem hp hk hs
  have hm1 := mod_get (g := g) (setF (remE p.ents s)) (fun _ => rfl) hm
  have hag : m.ents = [] → a ≠ g := fun e2 e => by
    subst e
    rw [hp] at hm
    injection hm with hm
    rw [hm, e2, cnt_nil] at hc
    omega
  unfold unlinkD freeD
  split
  · rename_i hz
    refine h1.drop ha hz fun n hn => ?_
    rw [hm1] at hn
    injection hn with hn
    have hem : m.ents = [] := by
      by_cases k : m.kind = 2
      · exact hme k
      · exact (h.pre.leaf m (mem_of hm) k).2
    rw [if_neg (hag hem)] at hn
    rw [← hn]; exact hem
  · rename_i hz
    refine h1.leaf (by omega) fun n hn hk2 => hz ?_
    rw [hm1] at hn
    injection hn with hn
    have hmk : m.kind = 2 := by
      rw [← hn] at hk2
      revert hk2
      split <;> exact id
    have := (h.once m (mem_of hm) (by rw [ino_of hm]; exact ha) hmk).1
    rw [ino_of hm] at this
    omega

/-- a new node, and its entry -/
def makeD (d : DevP) (g : Int) (p : NodeP) (s : ByteArray) (x : NodeP) : DevP := modD (addD d x) g (setF (insE p.ents s d.next))
theorem OKD.make {d : DevP} (h : OKD d) {g : Int} {p x : NodeP} (hp : nodeD d g = some p) (hk : p.kind = 2) {s : ByteArray} (hs : findE p.ents s = none) (hn : nm s = true) (hr : p.ents.length < 12)
    (hfew : d.nodes.length < 16) (hnx : d.next < 1073741824) (hi : x.ino = d.next) (hpl : plainB x = true) (he : x.ents = []) (hpa : x.parent = if x.kind = 2 then g else 0) : OKD (makeD d g p s x) := by
  have hat : ∀ i, nodeD (addD d x) i = (nodeD d i).or (if x.ino = i then some x else none) := fun i => node_app d.nodes x i
  have hex : ∀ i m, nodeD d i = some m → nodeD (addD d x) i = some m := fun i m hm => by rw [hat, hm]; rfl
  have hxn : nodeD (addD d x) d.next = some x := by rw [hat, h.pre.next_none, if_pos hi]; rfl
  have hlk : ∀ i, linksD (addD d x) i = linksD d i := fun i => by
    have := links_app d.nodes x i
    rw [he, cnt_nil] at this
    exact this
  have hmem : ∀ y ∈ (addD d x).nodes, y ∈ d.nodes ∨ y = x := fun y hy => by
    rcases List.mem_append.1 hy with k | k
    · exact .inl k
    · exact .inr (by simpa using k)
  have h2 := h.pre.nxt
  have hpre := h.pre.add hi hfew hnx hpl (fun k => by rw [hpa, if_neg k]) he
  have hpar : ∀ i, Dir d i → parD (addD d x) i = parD d i := fun i ⟨n, hn, _⟩ => by rw [par_of hn, par_of (hex _ _ hn)]
  have ho := h.oke d.next
  have hup : ∀ y ∈ d.nodes, y.kind = 2 → ∃ k, upD (addD d x) k y.ino = 1 := fun y hy hk => by
    obtain ⟨k, hk1⟩ := h.up y hy hk
    exact ⟨k, by rw [ho.up_same hpar k ⟨y, mem_node h.pre.asc hy, hk⟩]; exact hk1⟩
  have hE : OKE (addD d x) d.next := by
    refine ⟨hpre, fun y hy h1 h2 hk => ?_, fun y hy h1 h2 hk => ?_, fun y hy hk => ?_, fun y hy hk => ?_⟩
    · rcases hmem y hy with k | rfl
      · rw [hlk]; exact h.held y k h1 hk
      · exact (h2 hi).elim
    · rcases hmem y hy with k | rfl
      · obtain ⟨h3, q, hq, hc⟩ := h.once y k h1 hk
        exact ⟨by rw [hlk]; exact h3, q, hex _ _ hq, hc⟩
      · exact (h2 hi).elim
    · rcases hmem y hy with k | rfl
      · obtain ⟨q, hq, hqk⟩ := ho.in_ y k hk
        exact ⟨q, hex _ _ hq, hqk⟩
      · rw [hpa, if_pos hk]
        exact ⟨p, hex _ _ hp, by assumption⟩
    · rcases hmem y hy with k | rfl
      · exact hup y k hk
      · obtain ⟨k, hk1⟩ := hup p (mem_of hp) (by assumption)
        rw [ino_of hp] at hk1
        refine ⟨k + 1, ?_⟩
        show upD (addD d y) k (parD (addD d y) y.ino) = 1
        rw [hi, par_of hxn, hpa, if_pos hk]
        exact hk1
  obtain ⟨h3, h4⟩ := hE.ins (hex _ _ hp) hk hs hn hr (by omega) ⟨x, hxn⟩
  rw [hlk, h.pre.none_links h.pre.next_none] at h4
  have hgn : d.next ≠ g := fun e => by
    have := h.pre.next_none
    rw [e, hp] at this
    cases this
  have hx1 := mod_get (g := g) (setF (insE p.ents s d.next)) (fun _ => rfl) hxn
  rw [if_neg hgn] at hx1
  have hp1 := mod_get (g := g) (setF (insE p.ents s d.next)) (fun _ => rfl) (hex _ _ hp)
  rw [if_pos rfl] at hp1
  by_cases k : x.kind = 2
  · refine h3.placed h4 hx1 k (by rw [hpa, if_pos k]; exact hp1) ?_
    show 1 ≤ cnt (insE p.ents s d.next) d.next
    rw [(ins_none hs d.next).2, if_pos rfl]; omega
  · refine h3.leaf (by rw [h4]; omega) fun n hn => ?_
    rw [hx1] at hn
    injection hn with hn
    rw [← hn]; exact k

/-- attributes -/
def attF (m u g : Int) (n : NodeP) : NodeP := { n with mode := m, uid := u, gid := g }
theorem OKD.att {d : DevP} (h : OKD d) {a : Int} {n : NodeP} (hn : nodeD d a = some n) {m u g : Int} (hpl : plainB (attF m u g n) = true) : OKD (modD d a (attF m u g)) := by
  have hat : ∀ i, nodeD (modD d a (attF m u g)) i = (nodeD d i).map fun x => if i = a then attF m u g x else x := fun i => node_mod d.nodes a (attF m u g) (fun _ => rfl) i
  have hcn : ∀ j q, nodeD d j = some q → ∃ q', nodeD (modD d a (attF m u g)) j = some q' ∧ q'.kind = q.kind ∧ q'.ents = q.ents := fun j q hq => by
    rw [hat, hq]
    refine ⟨_, rfl, ?_⟩
    split <;> exact ⟨rfl, rfl⟩
  have hpre : PreD (modD d a (attF m u g)) := h.pre.mod hn (attF m u g) (fun _ => rfl) rfl (fun _ => rfl) hpl (fun k => h.pre.leaf n (mem_of hn) k) (h.pre.dir n (mem_of hn))
  have hlk : ∀ i, linksD (modD d a (attF m u g)) i = linksD d i := fun i => by
    have h1 : linksL (modL d.nodes a (attF m u g)) i + cnt n.ents i = linksL d.nodes i + cnt n.ents i := links_mod h.pre.asc hn (attF m u g) i
    show linksL (modL d.nodes a (attF m u g)) i = linksL d.nodes i
    omega
  have hmem : ∀ x ∈ (modD d a (attF m u g)).nodes, ∃ y ∈ d.nodes, y.ino = x.ino ∧ y.kind = x.kind ∧ y.parent = x.parent := fun x hx => by
    obtain ⟨y, hy, rfl⟩ := mem_mod.1 hx
    refine ⟨y, hy, ?_⟩
    split <;> exact ⟨rfl, rfl, rfl⟩
  have hpar : ∀ i, parD (modD d a (attF m u g)) i = parD d i := fun i => by
    unfold parD
    rw [hat]
    cases nodeD d i with
    | none => rfl
    | some y =>
      show (if i = a then attF m u g y else y).parent = y.parent
      split <;> rfl
  have hup : ∀ (k : Nat) (i : Int), upD (modD d a (attF m u g)) k i = upD d k i := by
    intro k
    induction k with
    | zero => exact fun _ => rfl
    | succ k ih =>
      intro i
      show upD (modD d a (attF m u g)) k (parD (modD d a (attF m u g)) i) = upD d k (parD d i)
      rw [hpar, ih]
  refine ⟨hpre, fun x hx h1 hk => ?_, fun x hx h1 hk => ?_, fun x hx hk => ?_⟩
  · obtain ⟨y, hy, e1, e2, -⟩ := hmem x hx
    rw [hlk, ← e1]
    exact h.held y hy (by rw [e1]; exact h1) (by rw [e2]; exact hk)
  · obtain ⟨y, hy, e1, e2, e3⟩ := hmem x hx
    obtain ⟨h3, q, hq, hc⟩ := h.once y hy (by rw [e1]; exact h1) (by rw [e2]; exact hk)
    obtain ⟨q', hq', -, he'⟩ := hcn _ q hq
    exact ⟨by rw [hlk, ← e1]; exact h3, q', by rw [← e3]; exact hq', by rw [he', ← e1]; exact hc⟩
  · obtain ⟨y, hy, e1, e2, -⟩ := hmem x hx
    obtain ⟨k, hk1⟩ := h.up y hy (by rw [e2]; exact hk)
    exact ⟨k, by rw [hup, ← e1]; exact hk1⟩
end Go.Proofs.Ytafnbpkdenjipaa.fl
namespace Go.Proofs.Ytafnbpkdenjipaa.fl
open Go.Proofs.Ytafnbpkdenjipaa.pt

theorem up_add (d : DevP) : ∀ (m k : Nat) (i : Int), upD d (m + k) i = upD d k (upD d m i)
  | 0, k, i => by rw [Nat.zero_add]; rfl
  | m + 1, k, i => by
    rw [show m + 1 + k = (m + k) + 1 from by omega]
    show upD d (m + k) (parD d i) = upD d k (upD d m (parD d i))
    exact up_add d m k _
theorem least {p : Nat → Prop} : ∀ n, p n → ∃ m, m ≤ n ∧ p m ∧ ∀ j, j < m → ¬ p j := by
  intro n
  induction n using Nat.strongRecOn with
  | _ n ih =>
    intro hn
    by_cases h : ∃ j, j < n ∧ p j
    · obtain ⟨j, hj, hp⟩ := h
      obtain ⟨m, hm, hp, hl⟩ := ih j hj hp
      exact ⟨m, by omega, hp, hl⟩
    · exact ⟨n, Nat.le_refl _, hn, fun j hj hp => h ⟨j, hj, hp⟩⟩
theorem short_way (d : DevP) : ∀ (n : Nat) (S : List Int), S.length ≤ n → ∀ (i : Int) (k : Nat), upD d k i = 1 → (∀ m, m < k → upD d m i ∈ S) → ∃ j, j ≤ S.length ∧ upD d j i = 1 := by
  intro n
  induction n with
  | zero =>
    intro S hS i k hk hin
    cases k with
    | zero => exact ⟨0, Nat.zero_le _, hk⟩
    | succ k =>
      have := hin 0 (by omega)
      rw [List.length_eq_zero_iff.1 (by omega : S.length = 0)] at this
      cases this
  | succ n ih =>
    intro S hS i k hk hin
    obtain ⟨m, hm, hp, hl⟩ := least (p := fun k => upD d k i = 1) k hk
    cases m with
    | zero => exact ⟨0, Nat.zero_le _, hp⟩
    | succ m =>
      have hi : i ∈ S := hin 0 (by omega)
      have hlen : (S.filter fun x => decide (x ≠ i)).length < S.length := by
        refine Nat.lt_of_le_of_ne (List.length_filter_le _ _) fun e => ?_
        have := List.length_filter_eq_length_iff.1 e i hi
        simp at this
      obtain ⟨j, hj, hj1⟩ := ih (S.filter fun x => decide (x ≠ i)) (by omega) (parD d i) m hp (fun q hq => by
        refine List.mem_filter.2 ⟨hin (q + 1) (by omega), decide_eq_true fun e => ?_⟩
        refine hl (m + 1 - (q + 1)) (by omega) ?_
        have h3 := up_add d (q + 1) (m + 1 - (q + 1)) i
        rw [show q + 1 + (m + 1 - (q + 1)) = m + 1 from by omega] at h3
        rw [h3] at hp
        have e' : upD d (q + 1) i = i := e
        rw [e'] at hp
        exact hp)
      exact ⟨j + 1, by omega, hj1⟩
theorem PreD.par_root {d : DevP} (h : PreD d) : parD d 1 = 1 := by
  obtain ⟨r, hr, -, hr2⟩ := h.root
  rw [par_of hr, hr2]
theorem PreD.up_root {d : DevP} (h : PreD d) : ∀ k, upD d k 1 = 1
  | 0 => rfl
  | k + 1 => by
    show upD d k (parD d 1) = 1
    rw [h.par_root, h.up_root k]
theorem OKE.up_len {d : DevP} {a : Int} (h : OKE d a) {i : Int} (hi : Dir d i) {k : Nat} (hk : d.nodes.length ≤ k) : upD d k i = 1 := by
  obtain ⟨n, hn, hnk⟩ := hi
  obtain ⟨q, hq⟩ := h.up n (mem_of hn) hnk
  rw [ino_of hn] at hq
  obtain ⟨j, hj, hj1⟩ := short_way d _ (d.nodes.map (·.ino)) (Nat.le_refl _) i q hq (fun m _ => by
    obtain ⟨x, hx, -⟩ := h.up_dir m ⟨n, hn, hnk⟩
    exact List.mem_map.2 ⟨x, mem_of hx, ino_of hx⟩)
  rw [List.length_map] at hj
  rw [show k = j + (k - j) from by omega, up_add, hj1, h.pre.up_root]

-- steps on two nodes
theorem mod_comm (l : List NodeP) {g e : Int} (hge : g ≠ e) (f k : NodeP → NodeP) (hf : ∀ n, (f n).ino = n.ino) (hk : ∀ n, (k n).ino = n.ino) : modL (modL l g f) e k = modL (modL l e k) g f := by
  unfold modL
  rw [List.map_map, List.map_map]
  apply List.map_congr_left
  intro n _
  show (if (if n.ino = g then f n else n).ino = e then k (if n.ino = g then f n else n) else (if n.ino = g then f n else n)) = (if (if n.ino = e then k n else n).ino = g then f (if n.ino = e then k n else n) else (if n.ino = e then k n else n))
  by_cases h1 : n.ino = g
  · have h2 : n.ino ≠ e := fun h => hge (h1.symm.trans h)
    rw [if_pos h1, if_neg h2, if_neg (by rw [hf]; exact h2), if_pos h1]
  · by_cases h2 : n.ino = e
    · rw [if_neg h1, if_pos h2, if_neg (by rw [hk]; exact h1)]
    · rw [if_neg h1, if_neg h2, if_neg h1]
theorem mod_same (l : List NodeP) (g : Int) (f k : NodeP → NodeP) (hf : ∀ n, (f n).ino = n.ino) : modL (modL l g f) g k = modL l g fun n => k (f n) := by
  unfold modL
  rw [List.map_map]
  apply List.map_congr_left
  intro n _
  show (if (if n.ino = g then f n else n).ino = g then k (if n.ino = g then f n else n) else (if n.ino = g then f n else n)) = if n.ino = g then k (f n) else n
  by_cases h1 : n.ino = g
  · rw [if_pos h1, if_pos h1, if_pos (by rw [hf]; exact h1)]
  · rw [if_neg h1, if_neg h1, if_neg h1]
theorem drop_mod (l : List NodeP) {g o : Int} (f : NodeP → NodeP) (hf : ∀ n, (f n).ino = n.ino) : dropL (modL l g f) o = modL (dropL l o) g f := by
  induction l with
  | nil => rfl
  | cons x l ih =>
    rw [mod_cons]
    have hi : (if x.ino = g then f x else x).ino = x.ino := by split <;> first | exact hf x | rfl
    by_cases k : x.ino = o
    · have e1 : dropL ((if x.ino = g then f x else x) :: modL l g f) o = dropL (modL l g f) o := by unfold dropL; rw [List.filter_cons_of_neg (by rw [hi]; simp [k])]
      have e2 : dropL (x :: l) o = dropL l o := by unfold dropL; rw [List.filter_cons_of_neg (by simp [k])]
      rw [e1, e2, ih]
    · have e1 : dropL ((if x.ino = g then f x else x) :: modL l g f) o = (if x.ino = g then f x else x) :: dropL (modL l g f) o := by unfold dropL; rw [List.filter_cons_of_pos (by rw [hi]; simp [k])]
      have e2 : dropL (x :: l) o = x :: dropL l o := by unfold dropL; rw [List.filter_cons_of_pos (by simp [k])]
      rw [e1, e2, mod_cons, ih]
theorem mod_eq {l : List NodeP} (ha : AscL l) {g : Int} {p : NodeP} (hp : nodeL l g = some p) {f k : NodeP → NodeP} (h : f p = k p) : modL l g f = modL l g k := by
  unfold modL
  apply List.map_congr_left
  intro n hn
  by_cases h1 : n.ino = g
  · have := mem_node ha hn
    rw [h1, hp] at this
    injection this with this
    rw [if_pos h1, if_pos h1, ← this, h]
  · rw [if_neg h1, if_neg h1]

def remF (s : ByteArray) (n : NodeP) : NodeP := { n with ents := remE n.ents s }
def insF (s : ByteArray) (a : Int) (n : NodeP) : NodeP := { n with ents := insE n.ents s a }
theorem rem_set {d : DevP} (ha : AscL d.nodes) {g : Int} {p : NodeP} (hp : nodeD d g = some p) (s : ByteArray) : modD d g (remF s) = modD d g (setF (remE p.ents s)) := by
  unfold modD; rw [mod_eq ha hp (show remF s p = setF (remE p.ents s) p from rfl)]
theorem ins_set {d : DevP} (ha : AscL d.nodes) {g : Int} {p : NodeP} (hp : nodeD d g = some p) (s : ByteArray) (a : Int) : modD d g (insF s a) = modD d g (setF (insE p.ents s a)) := by
  unfold modD; rw [mod_eq ha hp (show insF s a p = setF (insE p.ents s a) p from rfl)]
theorem rem_comm (l : List EntP) (s t : ByteArray) : remE (remE l s) t = remE (remE l t) s := by
  unfold remE
  rw [List.filter_filter, List.filter_filter]
  congr 1
  funext e
  exact Bool.and_comm _ _

/-- an entry moved: what the node a's old place, its new place, and a itself become -/
def moveD (d : DevP) (g : Int) (s : ByteArray) (e : Int) (t : ByteArray) (a : Int) (dir : Bool) : DevP :=
  let d2 := modD (modD d g (remF s)) e (insF t a)
  if dir then modD d2 a (parF e) else d2
theorem OKD.move {d : DevP} (h : OKD d) {g e a : Int} {p q m : NodeP} {s t : ByteArray} (hp : nodeD d g = some p) (hs : findE p.ents s = some a) (hq : nodeD d e = some q) (hqk : q.kind = 2) (ht : findE q.ents t = none) (hn : nm t = true) (hr : g ≠ e → q.ents.length < 12)
    (hm : nodeD d a = some m) {dir : Bool} (hd : dir = decide (m.kind = 2)) (hb : dir = true → ∀ k, upD d k e ≠ a) : OKD (moveD d g s e t a dir) := by
  obtain ⟨ha, -, hk, hc⟩ := h.pre.look hp hs
  obtain ⟨h1, h2⟩ := (h.oke a).rem hp hk hs
  have hasc1 := h1.pre.asc
  have hq1 := mod_get (g := g) (setF (remE p.ents s)) (fun _ => rfl) hq
  have hm1 := mod_get (g := g) (setF (remE p.ents s)) (fun _ => rfl) hm
  have hq1k : (if e = g then setF (remE p.ents s) q else q).kind = 2 := by split <;> exact hqk
  have hm1k : (if a = g then setF (remE p.ents s) m else m).kind = m.kind := by split <;> rfl
  have hq1f : findE (if e = g then setF (remE p.ents s) q else q).ents t = none := by
    split
    · rename_i eg
      subst eg
      rw [hp] at hq
      injection hq with hq
      subst hq
      show findE (remE p.ents s) t = none
      exact find_none.2 fun x hx => find_none.1 ht x (mem_rem.1 hx).1
    · exact ht
  have hq1l : (if e = g then setF (remE p.ents s) q else q).ents.length < 12 := by
    split
    · rename_i eg
      subst eg
      show (remE p.ents s).length < 12
      obtain ⟨h3, h4, -⟩ := h.pre.dir p (mem_of hp)
      have := (rem_some h4 hs).1
      omega
    · rename_i eg
      exact hr (fun x => eg x.symm)
  have hl1 : linksD d a = 1 ∨ m.kind ≠ 2 := by
    by_cases k : m.kind = 2
    · have := (h.once m (mem_of hm) (by rw [ino_of hm]; exact ha) k).1
      rw [ino_of hm] at this
      exact .inl this
    · exact .inr k
  unfold moveD
  rw [rem_set h.pre.asc hp s]
  generalize hd1 : modD d g (setF (remE p.ents s)) = d1 at *
  generalize hqq : (if e = g then setF (remE p.ents s) q else q) = q1 at *
  generalize hmm : (if a = g then setF (remE p.ents s) m else m) = m1 at *
  rw [ins_set hasc1 hq1 t a]
  by_cases k : m.kind = 2
  · have hdt : dir = true := by rw [hd]; exact decide_eq_true k
    have hb' := hb hdt
    have hae : a ≠ e := fun x => hb' 0 x.symm
    have hup1 : ∀ j, upD d1 j e ≠ a := fun j => by rw [← hd1, up_set]; exact hb' j
    have hM := h1.moved ha hm1 (by rw [hm1k]; exact k) ⟨q1, hq1, hq1k⟩ hup1
    have hq2 := mod_get (g := a) (parF e) (fun _ => rfl) hq1
    rw [if_neg (fun x => hae x.symm)] at hq2
    have hm2 := mod_get (g := a) (parF e) (fun _ => rfl) hm1
    rw [if_pos rfl] at hm2
    have hI := hM.ins hq2 hq1k hq1f hn hq1l ha ⟨_, hm2⟩
    have hl2 : linksD (modD d1 a (parF e)) a = linksD d1 a := by
      have h5 : linksL (modL d1.nodes a (parF e)) a + cnt m1.ents a = linksL d1.nodes a + cnt m1.ents a := links_mod hasc1 hm1 (parF e) a
      show linksL (modL d1.nodes a (parF e)) a = linksL d1.nodes a
      omega
    have hm3 := mod_get (g := e) (setF (insE q1.ents t a)) (fun _ => rfl) hm2
    rw [if_neg hae] at hm3
    have hq3 := mod_get (g := e) (setF (insE q1.ents t a)) (fun _ => rfl) hq2
    rw [if_pos rfl] at hq3
    have hx : modD (modD d1 e (setF (insE q1.ents t a))) a (parF e) = modD (modD d1 a (parF e)) e (setF (insE q1.ents t a)) := by
      unfold modD
      rw [show modL (modL d1.nodes e (setF (insE q1.ents t a))) a (parF e) = modL (modL d1.nodes a (parF e)) e (setF (insE q1.ents t a)) from mod_comm d1.nodes (fun x => hae x.symm) _ _ (fun _ => rfl) (fun _ => rfl)]
    rw [hdt]
    show OKD (modD (modD d1 e (setF (insE q1.ents t a))) a (parF e))
    rw [hx]
    have hl3 : linksD d a = 1 := by
      rcases hl1 with z | z
      · exact z
      · exact (z k).elim
    refine hI.1.placed (by rw [hI.2, hl2]; omega) hm3 (by show m1.kind = 2; rw [hm1k]; exact k) hq3 ?_
    show 1 ≤ cnt (insE q1.ents t a) a
    rw [(ins_none hq1f a).2, if_pos rfl]; omega
  · have hdt : dir = false := by rw [hd]; exact decide_eq_false k
    have hI := h1.ins hq1 hq1k hq1f hn hq1l ha ⟨m1, hm1⟩
    rw [hdt]
    show OKD (modD d1 e (setF (insE q1.ents t a)))
    refine hI.1.leaf (by rw [hI.2]; omega) fun n hn => ?_
    have := mod_get (g := e) (setF (insE q1.ents t a)) (fun _ => rfl) hm1
    rw [hn] at this
    injection this with this
    rw [this]
    split
    · show m1.kind ≠ 2; rw [hm1k]; exact k
    · rw [hm1k]; exact k
end Go.Proofs.Ytafnbpkdenjipaa.fl
namespace Go.Proofs.Ytafnbpkdenjipaa.fl
open Go.Proofs.Ytafnbpkdenjipaa.pt

/-- an entry moved over one that leads to o -/
def replD (d : DevP) (g : Int) (s : ByteArray) (e : Int) (t : ByteArray) (a : Int) (dir : Bool) (o : Int) : DevP :=
  let d3 := freeD (modD (modD d g (remF s)) e (insF t a)) o
  if dir then modD d3 a (parF e) else d3

theorem two_steps (l : List NodeP) (g e : Int) (s t : ByteArray) (a : Int) : modL (modL (modL l e (remF t)) g (remF s)) e (insF t a) = modL (modL l g (remF s)) e (insF t a) := by
  by_cases h : g = e
  · subst h
    rw [mod_same l g (remF t) (remF s) (fun _ => rfl), mod_same l g (fun n => remF s (remF t n)) (insF t a) (fun _ => rfl), mod_same l g (remF s) (insF t a) (fun _ => rfl)]
    unfold modL
    apply List.map_congr_left
    intro n _
    split
    · show ({ n with ents := insE (remE (remE n.ents t) s) t a } : NodeP) = { n with ents := insE (remE n.ents s) t a }
      rw [rem_comm, ins_rem]
    · rfl
  · rw [show modL (modL l e (remF t)) g (remF s) = modL (modL l g (remF s)) e (remF t) from mod_comm l (fun x => h x.symm) _ _ (fun _ => rfl) (fun _ => rfl), mod_same _ e (remF t) (insF t a) (fun _ => rfl)]
    unfold modL
    apply List.map_congr_left
    intro n _
    split
    · unfold insF remF
      simp only [ins_rem]
    · rfl

/-- a's way up, where a node without entries goes -/
theorem OKD.not_up {d : DevP} (h : OKD d) {o : Int} (ho : o ≠ 1) (he : ∀ n, nodeD d o = some n → n.ents = []) {i : Int} (hi : Dir d i) : parD d i ≠ o := by
  by_cases k : i = 1
  · rw [k, h.pre.par_root]; exact fun x => ho x.symm
  · obtain ⟨n, hn, hk⟩ := hi
    obtain ⟨-, q, hq, hc⟩ := h.once n (mem_of hn) (by rw [ino_of hn]; exact k) hk
    rw [par_of hn]
    intro x
    rw [x] at hq
    rw [he q hq, cnt_nil] at hc
    omega

theorem OKD.repl {d : DevP} (h : OKD d) {g e a o : Int} {p q m mo : NodeP} {s t : ByteArray} (hp : nodeD d g = some p) (hs : findE p.ents s = some a) (hq : nodeD d e = some q) (ht : findE q.ents t = some o) (hoa : o ≠ a) (hn : nm t = true)
    (hm : nodeD d a = some m) (hmo : nodeD d o = some mo) (hme : mo.kind = 2 → mo.ents = []) {dir : Bool} (hd : dir = decide (m.kind = 2)) (hb : dir = true → ∀ k, upD d k e ≠ a) :
    OKD (replD d g s e t a dir o) := by
  obtain ⟨ha1, -, hpk, hpc⟩ := h.pre.look hp hs
  obtain ⟨ho1, -, hqk, hqc⟩ := h.pre.look hq ht
  have hmoe : mo.ents = [] := by
    by_cases k : mo.kind = 2
    · exact hme k
    · exact (h.pre.leaf mo (mem_of hmo) k).2
  have hgo : g ≠ o := fun x => by
    subst x
    rw [hp] at hmo
    injection hmo with hmo
    rw [hmo, hmoe, cnt_nil] at hpc
    omega
  have heo : e ≠ o := fun x => by
    subst x
    rw [hq] at hmo
    injection hmo with hmo
    rw [hmo, hmoe, cnt_nil] at hqc
    omega
  have hst : g = e → s ≠ t := fun x y => by
    subst x; subst y
    rw [hp] at hq
    injection hq with hq
    subst hq
    rw [hs] at ht
    injection ht with ht
    exact hoa ht.symm
  have hU := h.unlink hq ht hmo hme
  unfold unlinkD at hU
  rw [← rem_set h.pre.asc hq t] at hU
  have hascX : AscL (modL d.nodes e (remF t)) := asc_mod h.pre.asc e (remF t) (fun _ => rfl)
  have hXp := mod_get (g := e) (remF t) (fun _ => rfl) hp
  have hXq := mod_get (g := e) (remF t) (fun _ => rfl) hq
  rw [if_pos rfl] at hXq
  have hXm := mod_get (g := e) (remF t) (fun _ => rfl) hm
  -- the same node in the device without o
  have hF : ∀ i n, i ≠ o → nodeD (modD d e (remF t)) i = some n → nodeD (freeD (modD d e (remF t)) o) i = some n := fun i n hi hx => by
    unfold freeD
    split
    · show nodeL (dropL _ o) i = some n
      rw [node_drop, if_neg hi]; exact hx
    · exact hx
  have hpf : findE (if g = e then remF t p else p).ents s = some a := by
    split
    · rename_i x
      show findE (remE p.ents t) s = some a
      rw [find_rem_ne _ (hst x)]; exact hs
    · exact hs
  have hql : (remF t q).ents.length < 12 := by
    obtain ⟨h3, h4, -⟩ := h.pre.dir q (mem_of hq)
    have := (rem_some h4 ht).1
    show (remE q.ents t).length < 12
    omega
  have hmk : (if a = e then remF t m else m).kind = m.kind := by split <;> rfl
  -- the ways up
  have hpar : ∀ i, i ≠ o → parD (freeD (modD d e (remF t)) o) i = parD d i := fun i hi => by
    have h1 : parD (modD d e (remF t)) i = parD d i := by
      rw [rem_set h.pre.asc hq t]; exact par_set _ i
    rw [← h1]
    unfold freeD
    split
    · show parD (dropD _ o) i = _
      unfold parD
      rw [show nodeD (dropD (modD d e (remF t)) o) i = nodeD (modD d e (remF t)) i from by
        show nodeL (dropL _ o) i = _
        rw [node_drop, if_neg hi]; rfl]
    · rfl
  have hup : ∀ (k : Nat) (i : Int), Dir d i → i ≠ o → upD (freeD (modD d e (remF t)) o) k i = upD d k i := by
    intro k
    induction k with
    | zero => exact fun _ _ _ => rfl
    | succ k ih =>
      intro i hi hio
      show upD (freeD (modD d e (remF t)) o) k (parD (freeD (modD d e (remF t)) o) i) = upD d k (parD d i)
      rw [hpar i hio]
      exact ih _ ((h.oke 0).par_dir hi) (h.not_up ho1 (fun n hn => by rw [hmo] at hn; injection hn with hn; rw [← hn]; exact hmoe) hi)
  -- the two orders of the steps
  have hlk : linksD (modD (modD d g (remF s)) e (insF t a)) o = linksD (modD d e (remF t)) o := by
    have e1 : (modD (modD d g (remF s)) e (insF t a)).nodes = modL (modL (modL d.nodes e (remF t)) g (remF s)) e (insF t a) := (two_steps d.nodes g e s t a).symm
    unfold linksD
    rw [e1]
    have hXp' : nodeL (modL d.nodes e (remF t)) g = some (if g = e then remF t p else p) := hXp
    have k1 := links_mod hascX hXp' (remF s) o
    have hsrt : SortE (if g = e then remF t p else p).ents := by
      split
      · exact sort_rem (h.pre.dir p (mem_of hp)).2.1 t
      · exact (h.pre.dir p (mem_of hp)).2.1
    have k2 := (rem_some hsrt hpf).2 o
    rw [if_neg (show ¬ a = o from fun x => hoa x.symm)] at k2
    have k3 : cnt (remF s (if g = e then remF t p else p)).ents o = cnt (if g = e then remF t p else p).ents o := k2
    have hascY : AscL (modL (modL d.nodes e (remF t)) g (remF s)) := asc_mod hascX g (remF s) (fun _ => rfl)
    have hYq : nodeL (modL (modL d.nodes e (remF t)) g (remF s)) e = some (if e = g then remF s (remF t q) else remF t q) := by
      rw [node_mod (modL d.nodes e (remF t)) g (remF s) (fun _ => rfl), show nodeL (modL d.nodes e (remF t)) e = some (remF t q) from hXq]; rfl
    have hnone : findE (if e = g then remF s (remF t q) else remF t q).ents t = none := by
      split
      · show findE (remE (remE q.ents t) s) t = none
        exact find_none.2 fun x hx => (mem_rem.1 (mem_rem.1 hx).1).2
      · exact find_rem _ _
    have k4 := links_mod hascY hYq (insF t a) o
    have k5 := (ins_none hnone a).2 o
    rw [if_neg (show ¬ a = o from fun x => hoa x.symm)] at k5
    have k6 : cnt (insF t a (if e = g then remF s (remF t q) else remF t q)).ents o = cnt (if e = g then remF s (remF t q) else remF t q).ents o := by
      have : cnt (insF t a (if e = g then remF s (remF t q) else remF t q)).ents o = cnt (if e = g then remF s (remF t q) else remF t q).ents o + 0 := k5
      omega
    show linksL (modL (modL (modL d.nodes e (remF t)) g (remF s)) e (insF t a)) o = linksL (modL d.nodes e (remF t)) o
    omega
  have hEq : freeD (modD (modD d g (remF s)) e (insF t a)) o = modD (modD (freeD (modD d e (remF t)) o) g (remF s)) e (insF t a) := by
    have e1 : modD (modD d g (remF s)) e (insF t a) = ⟨d.next, modL (modL (modL d.nodes e (remF t)) g (remF s)) e (insF t a)⟩ := by
      show (⟨d.next, modL (modL d.nodes g (remF s)) e (insF t a)⟩ : DevP) = _
      rw [two_steps]
    unfold freeD
    rw [hlk]
    split
    · rw [e1]
      show (⟨d.next, dropL (modL (modL (modL d.nodes e (remF t)) g (remF s)) e (insF t a)) o⟩ : DevP) = ⟨d.next, modL (modL (dropL (modL d.nodes e (remF t)) o) g (remF s)) e (insF t a)⟩
      rw [drop_mod _ (insF t a) (fun _ => rfl), drop_mod _ (remF s) (fun _ => rfl)]
    · rw [e1]; rfl
  unfold replD
  rw [hEq]
  exact hU.move (hF g _ hgo hXp) hpf (hF e _ heo hXq) hqk (find_rem _ _) hn (fun _ => hql) (hF a _ (fun x => hoa x.symm) hXm) (by rw [hd, hmk]) (fun hdt k => by
    rw [hup k e ⟨q, hq, hqk⟩ heo]; exact hb hdt k)
end Go.Proofs.Ytafnbpkdenjipaa.fl
namespace Go.Proofs.Ytafnbpkdenjipaa.fl
open Go.Proofs.Ytafnbpkdenjipaa.pt

instance (l : List EntP) : Decidable (SortE l) := inferInstanceAs (Decidable (l.Pairwise fun a b => lt a.name b.name))
instance (l : List NodeP) : Decidable (AscL l) := inferInstanceAs (Decidable (l.Pairwise fun a b => a.ino < b.ino))
def entsB (d : DevP) (n : NodeP) : Bool := decide (n.ents.length ≤ 12) && (decide (SortE n.ents) && n.ents.all fun e => nm e.name && (decide (e.ino ≠ 1) && (nodeD d e.ino).isSome))
def nodeB (d : DevP) (n : NodeP) : Bool := decide (n.ino < d.next) && (plainB n && ((decide (n.kind = 2) || (decide (n.parent = 0) && decide (n.ents = []))) && entsB d n))
def holdB (d : DevP) (n : NodeP) : Bool := match nodeD d n.parent with | some p => decide (1 ≤ cnt p.ents n.ino) | none => false
def linkB (d : DevP) (n : NodeP) : Bool := if n.kind = 2 then decide (linksD d n.ino = 1) && holdB d n else decide (1 ≤ linksD d n.ino)
def reachB (d : DevP) : Bool := d.nodes.all fun n => decide (n.kind ≠ 2) || decide (upD d d.nodes.length n.ino = 1)
def devB (d : DevP) : Bool := match d.nodes with
  | [] => false
  | r :: l => decide (d.nodes.length ≤ 16) && (decide (2 ≤ d.next ∧ d.next ≤ 1073741824) && (decide (r.ino = 1 ∧ r.kind = 2 ∧ r.parent = 1) && (decide (AscL d.nodes) && (d.nodes.all (nodeB d) && (l.all (linkB d) && reachB d)))))

theorem entsB_iff {d : DevP} {n : NodeP} : entsB d n = true ↔ n.ents.length ≤ 12 ∧ SortE n.ents ∧ ∀ e ∈ n.ents, nm e.name = true ∧ e.ino ≠ 1 ∧ ∃ m, nodeD d e.ino = some m := by
  unfold entsB
  rw [Bool.and_eq_true, Bool.and_eq_true, decide_eq_true_eq, decide_eq_true_eq, List.all_eq_true]
  constructor
  · rintro ⟨h1, h2, h3⟩
    refine ⟨h1, h2, fun e he => ?_⟩
    have h := h3 e he
    rw [Bool.and_eq_true, Bool.and_eq_true, decide_eq_true_eq, Option.isSome_iff_exists] at h
    exact h
  · rintro ⟨h1, h2, h3⟩
    refine ⟨h1, h2, fun e he => ?_⟩
    rw [Bool.and_eq_true, Bool.and_eq_true, decide_eq_true_eq, Option.isSome_iff_exists]
    exact h3 e he
theorem nodeB_iff {d : DevP} {n : NodeP} : nodeB d n = true ↔ n.ino < d.next ∧ plainB n = true ∧ (n.kind ≠ 2 → n.parent = 0 ∧ n.ents = []) ∧ entsB d n = true := by
  have e0 : decide (n.ents = []) = true ↔ n.ents = [] := decide_eq_true_iff
  unfold nodeB
  rw [Bool.and_eq_true, Bool.and_eq_true, Bool.and_eq_true, Bool.or_eq_true, Bool.and_eq_true, decide_eq_true_eq, decide_eq_true_eq, decide_eq_true_eq, e0]
  constructor
  · rintro ⟨h1, h2, h3, h4⟩
    exact ⟨h1, h2, fun k => h3.resolve_left k, h4⟩
  · rintro ⟨h1, h2, h3, h4⟩
    refine ⟨h1, h2, ?_, h4⟩
    by_cases k : n.kind = 2
    · exact .inl k
    · exact .inr (h3 k)
theorem holdB_iff {d : DevP} {n : NodeP} : holdB d n = true ↔ ∃ p, nodeD d n.parent = some p ∧ 1 ≤ cnt p.ents n.ino := by
  unfold holdB
  cases nodeD d n.parent with
  | none => simp
  | some p => simp
theorem devB_iff {d : DevP} : devB d = true ↔ OKD d := by
  unfold devB
  constructor
  · cases hl : d.nodes with
    | nil => intro h; cases h
    | cons r l =>
      intro h
      have h : (decide ((r :: l).length ≤ 16) && (decide (2 ≤ d.next ∧ d.next ≤ 1073741824) && (decide (r.ino = 1 ∧ r.kind = 2 ∧ r.parent = 1) && (decide (AscL (r :: l)) && ((r :: l).all (nodeB d) && (l.all (linkB d) && reachB d)))))) = true := h
      rw [← hl] at h
      simp only [Bool.and_eq_true, decide_eq_true_eq, List.all_eq_true] at h
      obtain ⟨h1, h2, ⟨h3, h4, h5⟩, h6, h7, h8, h9⟩ := h
      have h7' := fun n hn => nodeB_iff.1 (h7 n hn)
      have hr : nodeD d 1 = some r := by
        show nodeL d.nodes 1 = some r
        rw [hl, node_cons, if_pos h3]
      have hlow : ∀ n ∈ d.nodes, 1 ≤ n.ino := fun n hn => by
        rw [hl] at hn h6
        rcases List.mem_cons.1 hn with k | k
        · rw [k, h3]; omega
        · have := (List.pairwise_cons.1 h6).1 n k
          omega
      have hrest : ∀ n ∈ d.nodes, n.ino ≠ 1 → n ∈ l := fun n hn h1 => by
        rw [hl] at hn
        rcases List.mem_cons.1 hn with k | k
        · exact (h1 (by rw [k]; exact h3)).elim
        · exact k
      refine ⟨⟨h1, h2, h6, fun n hn => ⟨hlow n hn, (h7' n hn).1⟩, ⟨r, hr, h4, h5⟩, fun n hn => (h7' n hn).2.1, fun n hn => (h7' n hn).2.2.1, fun n hn => entsB_iff.1 (h7' n hn).2.2.2⟩, fun n hn k1 k2 => ?_, fun n hn k1 k2 => ?_, fun n hn k2 => ?_⟩
      · have := h8 n (hrest n hn k1)
        unfold linkB at this
        rw [if_neg k2] at this
        exact of_decide_eq_true this
      · have := h8 n (hrest n hn k1)
        unfold linkB at this
        rw [if_pos k2, Bool.and_eq_true] at this
        exact ⟨of_decide_eq_true this.1, holdB_iff.1 this.2⟩
      · have := List.all_eq_true.1 h9 n hn
        rw [Bool.or_eq_true] at this
        rcases this with k | k
        · exact (of_decide_eq_true k k2).elim
        · exact ⟨_, of_decide_eq_true k⟩
  · intro h
    obtain ⟨r, hr, hr1, hr2⟩ := h.pre.root
    cases hl : d.nodes with
    | nil =>
      have := mem_of hr
      rw [hl] at this
      cases this
    | cons x l =>
      have hx : x ∈ d.nodes := by rw [hl]; exact List.mem_cons_self
      have hx1 : x.ino = 1 := by
        have h1 := (h.pre.low x hx).1
        have hm := mem_of hr
        have ha := h.pre.asc
        rw [hl] at hm ha
        rcases List.mem_cons.1 hm with k | k
        · rw [← k]; exact ino_of hr
        · have := (List.pairwise_cons.1 ha).1 r k
          rw [ino_of hr] at this
          omega
      have hxr : x = r := by
        have := mem_node h.pre.asc hx
        rw [hx1] at this
        have e : some x = some r := this.symm.trans hr
        injection e
      have hsub : ∀ n ∈ l, n ∈ d.nodes ∧ n.ino ≠ 1 := fun n hn => by
        refine ⟨by rw [hl]; exact List.mem_cons_of_mem _ hn, ?_⟩
        have ha := h.pre.asc
        rw [hl] at ha
        have := (List.pairwise_cons.1 ha).1 n hn
        omega
      show (decide _ && (decide _ && (decide _ && (decide _ && (List.all _ _ && (List.all _ _ && reachB d)))))) = true
      rw [← hl]
      simp only [Bool.and_eq_true, decide_eq_true_eq, List.all_eq_true]
      refine ⟨h.pre.few, h.pre.nxt, ⟨hx1, by rw [hxr]; exact hr1, by rw [hxr]; exact hr2⟩, h.pre.asc, fun n hn => nodeB_iff.2 ⟨(h.pre.low n hn).2, h.pre.plain n hn, h.pre.leaf n hn, entsB_iff.2 (h.pre.dir n hn)⟩, fun n hn => ?_, ?_⟩
      · obtain ⟨h1, h2⟩ := hsub n hn
        unfold linkB
        split
        · rename_i k
          obtain ⟨h3, h4⟩ := h.once n h1 h2 k
          rw [Bool.and_eq_true]
          exact ⟨decide_eq_true h3, holdB_iff.2 h4⟩
        · rename_i k
          exact decide_eq_true (h.held n h1 h2 k)
      · refine List.all_eq_true.2 fun n hn => ?_
        rw [Bool.or_eq_true]
        by_cases k : n.kind = 2
        · exact .inr (decide_eq_true ((h.oke 0).up_len ⟨n, mem_node h.pre.asc hn, k⟩ (Nat.le_refl _)))
        · exact .inl (decide_eq_true k)
end Go.Proofs.Ytafnbpkdenjipaa.fl
namespace Go.Proofs.Ytafnbpkdenjipaa.fl
open Go.Proofs.Ytafnbpkdenjipaa.pt

structure At where
  dev : Int
  ino : Int
theorem At.ext' {a b : At} (h : a.dev = b.dev) (k : a.ino = b.ino) : a = b := by cases a; cases b; cases h; cases k; rfl
instance : DecidableEq At := fun a b => decidable_of_iff (a.dev = b.dev ∧ a.ino = b.ino) ⟨fun h => At.ext' h.1 h.2, fun h => h ▸ ⟨rfl, rfl⟩⟩
structure ChgP where
  dir : At
  name : ByteArray
  old : At
  now : At
abbrev FilP := List DevP
structure ResP where
  files : FilP
  chg : List ChgP
  err : Int
def zA : At := ⟨0, 0⟩
def errR (e : Int) : ResP := ⟨[], [], e⟩

def OKF (F : FilP) : Prop := (1 ≤ F.length ∧ F.length ≤ 3) ∧ ∀ d ∈ F, OKD d
def validB (F : FilP) : Bool := decide (1 ≤ F.length ∧ F.length ≤ 3) && F.all devB
theorem validB_iff {F : FilP} : validB F = true ↔ OKF F := by
  unfold validB OKF
  rw [Bool.and_eq_true, decide_eq_true_eq, List.all_eq_true]
  exact ⟨fun h => ⟨h.1, fun d hd => devB_iff.1 (h.2 d hd)⟩, fun h => ⟨h.1, fun d hd => devB_iff.2 (h.2 d hd)⟩⟩
def newP (n : Int) : FilP × Int := if 1 ≤ n ∧ n ≤ 3 then (List.replicate n.toNat ⟨2, [⟨1, 2, 493, 0, 0, 1, ⟨#[]⟩, []⟩]⟩, 0) else ([], 50)

def devF (F : FilP) (k : Int) : Option DevP := if 0 ≤ k then F[k.toNat]? else none
def nodeF (F : FilP) (x : At) : Option NodeP := (devF F x.dev).bind fun d => nodeD d x.ino
def linksF (F : FilP) (x : At) : Nat := match devF F x.dev with | some d => if (nodeD d x.ino).isSome then linksD d x.ino else 0 | none => 0
def lookF (F : FilP) (dir : At) (s : ByteArray) : At × Int := match nodeF F dir with
  | none => (zA, 2)
  | some n => if n.kind ≠ 2 then (zA, 20) else match findE n.ents s with | some i => (⟨dir.dev, i⟩, 0) | none => (zA, 2)
def placeF (F : FilP) (dir : At) (s : ByteArray) : Int := match nodeF F dir with
  | none => 2
  | some n => if n.kind ≠ 2 then 20 else if nm s = true then 0 else 22
def dirF (F : FilP) (x : At) : Bool := match nodeF F x with | some n => decide (n.kind = 2) | none => false
def emptyF (F : FilP) (x : At) : Bool := match nodeF F x with | some n => decide (n.ents = []) | none => true
def fullF (F : FilP) (x : At) : Bool := match nodeF F x with | some n => decide (12 ≤ n.ents.length) | none => false
def belowF (F : FilP) (x top : At) : Bool := decide (x.dev = top.dev) && match devF F x.dev with | some d => (List.range 17).any (fun k => decide (upD d k x.ino = top.ino)) | none => (List.range 17).any (fun k => decide ((if k = 0 then x.ino else 0) = top.ino))
def onF (F : FilP) (k : Int) (f : DevP → DevP) : FilP := F.modify k.toNat f

def newN (d : DevP) (g : Int) (n : NodeP) : NodeP := ⟨d.next, n.kind, n.mode, n.uid, n.gid, if n.kind = 2 then g else 0, n.target, []⟩
def makeF (F : FilP) (dir : At) (s : ByteArray) (n : NodeP) : ResP :=
  if placeF F dir s ≠ 0 then errR (placeF F dir s) else
  if plainB n = false then errR 22 else
  if (lookF F dir s).2 = 0 then errR 17 else
  match devF F dir.dev with
  | none => errR 28
  | some d => if 16 ≤ d.nodes.length ∨ d.next = 1073741824 ∨ fullF F dir = true then errR 28 else
    ⟨onF F dir.dev fun d => modD (addD d (newN d dir.ino n)) dir.ino (insF s d.next), [⟨dir, s, zA, ⟨dir.dev, d.next⟩⟩], 0⟩
def linkF (F : FilP) (dir : At) (s : ByteArray) (x : At) : ResP :=
  if placeF F dir s ≠ 0 then errR (placeF F dir s) else
  match nodeF F x with
  | none => errR 2
  | some n => if x.dev ≠ dir.dev then errR 18 else if n.kind = 2 then errR 1 else if (lookF F dir s).2 = 0 then errR 17 else if fullF F dir = true then errR 28 else
    ⟨onF F dir.dev fun d => modD d dir.ino (insF s x.ino), [⟨dir, s, zA, x⟩], 0⟩
def goneF (F : FilP) (dir : At) (s : ByteArray) : ResP :=
  ⟨onF F dir.dev fun d => freeD (modD d dir.ino (remF s)) (lookF F dir s).1.ino, [⟨dir, s, (lookF F dir s).1, zA⟩], 0⟩
def unlinkF (F : FilP) (dir : At) (s : ByteArray) : ResP :=
  if placeF F dir s ≠ 0 then errR (placeF F dir s) else
  if (lookF F dir s).2 ≠ 0 then errR (lookF F dir s).2 else
  if dirF F (lookF F dir s).1 = true then errR 21 else goneF F dir s
def rmdirF (F : FilP) (dir : At) (s : ByteArray) : ResP :=
  if placeF F dir s ≠ 0 then errR (placeF F dir s) else
  if (lookF F dir s).2 ≠ 0 then errR (lookF F dir s).2 else
  if dirF F (lookF F dir s).1 = false then errR 20 else if emptyF F (lookF F dir s).1 = false then errR 39 else goneF F dir s
def firstE (a b : Int) : List Int → Option Int
  | [] => none
  | e :: l => if a = e ∨ b = e then some e else firstE a b l
def renameF (F : FilP) (x : At) (s : ByteArray) (y : At) (t : ByteArray) : ResP :=
  match firstE (placeF F x s) (placeF F y t) [2, 20, 22] with
  | some e => errR e
  | none =>
    if (lookF F x s).2 ≠ 0 then errR (lookF F x s).2 else
    if x.dev ≠ y.dev then errR 18 else
    let a := (lookF F x s).1
    let o := (lookF F y t).1
    if dirF F a = true ∧ belowF F y a = true then errR 22 else
    if (lookF F y t).2 = 0 ∧ o = a then ⟨F, [], 0⟩ else
    if (lookF F y t).2 = 0 then
      if dirF F o = true ∧ dirF F a = false then errR 21 else if dirF F o = false ∧ dirF F a = true then errR 20 else if dirF F o = true ∧ emptyF F o = false then errR 39 else
      ⟨onF F y.dev fun d => replD d x.ino s y.ino t a.ino (dirF F a) o.ino, [⟨x, s, a, zA⟩, ⟨y, t, o, a⟩], 0⟩
    else if fullF F y = true ∧ x ≠ y then errR 28 else
      ⟨onF F y.dev fun d => moveD d x.ino s y.ino t a.ino (dirF F a), [⟨x, s, a, zA⟩, ⟨y, t, o, a⟩], 0⟩
def setFF (F : FilP) (x : At) (m u g : Int) : FilP × Int := match nodeF F x with
  | none => ([], 2)
  | some n => if plainB (attF m u g n) = false then ([], 22) else (onF F x.dev fun d => modD d x.ino (attF m u g), 0)

theorem devF_of {F : FilP} {k : Int} {d : DevP} (h : devF F k = some d) : 0 ≤ k ∧ F[k.toNat]? = some d ∧ d ∈ F := by
  unfold devF at h
  split at h
  · rename_i hk
    exact ⟨hk, h, List.mem_of_getElem? h⟩
  · cases h
theorem nodeF_of {F : FilP} {x : At} {n : NodeP} (h : nodeF F x = some n) : ∃ d, devF F x.dev = some d ∧ nodeD d x.ino = some n := by
  unfold nodeF at h
  cases hd : devF F x.dev with
  | none => rw [hd] at h; cases h
  | some d => rw [hd] at h; exact ⟨d, rfl, h⟩
theorem nodeF_dev {F : FilP} {k : Int} {d : DevP} (h : devF F k = some d) (i : Int) : nodeF F ⟨k, i⟩ = nodeD d i := by unfold nodeF; rw [h]; rfl
theorem onF_len (F : FilP) (k : Int) (f : DevP → DevP) : (onF F k f).length = F.length := List.length_modify _ _ _
theorem onF_mem {F : FilP} {k : Int} {d : DevP} (h : devF F k = some d) {f : DevP → DevP} {x : DevP} (hx : x ∈ onF F k f) : x ∈ F ∨ x = f d := by
  obtain ⟨i, hi⟩ := List.mem_iff_getElem?.1 hx
  unfold onF at hi
  rw [List.getElem?_modify] at hi
  by_cases e : k.toNat = i
  · rw [← e, (devF_of h).2.1] at hi
    simp at hi
    exact .inr hi.symm
  · simp [e] at hi
    exact .inl (List.mem_of_getElem? hi)
theorem OKF.on {F : FilP} (h : OKF F) {k : Int} {d : DevP} (hd : devF F k = some d) {f : DevP → DevP} (hf : OKD (f d)) : OKF (onF F k f) := by
  refine ⟨by rw [onF_len]; exact h.1, fun x hx => ?_⟩
  rcases onF_mem hd hx with k | k
  · exact h.2 x k
  · rw [k]; exact hf
theorem OKF.dev {F : FilP} (h : OKF F) {k : Int} {d : DevP} (hd : devF F k = some d) : OKD d := h.2 d (devF_of hd).2.2
theorem place_zero {F : FilP} {dir : At} {s : ByteArray} (h : placeF F dir s = 0) : ∃ n, nodeF F dir = some n ∧ n.kind = 2 ∧ nm s = true := by
  unfold placeF at h
  split at h
  · cases h
  · rename_i n hn
    refine ⟨n, hn, ?_⟩
    split at h
    · cases h
    · rename_i k
      split at h
      · rename_i k2
        exact ⟨Classical.not_not.1 k, k2⟩
      · cases h
theorem look_zero {F : FilP} {dir : At} {s : ByteArray} {n : NodeP} (hn : nodeF F dir = some n) (hk : n.kind = 2) : lookF F dir s = match findE n.ents s with | some i => (⟨dir.dev, i⟩, 0) | none => (zA, 2) := by
  unfold lookF
  rw [hn]
  show (if n.kind ≠ 2 then _ else _) = _
  rw [if_neg (fun x => x hk)]

theorem OKF.make {F : FilP} (h : OKF F) (dir : At) (s : ByteArray) (n : NodeP) (he : (makeF F dir s n).err = 0) : OKF (makeF F dir s n).files ∧ ∃ d, devF F dir.dev = some d ∧ (makeF F dir s n).chg = [⟨dir, s, zA, ⟨dir.dev, d.next⟩⟩] := by
  revert he
  unfold makeF
  by_cases c1 : placeF F dir s ≠ 0
  · rw [if_pos c1]; exact fun he => (c1 he).elim
  rw [if_neg c1]
  by_cases c2 : plainB n = false
  · rw [if_pos c2]; intro he; cases he
  rw [if_neg c2]
  by_cases c3 : (lookF F dir s).2 = 0
  · rw [if_pos c3]; intro he; cases he
  rw [if_neg c3]
  cases hd : devF F dir.dev with
  | none => intro he; cases he
  | some d =>
    show ResP.err (if _ then _ else _) = 0 → _
    by_cases c4 : 16 ≤ d.nodes.length ∨ d.next = 1073741824 ∨ fullF F dir = true
    · simp only [if_pos c4]; intro he; cases he
    simp only [if_neg c4]
    intro _
    obtain ⟨p, hp, hk, hn⟩ := place_zero (Classical.not_not.1 c1)
    obtain ⟨d', hd', hpd⟩ := nodeF_of hp
    rw [hd] at hd'
    injection hd' with hd'
    subst hd'
    rw [look_zero hp hk] at c3
    have hf : findE p.ents s = none := by
      cases hx : findE p.ents s with
      | none => rfl
      | some i => rw [hx] at c3; exact (c3 rfl).elim
    have hfull : ¬ 12 ≤ p.ents.length := fun k => c4 (.inr (.inr (by unfold fullF; rw [hp]; exact decide_eq_true k)))
    have hO := h.dev hd
    have hpl : plainB (newN d dir.ino n) = true := by
      have : plainB (newN d dir.ino n) = plainB n := rfl
      rw [this]; simpa using c2
    have hM := hO.make (x := newN d dir.ino n) hpd hk hf hn (by omega) (by omega) (by have := hO.pre.nxt; omega) rfl hpl rfl rfl
    refine ⟨h.on hd ?_, d, rfl, rfl⟩
    unfold makeD at hM
    have hpx : nodeD (addD d (newN d dir.ino n)) dir.ino = some p := by
      show nodeL (d.nodes ++ [newN d dir.ino n]) dir.ino = some p
      rw [node_app, show nodeL d.nodes dir.ino = some p from hpd]; rfl
    have hasc : AscL (addD d (newN d dir.ino n)).nodes := (hO.pre.add rfl (by omega) (by have := hO.pre.nxt; omega) hpl (fun k => by exact if_neg (show ¬ n.kind = 2 from k)) rfl).asc
    rw [ins_set hasc hpx s d.next]
    exact hM
theorem OKF.link {F : FilP} (h : OKF F) (dir : At) (s : ByteArray) (x : At) (he : (linkF F dir s x).err = 0) : OKF (linkF F dir s x).files ∧ (linkF F dir s x).chg = [⟨dir, s, zA, x⟩] ∧ x.dev = dir.dev := by
  revert he
  unfold linkF
  by_cases c1 : placeF F dir s ≠ 0
  · rw [if_pos c1]; exact fun he => (c1 he).elim
  rw [if_neg c1]
  cases hx : nodeF F x with
  | none => intro he; cases he
  | some n =>
    show ResP.err (if _ then _ else _) = 0 → _
    by_cases c2 : x.dev ≠ dir.dev
    · simp only [if_pos c2]; intro he; cases he
    simp only [if_neg c2]
    by_cases c3 : n.kind = 2
    · simp only [if_pos c3]; intro he; cases he
    simp only [if_neg c3]
    by_cases c4 : (lookF F dir s).2 = 0
    · simp only [if_pos c4]; intro he; cases he
    simp only [if_neg c4]
    by_cases c5 : fullF F dir = true
    · simp only [if_pos c5]; intro he; cases he
    simp only [if_neg c5]
    intro _
    have c2 := Classical.not_not.1 c2
    obtain ⟨p, hp, hk, hn⟩ := place_zero (Classical.not_not.1 c1)
    obtain ⟨d, hd, hpd⟩ := nodeF_of hp
    obtain ⟨d', hd', hxd⟩ := nodeF_of hx
    rw [c2, hd] at hd'
    injection hd' with hd'
    subst hd'
    rw [look_zero hp hk] at c4
    have hf : findE p.ents s = none := by
      cases hx : findE p.ents s with
      | none => rfl
      | some i => rw [hx] at c4; exact (c4 rfl).elim
    have hfull : ¬ 12 ≤ p.ents.length := fun k => c5 (by unfold fullF; rw [hp]; exact decide_eq_true k)
    refine ⟨h.on hd ?_, by first | rfl | trivial, c2⟩
    rw [ins_set (h.dev hd).pre.asc hpd s x.ino]
    exact (h.dev hd).link hpd hk hf hn (by omega) hxd c3
theorem look_zero_of {F : FilP} {dir : At} {s : ByteArray} {n : NodeP} (hn : nodeF F dir = some n) (hk : n.kind = 2) (h : (lookF F dir s).2 = 0) : ∃ i, findE n.ents s = some i ∧ (lookF F dir s).1 = ⟨dir.dev, i⟩ := by
  rw [look_zero hn hk] at h ⊢
  cases hx : findE n.ents s with
  | none => rw [hx] at h; cases h
  | some i => exact ⟨i, rfl, rfl⟩
theorem OKF.gone {F : FilP} (h : OKF F) (dir : At) (s : ByteArray) (c1 : placeF F dir s = 0) (c2 : (lookF F dir s).2 = 0) (he : dirF F (lookF F dir s).1 = true → emptyF F (lookF F dir s).1 = true) : OKF (goneF F dir s).files := by
  obtain ⟨p, hp, hk, hn⟩ := place_zero c1
  obtain ⟨d, hd, hpd⟩ := nodeF_of hp
  obtain ⟨i, hi, hl⟩ := look_zero_of hp hk c2
  have hO := h.dev hd
  obtain ⟨-, ⟨m, hm⟩, -, -⟩ := hO.pre.look hpd hi
  have hmF : nodeF F ⟨dir.dev, i⟩ = some m := by rw [nodeF_dev hd]; exact hm
  unfold goneF
  refine h.on hd ?_
  rw [hl, rem_set hO.pre.asc hpd s]
  refine hO.unlink hpd hi hm fun k => ?_
  have h1 : dirF F (lookF F dir s).1 = true := by rw [hl]; unfold dirF; rw [hmF]; exact decide_eq_true k
  have h2 := he h1
  rw [hl] at h2
  unfold emptyF at h2
  rw [hmF] at h2
  exact of_decide_eq_true h2
theorem OKF.unlink {F : FilP} (h : OKF F) (dir : At) (s : ByteArray) (he : (unlinkF F dir s).err = 0) : unlinkF F dir s = goneF F dir s ∧ OKF (unlinkF F dir s).files := by
  revert he
  unfold unlinkF
  by_cases c1 : placeF F dir s ≠ 0
  · rw [if_pos c1]; exact fun he => (c1 he).elim
  rw [if_neg c1]
  by_cases c2 : (lookF F dir s).2 ≠ 0
  · rw [if_pos c2]; exact fun he => (c2 he).elim
  rw [if_neg c2]
  by_cases c3 : dirF F (lookF F dir s).1 = true
  · rw [if_pos c3]; intro he; cases he
  rw [if_neg c3]
  exact fun _ => ⟨rfl, h.gone dir s (Classical.not_not.1 c1) (Classical.not_not.1 c2) fun k => (c3 k).elim⟩
theorem OKF.rmdir {F : FilP} (h : OKF F) (dir : At) (s : ByteArray) (he : (rmdirF F dir s).err = 0) : rmdirF F dir s = goneF F dir s ∧ OKF (rmdirF F dir s).files := by
  revert he
  unfold rmdirF
  by_cases c1 : placeF F dir s ≠ 0
  · rw [if_pos c1]; exact fun he => (c1 he).elim
  rw [if_neg c1]
  by_cases c2 : (lookF F dir s).2 ≠ 0
  · rw [if_pos c2]; exact fun he => (c2 he).elim
  rw [if_neg c2]
  by_cases c3 : dirF F (lookF F dir s).1 = false
  · rw [if_pos c3]; intro he; cases he
  rw [if_neg c3]
  by_cases c4 : emptyF F (lookF F dir s).1 = false
  · rw [if_pos c4]; intro he; cases he
  rw [if_neg c4]
  exact fun _ => ⟨rfl, h.gone dir s (Classical.not_not.1 c1) (Classical.not_not.1 c2) fun _ => by simpa using c4⟩
theorem OKF.set {F : FilP} (h : OKF F) (x : At) (m u g : Int) (he : (setFF F x m u g).2 = 0) : OKF (setFF F x m u g).1 := by
  revert he
  unfold setFF
  cases hx : nodeF F x with
  | none => intro he; cases he
  | some n =>
    show (if plainB (attF m u g n) = false then (([], 22) : FilP × Int) else (onF F x.dev fun d => modD d x.ino (attF m u g), 0)).2 = 0 → OKF (if plainB (attF m u g n) = false then (([], 22) : FilP × Int) else (onF F x.dev fun d => modD d x.ino (attF m u g), 0)).1
    by_cases c : plainB (attF m u g n) = false
    · rw [if_pos c]; intro he; cases he
    rw [if_neg c]
    intro _
    obtain ⟨d, hd, hn⟩ := nodeF_of hx
    exact h.on hd ((h.dev hd).att hn (by simpa using c))
theorem new_ok {n : Int} (h : (newP n).2 = 0) : OKF (newP n).1 := by
  revert h
  unfold newP
  by_cases c : 1 ≤ n ∧ n ≤ 3
  · rw [if_pos c]
    intro _
    refine ⟨by rw [List.length_replicate]; omega, fun d hd => ?_⟩
    rw [(List.mem_replicate.1 hd).2]
    exact devB_iff.1 (by decide +kernel)
  · rw [if_neg c]; intro h; cases h
end Go.Proofs.Ytafnbpkdenjipaa.fl
namespace Go.Proofs.Ytafnbpkdenjipaa.fl
open Go.Proofs.Ytafnbpkdenjipaa.pt

theorem first_none {a b : Int} : ∀ {l : List Int}, firstE a b l = none → ∀ e ∈ l, a ≠ e ∧ b ≠ e
  | [], _ => fun _ h => by cases h
  | x :: l, h => by
    unfold firstE at h
    split at h
    · cases h
    · rename_i hn
      intro e he
      rcases List.mem_cons.1 he with k | k
      · rw [k]; exact ⟨fun z => hn (.inl z), fun z => hn (.inr z)⟩
      · exact first_none h e k
theorem place_cases (F : FilP) (dir : At) (s : ByteArray) : placeF F dir s = 0 ∨ placeF F dir s = 2 ∨ placeF F dir s = 20 ∨ placeF F dir s = 22 := by
  unfold placeF
  split
  · exact .inr (.inl rfl)
  · split
    · exact .inr (.inr (.inl rfl))
    · split
      · exact .inl rfl
      · exact .inr (.inr (.inr rfl))
theorem place_first {F : FilP} {x y : At} {s t : ByteArray} (h : firstE (placeF F x s) (placeF F y t) [2, 20, 22] = none) : placeF F x s = 0 ∧ placeF F y t = 0 := by
  have h1 := first_none h 2 (by simp)
  have h2 := first_none h 20 (by simp)
  have h3 := first_none h 22 (by simp)
  constructor
  · rcases place_cases F x s with k | k | k | k
    · exact k
    · exact (h1.1 k).elim
    · exact (h2.1 k).elim
    · exact (h3.1 k).elim
  · rcases place_cases F y t with k | k | k | k
    · exact k
    · exact (h1.2 k).elim
    · exact (h2.2 k).elim
    · exact (h3.2 k).elim
theorem first_pos {a b : Int} : ∀ {l : List Int} {e : Int}, firstE a b l = some e → e ∈ l
  | x :: l, e, h => by
    unfold firstE at h
    split at h
    · injection h with h; rw [h]; exact List.mem_cons_self
    · exact List.mem_cons_of_mem _ (first_pos h)

/-- what Rename does, where it returns no error -/
theorem OKF.rename {F : FilP} (h : OKF F) (x : At) (s : ByteArray) (y : At) (t : ByteArray) (he : (renameF F x s y t).err = 0) :
    OKF (renameF F x s y t).files ∧ ∃ (d : DevP) (p q m : NodeP) (a : Int), devF F x.dev = some d ∧ x.dev = y.dev ∧ nodeD d x.ino = some p ∧ p.kind = 2 ∧ nodeD d y.ino = some q ∧ q.kind = 2 ∧ findE p.ents s = some a ∧ nodeD d a = some m ∧ nm t = true ∧
      ((findE q.ents t = some a ∧ renameF F x s y t = ⟨F, [], 0⟩) ∨
       (∃ (o : Int) (mo : NodeP), findE q.ents t = some o ∧ o ≠ a ∧ nodeD d o = some mo ∧ mo.ents = [] ∧ renameF F x s y t = ⟨onF F y.dev fun d => replD d x.ino s y.ino t a (decide (m.kind = 2)) o, [⟨x, s, ⟨x.dev, a⟩, zA⟩, ⟨y, t, ⟨x.dev, o⟩, ⟨x.dev, a⟩⟩], 0⟩) ∨
       (findE q.ents t = none ∧ renameF F x s y t = ⟨onF F y.dev fun d => moveD d x.ino s y.ino t a (decide (m.kind = 2)), [⟨x, s, ⟨x.dev, a⟩, zA⟩, ⟨y, t, zA, ⟨x.dev, a⟩⟩], 0⟩)) := by
  revert he
  unfold renameF
  cases hf : firstE (placeF F x s) (placeF F y t) [2, 20, 22] with
  | some e =>
    intro he
    have he : e = 0 := he
    have := first_pos hf
    rw [he] at this
    simp at this
  | none =>
    obtain ⟨c1, c2⟩ := place_first hf
    obtain ⟨p, hp, hpk, -⟩ := place_zero c1
    obtain ⟨q, hq, hqk, hnt⟩ := place_zero c2
    obtain ⟨d, hd, hpd⟩ := nodeF_of hp
    obtain ⟨d', hd', hqd⟩ := nodeF_of hq
    dsimp only
    by_cases c3 : (lookF F x s).2 ≠ 0
    · rw [if_pos c3]; exact fun he => (c3 he).elim
    rw [if_neg c3]
    obtain ⟨a, ha, hla⟩ := look_zero_of hp hpk (Classical.not_not.1 c3)
    by_cases c4 : x.dev ≠ y.dev
    · rw [if_pos c4]; intro he; cases he
    rw [if_neg c4]
    have c4 := Classical.not_not.1 c4
    rw [← c4, hd] at hd'
    injection hd' with hd'
    subst hd'
    have hO := h.dev hd
    obtain ⟨ha1, ⟨m, hm⟩, -, -⟩ := hO.pre.look hpd ha
    have hmF : nodeF F ⟨x.dev, a⟩ = some m := by rw [nodeF_dev hd]; exact hm
    have hdir : dirF F (lookF F x s).1 = decide (m.kind = 2) := by rw [hla]; unfold dirF; rw [hmF]
    rw [hdir, hla]
    by_cases c5 : decide (m.kind = 2) = true ∧ belowF F y ⟨x.dev, a⟩ = true
    · rw [if_pos c5]; intro he; cases he
    rw [if_neg c5]
    have hb : decide (m.kind = 2) = true → ∀ k, upD d k y.ino ≠ a := fun k j e => by
      refine c5 ⟨k, ?_⟩
      unfold belowF
      rw [← c4, hd]
      show (decide (x.dev = x.dev) && (List.range 17).any fun k => decide (upD d k y.ino = a)) = true
      rw [Bool.and_eq_true]
      refine ⟨decide_eq_true rfl, List.any_eq_true.2 ?_⟩
      by_cases hj : j ≤ 16
      · exact ⟨j, by simp; omega, decide_eq_true e⟩
      · have h1 := (hO.oke 0).up_len (i := y.ino) ⟨q, hqd, hqk⟩ (k := j) (by have := hO.pre.few; omega)
        rw [h1] at e
        exact (ha1 e.symm).elim
    by_cases c6 : (lookF F y t).2 = 0
    · obtain ⟨o, ho, hlo⟩ := look_zero_of hq hqk c6
      rw [hlo]
      rw [← c4]
      by_cases c7 : (⟨x.dev, o⟩ : At) = ⟨x.dev, a⟩
      · rw [if_pos ⟨c6, c7⟩]
        injection c7 with _ c7
        intro _
        exact ⟨h, d, p, q, m, a, hd, rfl, hpd, hpk, hqd, hqk, ha, hm, hnt, .inl ⟨by rw [← c7]; exact ho, rfl⟩⟩
      · rw [if_neg (fun k => c7 k.2), if_pos c6]
        have hoa : o ≠ a := fun k => c7 (by rw [k])
        obtain ⟨-, ⟨mo, hmo⟩, -, -⟩ := hO.pre.look hqd ho
        have hmoF : nodeF F ⟨x.dev, o⟩ = some mo := by rw [nodeF_dev hd]; exact hmo
        have hdo : dirF F ⟨x.dev, o⟩ = decide (mo.kind = 2) := by unfold dirF; rw [hmoF]
        have heo : emptyF F ⟨x.dev, o⟩ = decide (mo.ents = []) := by unfold emptyF; rw [hmoF]
        rw [hdo, heo]
        by_cases c8 : decide (mo.kind = 2) = true ∧ decide (m.kind = 2) = false
        · rw [if_pos c8]; intro he; cases he
        rw [if_neg c8]
        by_cases c9 : decide (mo.kind = 2) = false ∧ decide (m.kind = 2) = true
        · rw [if_pos c9]; intro he; cases he
        rw [if_neg c9]
        by_cases c10 : decide (mo.kind = 2) = true ∧ decide (mo.ents = []) = false
        · rw [if_pos c10]; intro he; cases he
        rw [if_neg c10]
        intro _
        have hme : mo.kind = 2 → mo.ents = [] := fun k => by
          by_cases z : mo.ents = []
          · exact z
          · exact (c10 ⟨decide_eq_true k, decide_eq_false z⟩).elim
        have hmoe : mo.ents = [] := by
          by_cases k : mo.kind = 2
          · exact hme k
          · exact (hO.pre.leaf mo (mem_of hmo) k).2
        exact ⟨h.on hd (hO.repl hpd ha hqd ho hoa hnt hm hmo hme rfl hb), d, p, q, m, a, hd, rfl, hpd, hpk, hqd, hqk, ha, hm, hnt, .inr (.inl ⟨o, mo, ho, hoa, hmo, hmoe, rfl⟩)⟩
    · rw [if_neg (fun k => c6 k.1), if_neg c6]
      have hn : findE q.ents t = none ∧ (lookF F y t).1 = zA := by
        rw [look_zero hq hqk] at c6 ⊢
        cases hz : findE q.ents t with
        | none => exact ⟨rfl, rfl⟩
        | some i => rw [hz] at c6; exact (c6 rfl).elim
      by_cases c7 : fullF F y = true ∧ x ≠ y
      · rw [if_pos c7]; intro he; cases he
      rw [if_neg c7, hn.2]
      intro _
      have hroom : x.ino ≠ y.ino → q.ents.length < 12 := fun k => by
        by_cases z : 12 ≤ q.ents.length
        · refine (c7 ⟨by unfold fullF; rw [hq]; exact decide_eq_true z, fun e => k (by rw [e])⟩).elim
        · omega
      exact ⟨h.on (c4 ▸ hd) (hO.move hpd ha hqd hqk hn.1 hnt hroom hm rfl hb), d, p, q, m, a, hd, c4, hpd, hpk, hqd, hqk, ha, hm, hnt, .inr (.inr ⟨hn.1, rfl⟩)⟩
end Go.Proofs.Ytafnbpkdenjipaa.fl
namespace Go.Proofs.Ytafnbpkdenjipaa.fl
open Go.Proofs.Ytafnbpkdenjipaa.pt

/-- what an entry of a device leads to -/
def atD (d : DevP) (g : Int) (s : ByteArray) : Option Int := (nodeD d g).bind fun p => findE p.ents s
def atF (F : FilP) (dir : At) (s : ByteArray) : Option At := (devF F dir.dev).bind fun d => (atD d dir.ino s).map fun i => ⟨dir.dev, i⟩

theorem findE_rem (l : List EntP) (s t : ByteArray) : findE (remE l s) t = if t = s then none else findE l t := by
  by_cases h : t = s
  · rw [if_pos h, h]; exact find_rem l s
  · rw [if_neg h]; exact find_rem_ne l h
theorem at_mod {d : DevP} {g : Int} {p : NodeP} (hp : nodeD d g = some p) (f : NodeP → NodeP) (hf : ∀ n, (f n).ino = n.ino) (g' : Int) (s' : ByteArray) : atD (modD d g f) g' s' = if g' = g then findE (f p).ents s' else atD d g' s' := by
  unfold atD
  by_cases h : g' = g
  · subst h
    rw [mod_get f hf hp, if_pos rfl, if_pos rfl]; rfl
  · rw [if_neg h]
    cases hn : nodeD d g' with
    | none => rw [mod_none f hf hn]
    | some n => rw [mod_get f hf hn, if_neg h]
theorem at_rem {d : DevP} {g : Int} {p : NodeP} (hp : nodeD d g = some p) (s : ByteArray) (g' : Int) (s' : ByteArray) : atD (modD d g (remF s)) g' s' = if g' = g ∧ s' = s then none else atD d g' s' := by
  rw [at_mod hp (remF s) (fun _ => rfl)]
  by_cases h : g' = g
  · subst h
    rw [if_pos rfl]
    show findE (remE p.ents s) s' = _
    rw [findE_rem]
    by_cases k : s' = s
    · rw [if_pos k, if_pos ⟨rfl, k⟩]
    · rw [if_neg k, if_neg (fun z => k z.2)]
      unfold atD; rw [hp]; rfl
  · rw [if_neg h, if_neg (fun z => h z.1)]
theorem at_ins {d : DevP} {g : Int} {p : NodeP} (hp : nodeD d g = some p) (hs : SortE p.ents) (s : ByteArray) (a : Int) (g' : Int) (s' : ByteArray) : atD (modD d g (insF s a)) g' s' = if g' = g ∧ s' = s then some a else atD d g' s' := by
  rw [at_mod hp (insF s a) (fun _ => rfl)]
  by_cases h : g' = g
  · subst h
    rw [if_pos rfl]
    show findE (insE p.ents s a) s' = _
    rw [find_ins hs]
    by_cases k : s' = s
    · rw [if_pos k, if_pos ⟨rfl, k⟩]
    · rw [if_neg k, if_neg (fun z => k z.2)]
      unfold atD; rw [hp]; rfl
  · rw [if_neg h, if_neg (fun z => h z.1)]
theorem at_par {d : DevP} (a e : Int) (g' : Int) (s' : ByteArray) : atD (modD d a (parF e)) g' s' = atD d g' s' := by
  unfold atD
  cases hn : nodeD d g' with
  | none => rw [mod_none (parF e) (fun _ => rfl) hn]
  | some n =>
    rw [mod_get (parF e) (fun _ => rfl) hn]
    show findE (if g' = a then parF e n else n).ents s' = findE n.ents s'
    split <;> rfl
theorem at_drop {d : DevP} {o : Int} (h : ∀ n, nodeD d o = some n → n.ents = []) (g' : Int) (s' : ByteArray) : atD (dropD d o) g' s' = atD d g' s' := by
  unfold atD
  show (nodeL (dropL d.nodes o) g').bind _ = _
  rw [node_drop]
  by_cases k : g' = o
  · rw [if_pos k, k]
    cases hn : nodeD d o with
    | none => rfl
    | some n =>
      show none = findE n.ents s'
      rw [h n hn]; rfl
  · rw [if_neg k]; rfl
theorem at_free {d : DevP} {o : Int} (h : ∀ n, nodeD d o = some n → n.ents = []) (g' : Int) (s' : ByteArray) : atD (freeD d o) g' s' = atD d g' s' := by
  unfold freeD
  split
  · exact at_drop h g' s'
  · rfl
theorem at_add {d : DevP} {x : NodeP} (h : nodeD d x.ino = none) (he : x.ents = []) (g' : Int) (s' : ByteArray) : atD (addD d x) g' s' = atD d g' s' := by
  unfold atD
  show (nodeL (d.nodes ++ [x]) g').bind _ = _
  rw [node_app]
  by_cases k : x.ino = g'
  · rw [if_pos k]
    rw [k] at h
    rw [show nodeL d.nodes g' = none from h, h]
    show findE x.ents s' = none
    rw [he]; rfl
  · rw [if_neg k, Option.or_none]; rfl

-- the list of all entries
def entriesD (k : Int) (d : DevP) : List ChgP := d.nodes.flatMap fun n => n.ents.map fun e => ⟨⟨k, n.ino⟩, e.name, zA, ⟨k, e.ino⟩⟩
def entriesF (F : FilP) : List ChgP := (List.range F.length).flatMap fun (k : Nat) => match F[k]? with | some d => entriesD (k : Int) d | none => []
def stepC (l : List ChgP) (c : ChgP) : List ChgP := (l.filter fun x => decide (x.dir ≠ c.dir ∨ x.name ≠ c.name)) ++ if c.now ≠ zA then [⟨c.dir, c.name, zA, c.now⟩] else []
def stepL (l r : List ChgP) : List ChgP := r.foldl stepC l

/-- a list says what the entries lead to -/
def Says (l : List ChgP) (φ : At → ByteArray → Option At) : Prop := l.Nodup ∧ ∀ x, x ∈ l ↔ x.old = zA ∧ φ x.dir x.name = some x.now
theorem nodup_len : ∀ {l m : List ChgP}, l.Nodup → (∀ x ∈ l, x ∈ m) → l.length ≤ m.length
  | [], _, _, _ => Nat.zero_le _
  | x :: l, m, hn, hs => by
    obtain ⟨m1, m2, rfl⟩ := List.append_of_mem (hs x List.mem_cons_self)
    have hn' := List.nodup_cons.1 hn
    have := nodup_len (l := l) (m := m1 ++ m2) hn'.2 fun y hy => by
      have := hs y (List.mem_cons_of_mem _ hy)
      rcases List.mem_append.1 this with k | k
      · exact List.mem_append.2 (.inl k)
      · rcases List.mem_cons.1 k with k | k
        · exact (hn'.1 (k ▸ hy)).elim
        · exact List.mem_append.2 (.inr k)
    simp only [List.length_append, List.length_cons] at this ⊢
    omega
theorem Says.alike {l m : List ChgP} {φ ψ : At → ByteArray → Option At} (hl : Says l φ) (hm : Says m ψ) (h : ∀ dir s, φ dir s = ψ dir s) : l.length = m.length ∧ ∀ x ∈ l, x ∈ m := by
  have h1 : ∀ x, x ∈ l ↔ x ∈ m := fun x => by rw [hl.2, hm.2, h]
  exact ⟨Nat.le_antisymm (nodup_len hl.1 fun x hx => (h1 x).1 hx) (nodup_len hm.1 fun x hx => (h1 x).2 hx), fun x hx => (h1 x).1 hx⟩
def turn (φ : At → ByteArray → Option At) (c : ChgP) (dir : At) (s : ByteArray) : Option At := if dir = c.dir ∧ s = c.name then (if c.now = zA then none else some c.now) else φ dir s
theorem Says.step {l : List ChgP} {φ : At → ByteArray → Option At} (h : Says l φ) (c : ChgP) : Says (stepC l c) (turn φ c) := by
  have hmem : ∀ x, x ∈ stepC l c ↔ (x ∈ l ∧ (x.dir ≠ c.dir ∨ x.name ≠ c.name)) ∨ (c.now ≠ zA ∧ x = ⟨c.dir, c.name, zA, c.now⟩) := fun x => by
    unfold stepC
    rw [List.mem_append, List.mem_filter, decide_eq_true_eq]
    by_cases k : c.now ≠ zA
    · rw [if_pos k]; simp [k]
    · rw [if_neg k]; simp [k]
  constructor
  · unfold stepC
    rw [List.nodup_append]
    refine ⟨List.Pairwise.filter _ h.1, by split <;> simp, fun a ha b hb => ?_⟩
    have ha' := of_decide_eq_true (List.mem_filter.1 ha).2
    split at hb
    · have hb : b = ⟨c.dir, c.name, zA, c.now⟩ := by simpa using hb
      intro e
      rw [e, hb] at ha'
      rcases ha' with k | k <;> exact k rfl
    · cases hb
  · intro x
    rw [hmem, h.2]
    unfold turn
    by_cases k : x.dir = c.dir ∧ x.name = c.name
    · rw [if_pos k]
      constructor
      · rintro (⟨-, z⟩ | ⟨z1, z2⟩)
        · rcases z with z | z
          · exact (z k.1).elim
          · exact (z k.2).elim
        · rw [z2]; exact ⟨rfl, by rw [if_neg z1]⟩
      · rintro ⟨z1, z2⟩
        split at z2
        · cases z2
        · rename_i hz
          injection z2 with z2
          refine .inr ⟨hz, ?_⟩
          cases x
          simp only at z1 z2 k
          rw [k.1, k.2, z1, z2]
    · rw [if_neg k]
      have hk : x.dir ≠ c.dir ∨ x.name ≠ c.name := by
        by_cases z : x.dir = c.dir
        · exact .inr fun e => k ⟨z, e⟩
        · exact .inl z
      constructor
      · rintro (⟨z, -⟩ | ⟨-, z⟩)
        · exact z
        · rw [z] at k; exact (k ⟨rfl, rfl⟩).elim
      · exact fun z => .inl ⟨z, hk⟩

theorem devF_nat (F : FilP) (k : Nat) : devF F (k : Int) = F[k]? := by
  unfold devF
  rw [if_pos (Int.natCast_nonneg k), Int.toNat_natCast]
theorem mem_entriesD {k : Int} {d : DevP} (h : PreD d) {x : ChgP} : x ∈ entriesD k d ↔ x.old = zA ∧ x.dir.dev = k ∧ x.now.dev = k ∧ atD d x.dir.ino x.name = some x.now.ino := by
  unfold entriesD
  rw [List.mem_flatMap]
  constructor
  · rintro ⟨n, hn, hx⟩
    obtain ⟨e, he, rfl⟩ := List.mem_map.1 hx
    refine ⟨rfl, rfl, rfl, ?_⟩
    unfold atD
    show (nodeD d n.ino).bind _ = some e.ino
    rw [show nodeD d n.ino = some n from mem_node h.asc hn]
    exact (find_some (h.dir n hn).2.1).2 he
  · rintro ⟨h1, h2, h3, h4⟩
    unfold atD at h4
    cases hn : nodeD d x.dir.ino with
    | none => rw [hn] at h4; cases h4
    | some n =>
      rw [hn] at h4
      have hf : findE n.ents x.name = some x.now.ino := h4
      refine ⟨n, mem_of hn, List.mem_map.2 ⟨⟨x.name, x.now.ino⟩, (find_some (h.dir n (mem_of hn)).2.1).1 hf, ?_⟩⟩
      obtain ⟨⟨xd, xi⟩, xn, xo, ⟨xe, xf⟩⟩ := x
      simp only at h1 h2 h3 hn ⊢
      rw [h1, h2, h3, ino_of hn]
theorem says_entries {F : FilP} (h : OKF F) : Says (entriesF F) (atF F) := by
  constructor
  · unfold entriesF List.Nodup
    rw [List.pairwise_flatMap]
    constructor
    · intro k _
      cases hd : F[k]? with
      | none => exact List.Pairwise.nil
      | some d =>
        have hp := (h.2 d (List.mem_of_getElem? hd)).pre
        show (entriesD k d).Pairwise (· ≠ ·)
        unfold entriesD
        rw [List.pairwise_flatMap]
        constructor
        · intro n hn
          rw [List.pairwise_map]
          refine (hp.dir n hn).2.1.imp fun hab e => ?_
          injection e with _ e
          exact ne_of_lt hab e
        · refine hp.asc.imp fun {a b} hab x hx y hy e => ?_
          obtain ⟨u, -, rfl⟩ := List.mem_map.1 hx
          obtain ⟨v, -, rfl⟩ := List.mem_map.1 hy
          injection e with e
          injection e with _ e
          omega
    · refine List.pairwise_lt_range.imp fun {a b} hab x hx y hy e => ?_
      have key : ∀ (k : Nat) (z : ChgP), z ∈ (match F[k]? with | some d => entriesD k d | none => []) → z.dir.dev = k := fun k z hz => by
        cases hd : F[k]? with
        | none => rw [hd] at hz; cases hz
        | some d =>
          rw [hd] at hz
          exact ((mem_entriesD (h.2 d (List.mem_of_getElem? hd)).pre).1 hz).2.1
      have h1 := key a x hx
      have h2 := key b y hy
      rw [e] at h1
      omega
  · intro x
    unfold entriesF
    rw [List.mem_flatMap]
    constructor
    · rintro ⟨k, hk, hx⟩
      cases hd : F[k]? with
      | none => rw [hd] at hx; cases hx
      | some d =>
        rw [hd] at hx
        obtain ⟨h1, h2, h3, h4⟩ := (mem_entriesD (h.2 d (List.mem_of_getElem? hd)).pre).1 hx
        refine ⟨h1, ?_⟩
        unfold atF
        rw [h2, devF_nat, hd]
        show (atD d x.dir.ino x.name).map _ = _
        rw [h4, Option.map_some]
        congr 1
        exact At.ext' h3.symm rfl
    · rintro ⟨h1, h2⟩
      unfold atF at h2
      cases hd : devF F x.dir.dev with
      | none => rw [hd] at h2; cases h2
      | some d =>
        rw [hd] at h2
        obtain ⟨h3, h4, h5⟩ := devF_of hd
        have h6 : (atD d x.dir.ino x.name).map (fun i => (⟨x.dir.dev, i⟩ : At)) = some x.now := h2
        cases ha : atD d x.dir.ino x.name with
        | none => rw [ha] at h6; cases h6
        | some i =>
          rw [ha] at h6
          injection h6 with h6
          have hk : ((x.dir.dev.toNat : Nat) : Int) = x.dir.dev := Int.toNat_of_nonneg h3
          refine ⟨x.dir.dev.toNat, List.mem_range.2 (List.getElem?_eq_some_iff.1 h4).1, ?_⟩
          rw [h4]
          refine (mem_entriesD (h.2 d h5).pre).2 ⟨h1, hk.symm, by rw [hk, ← h6], by rw [ha, ← h6]⟩
end Go.Proofs.Ytafnbpkdenjipaa.fl
namespace Go.Proofs.Ytafnbpkdenjipaa.fl
open Go.Proofs.Ytafnbpkdenjipaa.pt

theorem devF_on {F : FilP} {k : Int} {d : DevP} (h : devF F k = some d) (f : DevP → DevP) (j : Int) : devF (onF F k f) j = if j = k then some (f d) else devF F j := by
  obtain ⟨h1, h2, -⟩ := devF_of h
  unfold devF onF
  by_cases hj : 0 ≤ j
  · rw [if_pos hj, if_pos hj, List.getElem?_modify]
    by_cases e : j = k
    · subst e
      rw [if_pos rfl, h2]; simp
    · rw [if_neg e]
      have : ¬ k.toNat = j.toNat := by omega
      simp [this]
  · rw [if_neg hj, if_neg hj, if_neg (show ¬ j = k from fun e => hj (by rw [e]; exact h1))]
theorem atF_on {F : FilP} {k : Int} {d : DevP} (h : devF F k = some d) (f : DevP → DevP) (dir : At) (s : ByteArray) : atF (onF F k f) dir s = if dir.dev = k then (atD (f d) dir.ino s).map fun i => ⟨k, i⟩ else atF F dir s := by
  unfold atF
  rw [devF_on h]
  by_cases e : dir.dev = k
  · rw [if_pos e, if_pos e, e]; rfl
  · rw [if_neg e, if_neg e]
theorem atF_dev {F : FilP} {k : Int} {d : DevP} (h : devF F k = some d) {dir : At} (e : dir.dev = k) (s : ByteArray) : atF F dir s = (atD d dir.ino s).map fun i => ⟨k, i⟩ := by
  unfold atF; rw [e, h]; rfl
/-- what Look returns is what the entry leads to -/
theorem look_at {F : FilP} (h : OKF F) (dir : At) (s : ByteArray) : (lookF F dir s).1 = (atF F dir s).getD zA := by
  unfold lookF atF nodeF
  cases hd : devF F dir.dev with
  | none => rfl
  | some d =>
    show (match nodeD d dir.ino with | none => (zA, (2 : Int)) | some n => if n.kind ≠ 2 then (zA, 20) else match findE n.ents s with | some i => (⟨dir.dev, i⟩, 0) | none => (zA, 2)).1 = ((atD d dir.ino s).map fun i => (⟨dir.dev, i⟩ : At)).getD zA
    unfold atD
    cases hn : nodeD d dir.ino with
    | none => rfl
    | some n =>
      show (if n.kind ≠ 2 then (zA, (20 : Int)) else match findE n.ents s with | some i => (⟨dir.dev, i⟩, 0) | none => (zA, 2)).1 = ((findE n.ents s).map fun i => (⟨dir.dev, i⟩ : At)).getD zA
      by_cases k : n.kind ≠ 2
      · rw [if_pos k, ((h.dev hd).pre.leaf n (mem_of hn) k).2]; rfl
      · rw [if_neg k]
        cases findE n.ents s with
        | none => rfl
        | some i => rfl
/-- one entry of one device leads elsewhere -/
theorem turn_on {F : FilP} {k : Int} {d : DevP} (h : devF F k = some d) (f : DevP → DevP) {g : Int} {s : ByteArray} {v : Option Int} {c : ChgP} (hc1 : c.dir = ⟨k, g⟩) (hc2 : c.name = s) (hv : (v.map fun i => (⟨k, i⟩ : At)) = if c.now = zA then none else some c.now)
    (hf : ∀ g' s', atD (f d) g' s' = if g' = g ∧ s' = s then v else atD d g' s') (dir : At) (s' : ByteArray) : atF (onF F k f) dir s' = turn (atF F) c dir s' := by
  rw [atF_on h]
  unfold turn
  by_cases e : dir.dev = k
  · rw [if_pos e, hf]
    by_cases z : dir.ino = g ∧ s' = s
    · rw [if_pos z, hv, if_pos (show dir = c.dir ∧ s' = c.name from ⟨by rw [hc1]; exact At.ext' e z.1, by rw [hc2]; exact z.2⟩)]
    · rw [if_neg z, if_neg (fun y => z ⟨by rw [y.1, hc1], by rw [y.2, hc2]⟩), atF_dev h e]
  · rw [if_neg e, if_neg (fun y => e (by rw [y.1, hc1]))]

structure KeptR (F : FilP) (r : ResP) : Prop where
  ok : OKF r.files
  len : r.files.length = F.length
  few : r.chg.length ≤ 2
  turns : ∀ dir s, atF r.files dir s = (r.chg.foldl turn (atF F)) dir s
  told : ∀ c ∈ r.chg, c.old = (lookF F c.dir c.name).1 ∧ c.now = (lookF r.files c.dir c.name).1 ∧ c.old ≠ c.now
  once : ∀ a b, r.chg = [a, b] → ¬ (a.dir = b.dir ∧ a.name = b.name)
theorem says_fold {φ : At → ByteArray → Option At} : ∀ (r : List ChgP) {l : List ChgP}, Says l φ → Says (stepL l r) (r.foldl turn φ) := by
  intro r
  induction r generalizing φ with
  | nil => exact fun h => h
  | cons c r ih => exact fun h => ih (h.step c)
/-- the changes, applied to the list of all entries, give the list of all entries behind the call -/
theorem KeptR.alike {F : FilP} {r : ResP} (h : OKF F) (hr : KeptR F r) : (stepL (entriesF F) r.chg).length = (entriesF r.files).length ∧ ∀ x ∈ stepL (entriesF F) r.chg, x ∈ entriesF r.files :=
  (says_fold r.chg (says_entries h)).alike (says_entries hr.ok) fun dir s => (hr.turns dir s).symm
theorem ino_pos {d : DevP} (h : PreD d) {a : Int} {m : NodeP} (hm : nodeD d a = some m) : 1 ≤ a := by have := (h.low m (mem_of hm)).1; rwa [ino_of hm] at this
theorem ne_zA {k a : Int} (h : 1 ≤ a) : (⟨k, a⟩ : At) ≠ zA := fun e => by injection e with _ e; omega
/-- one change -/
theorem kept_one {F : FilP} (h : OKF F) {k : Int} {d : DevP} (hd : devF F k = some d) {f : DevP → DevP} {g : Int} {s : ByteArray} {v : Option Int} {o w : At} (hok : OKF (onF F k f)) (hv : (v.map fun i => (⟨k, i⟩ : At)) = if w = zA then none else some w)
    (hf : ∀ g' s', atD (f d) g' s' = if g' = g ∧ s' = s then v else atD d g' s') (ho : o = ((atD d g s).map fun i => (⟨k, i⟩ : At)).getD zA) (hne : o ≠ w) : KeptR F ⟨onF F k f, [⟨⟨k, g⟩, s, o, w⟩], 0⟩ := by
  have ht := turn_on hd f (c := ⟨⟨k, g⟩, s, o, w⟩) rfl rfl hv hf
  refine ⟨hok, onF_len _ _ _, by simp, ht, fun c hc => ?_, fun a b e => by cases e⟩
  obtain rfl : c = ⟨⟨k, g⟩, s, o, w⟩ := by simpa using hc
  refine ⟨?_, ?_, hne⟩
  · rw [look_at h, ho]
    show _ = (atF F ⟨k, g⟩ s).getD zA
    rw [atF_dev hd (dir := ⟨k, g⟩) rfl]
  · show w = (lookF (onF F k f) ⟨k, g⟩ s).1
    rw [look_at hok, ht]
    unfold turn
    rw [if_pos ⟨rfl, rfl⟩]
    show w = Option.getD (if w = zA then none else some w) zA
    split
    · rename_i e; rw [e]; rfl
    · rfl
theorem atD_node {d : DevP} {g : Int} {p : NodeP} (hp : nodeD d g = some p) (s : ByteArray) : atD d g s = findE p.ents s := by unfold atD; rw [hp]; rfl

theorem gone_kept {F : FilP} (h : OKF F) (dir : At) (s : ByteArray) (c1 : placeF F dir s = 0) (c2 : (lookF F dir s).2 = 0) (he : dirF F (lookF F dir s).1 = true → emptyF F (lookF F dir s).1 = true) : KeptR F (goneF F dir s) := by
  have hok := h.gone dir s c1 c2 he
  obtain ⟨p, hp, hk, hn⟩ := place_zero c1
  obtain ⟨d, hd, hpd⟩ := nodeF_of hp
  obtain ⟨i, hi, hl⟩ := look_zero_of hp hk c2
  have hO := h.dev hd
  obtain ⟨hi1, ⟨m, hm⟩, -, hc⟩ := hO.pre.look hpd hi
  have hmF : nodeF F ⟨dir.dev, i⟩ = some m := by rw [nodeF_dev hd]; exact hm
  have hme : m.ents = [] := by
    by_cases k : m.kind = 2
    · have h1 : dirF F (lookF F dir s).1 = true := by rw [hl]; unfold dirF; rw [hmF]; exact decide_eq_true k
      have h2 := he h1
      rw [hl] at h2
      unfold emptyF at h2
      rw [hmF] at h2
      exact of_decide_eq_true h2
    · exact (hO.pre.leaf m (mem_of hm) k).2
  have hig : i ≠ dir.ino := fun e => by
    rw [e] at hm
    rw [hm] at hpd
    injection hpd with hpd
    rw [← hpd, hme, cnt_nil] at hc
    omega
  unfold goneF at hok ⊢
  rw [hl] at hok ⊢
  have hfr : ∀ n, nodeD (modD d dir.ino (remF s)) i = some n → n.ents = [] := fun n hn => by
    rw [mod_get (remF s) (fun _ => rfl) hm, if_neg hig] at hn
    injection hn with hn
    rw [← hn]; exact hme
  refine kept_one h hd (g := dir.ino) (s := s) (v := none) hok (by rw [if_pos rfl]; rfl) (fun g' s' => ?_) ?_ (ne_zA (ino_pos hO.pre hm))
  · show atD (freeD (modD d dir.ino (remF s)) i) g' s' = _
    rw [at_free hfr, at_rem hpd]
  · rw [atD_node hpd, hi]; rfl
theorem unlink_kept {F : FilP} (h : OKF F) (dir : At) (s : ByteArray) (he : (unlinkF F dir s).err = 0) : KeptR F (unlinkF F dir s) := by
  rw [(h.unlink dir s he).1]
  revert he
  unfold unlinkF
  by_cases c1 : placeF F dir s ≠ 0
  · rw [if_pos c1]; exact fun he => (c1 he).elim
  rw [if_neg c1]
  by_cases c2 : (lookF F dir s).2 ≠ 0
  · rw [if_pos c2]; exact fun he => (c2 he).elim
  rw [if_neg c2]
  by_cases c3 : dirF F (lookF F dir s).1 = true
  · rw [if_pos c3]; intro he; cases he
  exact fun _ => gone_kept h dir s (Classical.not_not.1 c1) (Classical.not_not.1 c2) fun k => (c3 k).elim
theorem rmdir_kept {F : FilP} (h : OKF F) (dir : At) (s : ByteArray) (he : (rmdirF F dir s).err = 0) : KeptR F (rmdirF F dir s) := by
  rw [(h.rmdir dir s he).1]
  revert he
  unfold rmdirF
  by_cases c1 : placeF F dir s ≠ 0
  · rw [if_pos c1]; exact fun he => (c1 he).elim
  rw [if_neg c1]
  by_cases c2 : (lookF F dir s).2 ≠ 0
  · rw [if_pos c2]; exact fun he => (c2 he).elim
  rw [if_neg c2]
  by_cases c3 : dirF F (lookF F dir s).1 = false
  · rw [if_pos c3]; intro he; cases he
  rw [if_neg c3]
  by_cases c4 : emptyF F (lookF F dir s).1 = false
  · rw [if_pos c4]; intro he; cases he
  exact fun _ => gone_kept h dir s (Classical.not_not.1 c1) (Classical.not_not.1 c2) fun _ => by simpa using c4
theorem link_kept {F : FilP} (h : OKF F) (dir : At) (s : ByteArray) (x : At) (he : (linkF F dir s x).err = 0) : KeptR F (linkF F dir s x) := by
  have hok := (h.link dir s x he).1
  revert he hok
  unfold linkF
  by_cases c1 : placeF F dir s ≠ 0
  · rw [if_pos c1]; exact fun he => (c1 he).elim
  rw [if_neg c1]
  cases hx : nodeF F x with
  | none => intro he; cases he
  | some n =>
    dsimp only
    by_cases c2 : x.dev ≠ dir.dev
    · rw [if_pos c2]; intro he; cases he
    rw [if_neg c2]
    by_cases c3 : n.kind = 2
    · rw [if_pos c3]; intro he; cases he
    rw [if_neg c3]
    by_cases c4 : (lookF F dir s).2 = 0
    · rw [if_pos c4]; intro he; cases he
    rw [if_neg c4]
    by_cases c5 : fullF F dir = true
    · rw [if_pos c5]; intro he; cases he
    rw [if_neg c5]
    intro _ hok
    have c2 := Classical.not_not.1 c2
    obtain ⟨p, hp, hk, hn⟩ := place_zero (Classical.not_not.1 c1)
    obtain ⟨d, hd, hpd⟩ := nodeF_of hp
    obtain ⟨d', hd', hxd⟩ := nodeF_of hx
    rw [c2, hd] at hd'
    injection hd' with hd'
    subst hd'
    rw [look_zero hp hk] at c4
    have hf : findE p.ents s = none := by
      cases hx : findE p.ents s with
      | none => rfl
      | some i => rw [hx] at c4; exact (c4 rfl).elim
    have hxn : x ≠ zA := fun e => by
      have := ino_pos (h.dev hd).pre hxd
      rw [e] at this
      exact absurd this (by decide)
    refine kept_one h hd (g := dir.ino) (s := s) (v := some x.ino) hok ?_ (fun g' s' => at_ins hpd ((h.dev hd).pre.dir p (mem_of hpd)).2.1 s x.ino g' s') ?_ (fun e => hxn e.symm)
    · rw [if_neg hxn, ← c2]; rfl
    · rw [atD_node hpd, hf]; rfl
end Go.Proofs.Ytafnbpkdenjipaa.fl
namespace Go.Proofs.Ytafnbpkdenjipaa.fl
open Go.Proofs.Ytafnbpkdenjipaa.pt

theorem make_form {F : FilP} {dir : At} {s : ByteArray} {n : NodeP} (he : (makeF F dir s n).err = 0) :
    ∃ (d : DevP) (p : NodeP), devF F dir.dev = some d ∧ nodeD d dir.ino = some p ∧ p.kind = 2 ∧ nm s = true ∧ findE p.ents s = none ∧
      makeF F dir s n = ⟨onF F dir.dev fun d => modD (addD d (newN d dir.ino n)) dir.ino (insF s d.next), [⟨dir, s, zA, ⟨dir.dev, d.next⟩⟩], 0⟩ := by
  revert he
  unfold makeF
  by_cases c1 : placeF F dir s ≠ 0
  · rw [if_pos c1]; exact fun he => (c1 he).elim
  rw [if_neg c1]
  by_cases c2 : plainB n = false
  · rw [if_pos c2]; intro he; cases he
  rw [if_neg c2]
  by_cases c3 : (lookF F dir s).2 = 0
  · rw [if_pos c3]; intro he; cases he
  rw [if_neg c3]
  obtain ⟨p, hp, hk, hn⟩ := place_zero (Classical.not_not.1 c1)
  obtain ⟨d, hd, hpd⟩ := nodeF_of hp
  rw [look_zero hp hk] at c3
  have hf : findE p.ents s = none := by
    cases hx : findE p.ents s with
    | none => rfl
    | some i => rw [hx] at c3; exact (c3 rfl).elim
  rw [hd]
  dsimp only
  by_cases c4 : 16 ≤ d.nodes.length ∨ d.next = 1073741824 ∨ fullF F dir = true
  · rw [if_pos c4]; intro he; cases he
  rw [if_neg c4]
  exact fun _ => ⟨d, p, rfl, hpd, hk, hn, hf, rfl⟩
theorem make_kept {F : FilP} (h : OKF F) (dir : At) (s : ByteArray) (n : NodeP) (he : (makeF F dir s n).err = 0) : KeptR F (makeF F dir s n) := by
  have hok := (h.make dir s n he).1
  obtain ⟨d, p, hd, hpd, hk, hn, hf, hr⟩ := make_form he
  rw [hr] at hok ⊢
  have hO := h.dev hd
  have hnx := hO.pre.nxt
  have hzn : (⟨dir.dev, d.next⟩ : At) ≠ zA := ne_zA (by omega)
  have hpx : nodeD (addD d (newN d dir.ino n)) dir.ino = some p := by
    show nodeL (d.nodes ++ [newN d dir.ino n]) dir.ino = some p
    rw [node_app, show nodeL d.nodes dir.ino = some p from hpd]; rfl
  refine kept_one h hd (g := dir.ino) (s := s) (v := some d.next) hok ?_ (fun g' s' => ?_) ?_ (fun e => hzn e.symm)
  · rw [if_neg hzn]; rfl
  · show atD (modD (addD d (newN d dir.ino n)) dir.ino (insF s d.next)) g' s' = _
    rw [at_ins hpx (hO.pre.dir p (mem_of hpd)).2.1, at_add (x := newN d dir.ino n) hO.pre.next_none rfl]
  · rw [atD_node hpd, hf]; rfl

/-- two changes of one device -/
theorem kept_two {F : FilP} (h : OKF F) {k : Int} {d : DevP} (hd : devF F k = some d) {f : DevP → DevP} {g e : Int} {s t : ByteArray} {a : Int} {o : Option Int} (hok : OKF (onF F k f)) (ha : 1 ≤ a)
    (hf : ∀ g' s', atD (f d) g' s' = if g' = e ∧ s' = t then some a else if g' = g ∧ s' = s then none else atD d g' s') (hs : atD d g s = some a) (ht : atD d e t = o) (hoa : o ≠ some a) :
    KeptR F ⟨onF F k f, [⟨⟨k, g⟩, s, ⟨k, a⟩, zA⟩, ⟨⟨k, e⟩, t, (o.map fun i => (⟨k, i⟩ : At)).getD zA, ⟨k, a⟩⟩], 0⟩ := by
  have hza : (⟨k, a⟩ : At) ≠ zA := ne_zA ha
  have hkey : ¬ (g = e ∧ s = t) := fun z => hoa (by rw [← ht, ← z.1, ← z.2, hs])
  have hturn : ∀ dir s', atF (onF F k f) dir s' = turn (turn (atF F) ⟨⟨k, g⟩, s, ⟨k, a⟩, zA⟩) ⟨⟨k, e⟩, t, (o.map fun i => (⟨k, i⟩ : At)).getD zA, ⟨k, a⟩⟩ dir s' := fun dir s' => by
    rw [atF_on hd]
    unfold turn
    dsimp only
    rw [if_neg hza, if_pos rfl]
    by_cases z : dir.dev = k
    · rw [if_pos z, hf]
      by_cases z1 : dir.ino = e ∧ s' = t
      · rw [if_pos z1, if_pos (show dir = ⟨k, e⟩ ∧ s' = t from ⟨At.ext' z z1.1, z1.2⟩)]; rfl
      · rw [if_neg z1, if_neg (show ¬ (dir = ⟨k, e⟩ ∧ s' = t) from fun y => z1 ⟨by rw [y.1], y.2⟩)]
        by_cases z2 : dir.ino = g ∧ s' = s
        · rw [if_pos z2, if_pos (show dir = ⟨k, g⟩ ∧ s' = s from ⟨At.ext' z z2.1, z2.2⟩)]; rfl
        · rw [if_neg z2, if_neg (show ¬ (dir = ⟨k, g⟩ ∧ s' = s) from fun y => z2 ⟨by rw [y.1], y.2⟩), atF_dev hd z]
    · rw [if_neg z, if_neg (show ¬ (dir = ⟨k, e⟩ ∧ s' = t) from fun y => z (by rw [y.1])), if_neg (show ¬ (dir = ⟨k, g⟩ ∧ s' = s) from fun y => z (by rw [y.1]))]
  refine ⟨hok, onF_len _ _ _, by simp, hturn, fun c hc => ?_, fun x y exy => ?_⟩
  · have hc : c = ⟨⟨k, g⟩, s, ⟨k, a⟩, zA⟩ ∨ c = ⟨⟨k, e⟩, t, (o.map fun i => (⟨k, i⟩ : At)).getD zA, ⟨k, a⟩⟩ := by simpa using hc
    have hln : ∀ dir s', (lookF (onF F k f) dir s').1 = (atF (onF F k f) dir s').getD zA := look_at hok
    rcases hc with rfl | rfl
    · refine ⟨?_, ?_, hza⟩
      · rw [look_at h]
        show _ = (atF F ⟨k, g⟩ s).getD zA
        rw [atF_dev hd (dir := ⟨k, g⟩) rfl, hs]; rfl
      · show zA = (lookF (onF F k f) ⟨k, g⟩ s).1
        rw [hln, atF_on hd, if_pos (show (⟨k, g⟩ : At).dev = k from rfl), hf, if_neg hkey, if_pos (show (⟨k, g⟩ : At).ino = g ∧ s = s from ⟨rfl, rfl⟩)]; rfl
    · refine ⟨?_, ?_, ?_⟩
      · rw [look_at h]
        show _ = (atF F ⟨k, e⟩ t).getD zA
        rw [atF_dev hd (dir := ⟨k, e⟩) rfl, ht]
      · show (⟨k, a⟩ : At) = (lookF (onF F k f) ⟨k, e⟩ t).1
        rw [hln, atF_on hd, if_pos (show (⟨k, e⟩ : At).dev = k from rfl), hf, if_pos (show (⟨k, e⟩ : At).ino = e ∧ t = t from ⟨rfl, rfl⟩)]; rfl
      · show (o.map fun i => (⟨k, i⟩ : At)).getD zA ≠ ⟨k, a⟩
        cases o with
        | none => exact fun z => hza z.symm
        | some i => exact fun z => hoa (by injection z with _ z; rw [z])
  · injection exy with e1 e2
    injection e2 with e2 _
    subst e1; subst e2
    exact fun z => hkey ⟨by have := z.1; injection this, z.2⟩
theorem at_two {d : DevP} (h : PreD d) {g e a : Int} {p q : NodeP} (hp : nodeD d g = some p) (hq : nodeD d e = some q) (s t : ByteArray) (g' : Int) (s' : ByteArray) :
    atD (modD (modD d g (remF s)) e (insF t a)) g' s' = if g' = e ∧ s' = t then some a else if g' = g ∧ s' = s then none else atD d g' s' := by
  have hq1 := mod_get (g := g) (remF s) (fun _ => rfl) hq
  have hs1 : SortE (if e = g then remF s q else q).ents := by
    split
    · exact sort_rem (h.dir q (mem_of hq)).2.1 s
    · exact (h.dir q (mem_of hq)).2.1
  rw [at_ins hq1 hs1, at_rem hp]
theorem rename_kept {F : FilP} (h : OKF F) (x : At) (s : ByteArray) (y : At) (t : ByteArray) (he : (renameF F x s y t).err = 0) : KeptR F (renameF F x s y t) := by
  obtain ⟨hok, d, p, q, m, a, hd, hxy, hp, hpk, hq, hqk, ha, hm, hnt, hcase⟩ := h.rename x s y t he
  have hO := h.dev hd
  have ha1 := ino_pos hO.pre hm
  rcases hcase with ⟨-, hr⟩ | ⟨o, mo, ho, hoa, hmo, hmoe, hr⟩ | ⟨hno, hr⟩
  · rw [hr]
    exact ⟨h, rfl, by simp, fun _ _ => rfl, (fun c hc => by cases hc), fun a b e => by cases e⟩
  · rw [hr] at hok ⊢
    obtain ⟨xd, xi⟩ := x
    obtain ⟨yd, yi⟩ := y
    simp only at hxy hd hp hq hok ⊢
    subst hxy
    have hgo : o ≠ xi := fun e => by
      rw [e, hp] at hmo
      injection hmo with hmo
      rw [hmo, hmoe] at ha
      cases ha
    have heo : o ≠ yi := fun e => by
      rw [e, hq] at hmo
      injection hmo with hmo
      rw [hmo, hmoe] at ho
      cases ho
    refine kept_two h hd (o := some o) hok ha1 (fun g' s' => ?_) (by rw [atD_node hp, ha]) (by rw [atD_node hq, ho]) (fun z => hoa (by injection z))
    have hfr : ∀ n, nodeD (modD (modD d xi (remF s)) yi (insF t a)) o = some n → n.ents = [] := fun n hn => by
      have h1 := mod_get (g := xi) (remF s) (fun _ => rfl) hmo
      rw [if_neg hgo] at h1
      have h2 := mod_get (g := yi) (insF t a) (fun _ => rfl) h1
      rw [if_neg heo, hn] at h2
      injection h2 with h2
      rw [h2]; exact hmoe
    show atD (replD d xi s yi t a (decide (m.kind = 2)) o) g' s' = _
    unfold replD
    dsimp only
    split
    · rw [at_par, at_free hfr, at_two hO.pre hp hq]
    · rw [at_free hfr, at_two hO.pre hp hq]
  · rw [hr] at hok ⊢
    obtain ⟨xd, xi⟩ := x
    obtain ⟨yd, yi⟩ := y
    simp only at hxy hd hp hq hok ⊢
    subst hxy
    refine kept_two h hd (o := none) hok ha1 (fun g' s' => ?_) (by rw [atD_node hp, ha]) (by rw [atD_node hq, hno]) (fun z => by cases z)
    show atD (moveD d xi s yi t a (decide (m.kind = 2))) g' s' = _
    unfold moveD
    dsimp only
    split
    · rw [at_par, at_two hO.pre hp hq]
    · rw [at_two hO.pre hp hq]

/-- what a change leads to was there before, or bears the number that was next -/
def Fresh (F : FilP) (r : ResP) : Prop := ∀ c ∈ r.chg, (nodeF F c.now).isSome = true ∨ c.now = zA ∨ ∃ d d', devF F c.now.dev = some d ∧ c.now.ino = d.next ∧ devF r.files c.now.dev = some d' ∧ d'.next = d.next + 1
theorem make_fresh {F : FilP} {dir : At} {s : ByteArray} {n : NodeP} (he : (makeF F dir s n).err = 0) : Fresh F (makeF F dir s n) := by
  obtain ⟨d, p, hd, hpd, hk, hn, hf, hr⟩ := make_form he
  rw [hr]
  intro c hc
  obtain rfl : c = ⟨dir, s, zA, ⟨dir.dev, d.next⟩⟩ := by simpa using hc
  refine .inr (.inr ⟨d, modD (addD d (newN d dir.ino n)) dir.ino (insF s d.next), hd, rfl, ?_, rfl⟩)
  show devF (onF F dir.dev _) dir.dev = some _
  rw [devF_on hd, if_pos rfl]
theorem gone_fresh (F : FilP) (dir : At) (s : ByteArray) : Fresh F (goneF F dir s) := by
  intro c hc
  have hc : c = ⟨dir, s, (lookF F dir s).1, zA⟩ := by simpa [goneF] using hc
  rw [hc]; exact .inr (.inl rfl)
theorem rename_fresh {F : FilP} (h : OKF F) {x : At} {s : ByteArray} {y : At} {t : ByteArray} (he : (renameF F x s y t).err = 0) : Fresh F (renameF F x s y t) := by
  obtain ⟨hok, d, p, q, m, a, hd, hxy, hp, hpk, hq, hqk, ha, hm, hnt, hcase⟩ := h.rename x s y t he
  have hmF : (nodeF F ⟨x.dev, a⟩).isSome = true := by rw [nodeF_dev hd, hm]; rfl
  rcases hcase with ⟨-, hr⟩ | ⟨o, mo, ho, hoa, hmo, hmoe, hr⟩ | ⟨hno, hr⟩
  · rw [hr]; intro c hc; cases hc
  · rw [hr]
    intro c hc
    rcases List.mem_cons.1 hc with rfl | hc
    · exact .inr (.inl rfl)
    · obtain rfl := List.mem_singleton.1 hc
      exact .inl hmF
  · rw [hr]
    intro c hc
    rcases List.mem_cons.1 hc with rfl | hc
    · exact .inr (.inl rfl)
    · obtain rfl := List.mem_singleton.1 hc
      exact .inl hmF
end Go.Proofs.Ytafnbpkdenjipaa.fl
namespace Go.Proofs.Ytafnbpkdenjipaa.fl
open Go.Proofs.Ytafnbpkdenjipaa.pt

theorem rem_ins {l : List EntP} (hs : SortE l) {s : ByteArray} (h : findE l s = none) (a : Int) : remE (insE l s a) s = l := by
  have key : ∀ l : List EntP, SortE l → findE l s = none → (l.filter fun e => decide (lt e.name s)) ++ (l.filter fun e => decide (lt s e.name)) = l := by
    intro l
    induction l with
    | nil => exact fun _ _ => rfl
    | cons e l ih =>
      intro hs h
      have hs' := List.pairwise_cons.1 hs
      have h' := find_none.1 h
      have hn : findE l s = none := find_none.2 fun x hx => h' x (List.mem_cons_of_mem _ hx)
      rcases lt_total _ _ (h' e List.mem_cons_self) with k | k
      · rw [List.filter_cons_of_pos (by simpa using k), List.filter_cons_of_neg (by simpa using lt_asymm k), List.cons_append, ih hs'.2 hn]
      · have e1 : (l.filter fun e => decide (lt e.name s)) = [] := List.filter_eq_nil_iff.2 fun x hx => by
          have := lt_asymm (lt_trans k (hs'.1 x hx))
          simpa using this
        have e2 : (l.filter fun e => decide (lt s e.name)) = l := List.filter_eq_self.2 fun x hx => by
          simpa using lt_trans k (hs'.1 x hx)
        rw [List.filter_cons_of_neg (by simpa using lt_asymm k), List.filter_cons_of_pos (by simpa using k), e1, e2]; rfl
  unfold insE remE
  rw [List.filter_append, List.filter_cons_of_neg (by simp), List.filter_filter, List.filter_filter]
  have e1 : (l.filter fun e => decide (e.name ≠ s) && decide (lt e.name s)) = l.filter fun e => decide (lt e.name s) := by
    congr 1
    funext e
    by_cases k : lt e.name s
    · simp [k, ne_of_lt k]
    · simp [k]
  have e2 : (l.filter fun e => decide (e.name ≠ s) && decide (lt s e.name)) = l.filter fun e => decide (lt s e.name) := by
    congr 1
    funext e
    by_cases k : lt s e.name
    · simp [k, (ne_of_lt k).symm]
    · simp [k]
  rw [e1, e2]
  exact key l hs h
theorem ins_back {l : List EntP} (hs : SortE l) {s : ByteArray} {a : Int} (h : findE l s = some a) : insE (remE l s) s a = l := by
  rw [ins_rem]
  induction l with
  | nil => cases h
  | cons e l ih =>
    have hs' := List.pairwise_cons.1 hs
    rw [find_cons] at h
    unfold insE
    by_cases k : e.name = s
    · rw [if_pos k] at h
      injection h with h
      subst h; subst k
      have e1 : (l.filter fun x => decide (lt x.name e.name)) = [] := List.filter_eq_nil_iff.2 fun x hx => by
        have := lt_asymm (hs'.1 x hx)
        simpa using this
      have e2 : (l.filter fun x => decide (lt e.name x.name)) = l := List.filter_eq_self.2 fun x hx => by
        simpa using hs'.1 x hx
      rw [List.filter_cons_of_neg (by simpa using lt_irrefl _), List.filter_cons_of_neg (by simpa using lt_irrefl _), e1, e2]; rfl
    · rw [if_neg k] at h
      have hm := (find_some hs'.2).1 h
      have hl : lt e.name s := hs'.1 _ hm
      have := ih hs'.2 h
      unfold insE at this
      rw [List.filter_cons_of_pos (by simpa using hl), List.filter_cons_of_neg (by simpa using lt_asymm hl), List.cons_append, this]
theorem mod_id {l : List NodeP} (ha : AscL l) {g : Int} {p : NodeP} (hp : nodeL l g = some p) {f : NodeP → NodeP} (h : f p = p) : modL l g f = l := by
  rw [mod_eq ha hp (k := fun n => n) h]
  unfold modL
  conv => rhs; rw [← List.map_id l]
  apply List.map_congr_left
  intro n _
  split <;> rfl

/-- the place where a directory lies -/
theorem OKD.holder {d : DevP} (h : OKD d) {g a : Int} {p m : NodeP} {s : ByteArray} (hp : nodeD d g = some p) (hs : findE p.ents s = some a) (hm : nodeD d a = some m) (hk : m.kind = 2) : m.parent = g := by
  obtain ⟨ha, -, -, hc⟩ := h.pre.look hp hs
  obtain ⟨h1, q, hq, hcq⟩ := h.once m (mem_of hm) (by rw [ino_of hm]; exact ha) hk
  rw [ino_of hm] at h1 hcq
  by_cases e : m.parent = g
  · exact e
  · have key : ∀ l : List NodeP, AscL l → ∀ {u v : NodeP} {i j : Int}, nodeL l i = some u → nodeL l j = some v → i ≠ j → 1 ≤ cnt u.ents a → 1 ≤ cnt v.ents a → 2 ≤ linksL l a := by
      intro l
      induction l with
      | nil => intro _ u v i j hu; cases hu
      | cons x l ih =>
        intro hl u v i j hu hv hij cu cv
        have hl' := List.pairwise_cons.1 hl
        rw [links_cons]
        rw [node_cons] at hu hv
        by_cases k1 : x.ino = i
        · rw [if_pos k1] at hu
          injection hu with hu
          rw [if_neg (fun z => hij (k1.symm.trans z))] at hv
          have := links_pos.2 ⟨v, (node_mem hv).1, cv⟩
          rw [hu]; omega
        · rw [if_neg k1] at hu
          by_cases k2 : x.ino = j
          · rw [if_pos k2] at hv
            injection hv with hv
            have := links_pos.2 ⟨u, (node_mem hu).1, cu⟩
            rw [hv]; omega
          · rw [if_neg k2] at hv
            have := ih hl'.2 hu hv hij cu cv
            omega
    have h2 : 2 ≤ linksL d.nodes a := key d.nodes h.pre.asc hq hp e hcq hc
    have h3 : linksL d.nodes a = 1 := h1
    omega
/-- moved to a free place and back -/
theorem move_back {d : DevP} (h : OKD d) {g e a : Int} {p q m : NodeP} {s t : ByteArray} (hp : nodeD d g = some p) (hs : findE p.ents s = some a) (hq : nodeD d e = some q) (ht : findE q.ents t = none) (hm : nodeD d a = some m)
    {dir : Bool} (hd : dir = decide (m.kind = 2)) (hb : dir = true → a ≠ e) : moveD (moveD d g s e t a dir) e t g s a dir = d := by
  have hps := (h.pre.dir p (mem_of hp)).2.1
  have hqs := (h.pre.dir q (mem_of hq)).2.1
  have hst : g = e → s ≠ t := fun x y => by
    subst x; subst y
    rw [hp] at hq
    injection hq with hq
    rw [hq, ht] at hs
    cases hs
  -- the entries alone
  have hE : modL (modL (modL (modL d.nodes g (remF s)) e (insF t a)) e (remF t)) g (insF s a) = d.nodes := by
    rw [mod_same _ e (insF t a) (remF t) (fun _ => rfl)]
    by_cases k : g = e
    · subst k
      rw [hp] at hq
      injection hq with hq
      subst hq
      rw [mod_same _ g (remF s) _ (fun _ => rfl), mod_same _ g (fun n => remF t (insF t a (remF s n))) (insF s a) (fun _ => rfl)]
      refine mod_id h.pre.asc hp ?_
      show ({ p with ents := insE (remE (insE (remE p.ents s) t a) t) s a } : NodeP) = p
      have hn : findE (remE p.ents s) t = none := by rw [findE_rem]; split <;> first | rfl | exact ht
      rw [rem_ins (sort_rem hps s) hn, ins_back hps hs]
    · have hq1 : nodeL (modL d.nodes g (remF s)) e = some q := by
        have := mod_get (g := g) (remF s) (fun _ => rfl) hq
        rw [if_neg (fun z => k z.symm)] at this
        exact this
      rw [mod_id (asc_mod h.pre.asc g (remF s) (fun _ => rfl)) hq1 (show remF t (insF t a q) = q from by
        show ({ q with ents := remE (insE q.ents t a) t } : NodeP) = q
        rw [rem_ins hqs ht]), mod_same _ g (remF s) (insF s a) (fun _ => rfl)]
      refine mod_id h.pre.asc hp ?_
      show ({ p with ents := insE (remE p.ents s) s a } : NodeP) = p
      rw [ins_back hps hs]
  by_cases k : m.kind = 2
  · have hdt : dir = true := by rw [hd]; exact decide_eq_true k
    have hae := hb hdt
    have hmp := h.holder hp hs hm k
    have hag : a ≠ g := fun z => by
      obtain ⟨j, hj⟩ := h.up m (mem_of hm) k
      rw [ino_of hm] at hj
      have hpar : parD d a = a := by rw [par_of hm, hmp]; exact z.symm
      have : ∀ j, upD d j a = a := by
        intro j
        induction j with
        | zero => rfl
        | succ j ih =>
          show upD d j (parD d a) = a
          rw [hpar]; exact ih
      rw [this j] at hj
      exact (h.pre.look hp hs).1 hj
    rw [hdt]
    unfold moveD
    show (⟨d.next, modL (modL (modL (modL (modL (modL d.nodes g (remF s)) e (insF t a)) a (parF e)) e (remF t)) g (insF s a)) a (parF g)⟩ : DevP) = d
    rw [mod_comm (modL (modL d.nodes g (remF s)) e (insF t a)) hae (parF e) (remF t) (fun _ => rfl) (fun _ => rfl), mod_comm _ hag (parF e) (insF s a) (fun _ => rfl) (fun _ => rfl), hE, mod_same d.nodes a (parF e) (parF g) (fun _ => rfl)]
    rw [mod_id h.pre.asc hm (show parF g (parF e m) = m from by
      show ({ m with parent := g } : NodeP) = m
      rw [← hmp])]
  · have hdt : dir = false := by rw [hd]; exact decide_eq_false k
    rw [hdt]
    unfold moveD
    show (⟨d.next, modL (modL (modL (modL d.nodes g (remF s)) e (insF t a)) e (remF t)) g (insF s a)⟩ : DevP) = d
    rw [hE]
end Go.Proofs.Ytafnbpkdenjipaa.fl
namespace Go.Proofs.Ytafnbpkdenjipaa.fl
open Go.Proofs.Ytafnbpkdenjipaa.pt

theorem look_eq {F : FilP} {k : Int} {d : DevP} (hd : devF F k = some d) {g : Int} {n : NodeP} (hn : nodeD d g = some n) (hk : n.kind = 2) (s : ByteArray) : lookF F ⟨k, g⟩ s = match atD d g s with | some i => (⟨k, i⟩, 0) | none => (zA, 2) := by
  rw [look_zero (n := n) (by rw [nodeF_dev hd]; exact hn) hk, atD_node hn]
  all_goals (cases findE n.ents s <;> rfl)
theorem place_eq {F : FilP} {k : Int} {d : DevP} (hd : devF F k = some d) {g : Int} {n : NodeP} (hn : nodeD d g = some n) (hk : n.kind = 2) {s : ByteArray} (hs : nm s = true) : placeF F ⟨k, g⟩ s = 0 := by
  unfold placeF
  rw [nodeF_dev hd, hn]
  show (if n.kind ≠ 2 then (20 : Int) else if nm s = true then 0 else 22) = 0
  rw [if_neg (fun z => z hk), if_pos hs]
theorem on_back {F : FilP} {k : Int} {d : DevP} (hd : devF F k = some d) {f f' : DevP → DevP} (h : f' (f d) = d) : onF (onF F k f) k f' = F := by
  obtain ⟨h1, h2, -⟩ := devF_of hd
  unfold onF
  apply List.ext_getElem?
  intro i
  rw [List.getElem?_modify, List.getElem?_modify]
  by_cases e : k.toNat = i
  · subst e
    rw [h2]
    simp [h]
  · simp [e]
/-- a directory's holder does not lie below it -/
theorem OKD.not_below {d : DevP} (h : OKD d) {g a : Int} {m : NodeP} (hm : nodeD d a = some m) (hk : m.kind = 2) (ha : a ≠ 1) (hp : m.parent = g) (j : Nat) : upD d j g ≠ a := fun e => by
  have h1 : upD d (j + 1) a = a := by
    show upD d j (parD d a) = a
    rw [par_of hm, hp]; exact e
  have h2 : ∀ n, upD d (n * (j + 1)) a = a := by
    intro n
    induction n with
    | zero => rw [Nat.zero_mul]; rfl
    | succ n ih => rw [Nat.succ_mul, up_add, ih, h1]
  have h3 := (h.oke 0).up_len (i := a) ⟨m, hm, hk⟩ (k := (d.nodes.length + 1) * (j + 1)) (by
    have := Nat.le_mul_of_pos_right (d.nodes.length + 1) (show 0 < j + 1 by omega)
    omega)
  rw [h2] at h3
  exact ha h3
theorem move_get {d : DevP} {g e a : Int} {s t : ByteArray} {dir : Bool} {i : Int} {n : NodeP} (hn : nodeD d i = some n) : ∃ n', nodeD (moveD d g s e t a dir) i = some n' ∧ n'.kind = n.kind ∧ (i ≠ a → n'.parent = n.parent) ∧ (i = g → g ≠ e → n'.ents = remE n.ents s) := by
  have h1 := mod_get (g := g) (remF s) (fun _ => rfl) hn
  have h2 := mod_get (g := e) (insF t a) (fun _ => rfl) h1
  have h3 := mod_get (g := a) (parF e) (fun _ => rfl) h2
  unfold moveD
  dsimp only
  have key : (if i = e then insF t a (if i = g then remF s n else n) else if i = g then remF s n else n).kind = n.kind ∧ (if i = e then insF t a (if i = g then remF s n else n) else if i = g then remF s n else n).parent = n.parent ∧ (i = g → g ≠ e → (if i = e then insF t a (if i = g then remF s n else n) else if i = g then remF s n else n).ents = remE n.ents s) := by
    refine ⟨?_, ?_, fun z1 z2 => ?_⟩
    · split <;> split <;> rfl
    · split <;> split <;> rfl
    · rw [if_neg (fun z => z2 (z1.symm.trans z)), if_pos z1]; rfl
  split
  · refine ⟨_, h3, ?_, fun z => ?_, fun z1 z2 => ?_⟩
    · by_cases z : i = a
      · rw [if_pos z]; exact key.1
      · rw [if_neg z]; exact key.1
    · rw [if_neg z]; exact key.2.1
    · have := key.2.2 z1 z2
      by_cases z : i = a
      · rw [if_pos z]; exact this
      · rw [if_neg z]; exact this
  · exact ⟨_, h2, key.1, fun _ => key.2.1, key.2.2⟩
theorem there {F : FilP} (h : OKF F) (x : At) (s : ByteArray) (y : At) (t : ByteArray) (he : (renameF F x s y t).err = 0) (hno : (lookF F y t).2 ≠ 0) (hns : nm s = true) :
    ∃ c0 c1 b0 b1 : ChgP, (renameF F x s y t).chg = [c0, c1] ∧ c0.old = c1.now ∧ renameF (renameF F x s y t).files y t x s = ⟨F, [b0, b1], 0⟩ := by
  obtain ⟨-, d, p, q, m, a, hd, hxy, hp, hpk, hq, hqk, ha, hm, hnt, hcase⟩ := h.rename x s y t he
  obtain ⟨xd, xi⟩ := x
  obtain ⟨yd, yi⟩ := y
  simp only at hxy hd hp hq
  subst hxy
  have hO := h.dev hd
  obtain ⟨ha1, -, -, -⟩ := hO.pre.look hp ha
  have hnq : findE q.ents t = none := by
    rw [look_eq hd hq hqk, atD_node hq] at hno
    cases hz : findE q.ents t with
    | none => rfl
    | some i => rw [hz] at hno; exact (hno rfl).elim
  have hr : renameF F ⟨xd, xi⟩ s ⟨xd, yi⟩ t = ⟨onF F xd fun d => moveD d xi s yi t a (decide (m.kind = 2)), [⟨⟨xd, xi⟩, s, ⟨xd, a⟩, zA⟩, ⟨⟨xd, yi⟩, t, zA, ⟨xd, a⟩⟩], 0⟩ := by
    rcases hcase with ⟨h1, -⟩ | ⟨o, mo, h1, -⟩ | ⟨-, h1⟩
    · rw [hnq] at h1; cases h1
    · rw [hnq] at h1; cases h1
    · exact h1
  have hkey : ¬ (xi = yi ∧ s = t) := fun z => by
    rw [z.1, hq] at hp
    injection hp with hp
    rw [hp, ← z.2, ha] at hnq
    cases hnq
  rw [hr]
  refine ⟨_, _, ⟨⟨xd, yi⟩, t, ⟨xd, a⟩, zA⟩, ⟨⟨xd, xi⟩, s, zA, ⟨xd, a⟩⟩, rfl, rfl, ?_⟩
  -- the device behind the first call
  have hdir : decide (m.kind = 2) = true → a ≠ yi := fun k z => by
    -- else Rename had refused
    have hb : belowF F ⟨xd, yi⟩ ⟨xd, a⟩ = true := by
      unfold belowF
      rw [show devF F (⟨xd, yi⟩ : At).dev = some d from hd]
      show (decide (xd = xd) && (List.range 17).any fun k => decide (upD d k yi = a)) = true
      rw [Bool.and_eq_true]
      exact ⟨decide_eq_true rfl, List.any_eq_true.2 ⟨0, by simp, decide_eq_true z.symm⟩⟩
    have hl : lookF F ⟨xd, xi⟩ s = (⟨xd, a⟩, 0) := by rw [look_eq hd hp hpk, atD_node hp, ha]
    have hdF : dirF F ⟨xd, a⟩ = true := by unfold dirF; rw [nodeF_dev hd, hm]; exact k
    have hp1 : placeF F ⟨xd, xi⟩ s = 0 := place_eq hd hp hpk hns
    have hp2 : placeF F ⟨xd, yi⟩ t = 0 := place_eq hd hq hqk hnt
    have he' := he
    unfold renameF at he'
    rw [hp1, hp2, show firstE 0 0 [2, 20, 22] = none from rfl] at he'
    dsimp only at he'
    rw [hl, if_neg (fun z => z rfl), if_neg (fun z => z rfl), if_pos ⟨hdF, hb⟩] at he'
    cases he'
  have hdG : devF (onF F xd fun d => moveD d xi s yi t a (decide (m.kind = 2))) xd = some (moveD d xi s yi t a (decide (m.kind = 2))) := by rw [devF_on hd, if_pos rfl]
  obtain ⟨p', hp', hpk', -, hpe'⟩ := move_get (g := xi) (e := yi) (a := a) (s := s) (t := t) (dir := decide (m.kind = 2)) hp
  obtain ⟨q', hq', hqk', -, -⟩ := move_get (g := xi) (e := yi) (a := a) (s := s) (t := t) (dir := decide (m.kind = 2)) hq
  obtain ⟨m', hm', hmk', -, -⟩ := move_get (g := xi) (e := yi) (a := a) (s := s) (t := t) (dir := decide (m.kind = 2)) hm
  have hat : ∀ g' s', atD (moveD d xi s yi t a (decide (m.kind = 2))) g' s' = if g' = yi ∧ s' = t then some a else if g' = xi ∧ s' = s then none else atD d g' s' := fun g' s' => by
    unfold moveD
    dsimp only
    split
    · rw [at_par, at_two hO.pre hp hq]
    · rw [at_two hO.pre hp hq]
  have hback := move_back hO hp ha hq hnq hm (dir := decide (m.kind = 2)) rfl hdir
  have hup : m.kind = 2 → ∀ j, upD (moveD d xi s yi t a (decide (m.kind = 2))) j xi ≠ a := fun k => by
    have hav := hO.not_below hm k ha1 (hO.holder hp ha hm k)
    have hpar : ∀ i, Dir d i → i ≠ a → parD (moveD d xi s yi t a (decide (m.kind = 2))) i = parD d i := fun i ⟨n, hn, _⟩ hi => by
      obtain ⟨n', hn', -, hpn, -⟩ := move_get (g := xi) (e := yi) (a := a) (s := s) (t := t) (dir := decide (m.kind = 2)) hn
      rw [par_of hn', par_of hn, hpn hi]
    have : ∀ (j : Nat) (i : Int), Dir d i → (∀ k, upD d k i ≠ a) → upD (moveD d xi s yi t a (decide (m.kind = 2))) j i = upD d j i := by
      intro j
      induction j with
      | zero => exact fun _ _ _ => rfl
      | succ j ih =>
        intro i hi hz
        show upD (moveD d xi s yi t a (decide (m.kind = 2))) j (parD (moveD d xi s yi t a (decide (m.kind = 2))) i) = upD d j (parD d i)
        rw [hpar i hi (hz 0)]
        exact ih _ ((hO.oke 0).par_dir hi) (fun k => hz (k + 1))
    intro j
    rw [this j xi ⟨p, hp, hpk⟩ hav]
    exact hav j
  generalize hG : (onF F xd fun d => moveD d xi s yi t a (decide (m.kind = 2))) = G at *
  generalize hD : moveD d xi s yi t a (decide (m.kind = 2)) = D at *
  have h1 : placeF G ⟨xd, yi⟩ t = 0 := place_eq hdG hq' (by rw [hqk']; exact hqk) hnt
  have h2 : placeF G ⟨xd, xi⟩ s = 0 := place_eq hdG hp' (by rw [hpk']; exact hpk) hns
  have h3 : lookF G ⟨xd, yi⟩ t = (⟨xd, a⟩, 0) := by
    rw [look_eq hdG hq' (by rw [hqk']; exact hqk), hat, if_pos ⟨rfl, rfl⟩]
  have h4 : lookF G ⟨xd, xi⟩ s = (zA, 2) := by
    rw [look_eq hdG hp' (by rw [hpk']; exact hpk), hat, if_neg hkey, if_pos ⟨rfl, rfl⟩]
  have h5 : dirF G ⟨xd, a⟩ = decide (m.kind = 2) := by
    unfold dirF
    rw [nodeF_dev hdG, hm']
    show decide (m'.kind = 2) = _
    rw [hmk']
  have h6 : decide (m.kind = 2) = true → belowF G ⟨xd, xi⟩ ⟨xd, a⟩ ≠ true := fun k hb => by
    unfold belowF at hb
    rw [show devF G (⟨xd, xi⟩ : At).dev = some D from hdG] at hb
    have hb : (decide (xd = xd) && (List.range 17).any fun k => decide (upD D k xi = a)) = true := hb
    rw [Bool.and_eq_true] at hb
    obtain ⟨j, -, hj⟩ := List.any_eq_true.1 hb.2
    exact hup (of_decide_eq_true k) j (of_decide_eq_true hj)
  have h7 : ¬ (fullF G ⟨xd, xi⟩ = true ∧ (⟨xd, yi⟩ : At) ≠ ⟨xd, xi⟩) := fun z => by
    have hne : xi ≠ yi := fun e => z.2 (by rw [e])
    have := z.1
    unfold fullF at this
    rw [nodeF_dev hdG, hp'] at this
    have hl : 12 ≤ p'.ents.length := of_decide_eq_true this
    rw [hpe' rfl hne] at hl
    obtain ⟨k1, k2, -⟩ := hO.pre.dir p (mem_of hp)
    have := (rem_some k2 ha).1
    omega
  show renameF G ⟨xd, yi⟩ t ⟨xd, xi⟩ s = _
  unfold renameF
  rw [h1, h2, show firstE 0 0 [2, 20, 22] = none from rfl]
  dsimp only
  rw [h3, h4, if_neg (fun z => z rfl), if_neg (fun z => z rfl), h5, if_neg (fun z => h6 z.1 z.2), if_neg (fun z => by cases z.1), if_neg (fun z => by cases z), if_neg h7]
  have h8 : onF G xd (fun d => moveD d yi t xi s a (decide (m.kind = 2))) = F := by
    rw [← hG]
    exact on_back hd (f := fun d => moveD d xi s yi t a (decide (m.kind = 2))) (f' := fun d => moveD d yi t xi s a (decide (m.kind = 2))) (by
      show moveD (moveD d xi s yi t a (decide (m.kind = 2))) yi t xi s a (decide (m.kind = 2)) = d
      rw [hD]; exact hback)
  rw [h8]
end Go.Proofs.Ytafnbpkdenjipaa.fl
namespace Go.Proofs.Ytafnbpkdenjipaa.fl
open Go.Proofs.Ytafnbpkdenjipaa.pt

instance (s : ByteArray) (S : List ByteArray) : Decidable (s ∈ S) := decidable_of_iff ((S.any fun x => decide (x = s)) = true) (by simp)

/-- device 0 has a file 2, to which the root's entries with the names S lead, and no others -/
structure NamesS (F : FilP) (d : DevP) (p m : NodeP) (S : List ByteArray) : Prop where
  ok : OKF F
  dev : devF F 0 = some d
  root : nodeD d 1 = some p
  dir : p.kind = 2
  file : nodeD d 2 = some m
  kind : m.kind ≠ 2
  at_ : ∀ s, findE p.ents s = if s ∈ S then some 2 else none
  len : p.ents.length = S.length
  links : linksD d 2 = S.length

theorem NamesS.place {F : FilP} {d : DevP} {p m : NodeP} {S : List ByteArray} (h : NamesS F d p m S) {s : ByteArray} (hs : nm s = true) : placeF F ⟨0, 1⟩ s = 0 := place_eq h.dev h.root h.dir hs
theorem NamesS.look {F : FilP} {d : DevP} {p m : NodeP} {S : List ByteArray} (h : NamesS F d p m S) (s : ByteArray) : lookF F ⟨0, 1⟩ s = if s ∈ S then (⟨0, 2⟩, 0) else (zA, 2) := by
  rw [look_eq h.dev h.root h.dir, atD_node h.root, h.at_]
  by_cases k : s ∈ S
  · rw [if_pos k, if_pos k]
  · rw [if_neg k, if_neg k]
theorem NamesS.node {F : FilP} {d : DevP} {p m : NodeP} {S : List ByteArray} (h : NamesS F d p m S) : nodeF F ⟨0, 2⟩ = some m := by rw [nodeF_dev h.dev]; exact h.file
theorem NamesS.count {F : FilP} {d : DevP} {p m : NodeP} {S : List ByteArray} (h : NamesS F d p m S) : linksF F ⟨0, 2⟩ = S.length := by
  unfold linksF
  rw [show devF F (⟨0, 2⟩ : At).dev = some d from h.dev]
  show (if (nodeD d 2).isSome = true then linksD d 2 else 0) = S.length
  rw [h.file, if_pos (show (some m).isSome = true from rfl), h.links]

/-- one more name -/
theorem NamesS.more {F : FilP} {d : DevP} {p m : NodeP} {S : List ByteArray} (h : NamesS F d p m S) {s : ByteArray} (hs : nm s = true) (hn : s ∉ S) (hl : S.length < 12) :
    ∃ G d' p' m', linkF F ⟨0, 1⟩ s ⟨0, 2⟩ = ⟨G, [⟨⟨0, 1⟩, s, zA, ⟨0, 2⟩⟩], 0⟩ ∧ NamesS G d' p' m' (S ++ [s]) := by
  have hf : findE p.ents s = none := by rw [h.at_, if_neg hn]
  have hO := h.ok.dev h.dev
  have hr : linkF F ⟨0, 1⟩ s ⟨0, 2⟩ = ⟨onF F 0 fun d => modD d 1 (insF s 2), [⟨⟨0, 1⟩, s, zA, ⟨0, 2⟩⟩], 0⟩ := by
    unfold linkF
    rw [h.place hs, if_neg (fun z => z rfl), h.node]
    dsimp only
    have hfull : ¬ fullF F ⟨0, 1⟩ = true := fun z => by
      unfold fullF at z
      rw [nodeF_dev h.dev, h.root] at z
      have : 12 ≤ p.ents.length := of_decide_eq_true z
      have := h.len
      omega
    rw [if_neg (fun z => z rfl), if_neg h.kind, h.look, if_neg hn, if_neg (by decide), if_neg hfull]
  have hok := (h.ok.link ⟨0, 1⟩ s ⟨0, 2⟩ (by rw [hr])).1
  rw [hr] at hok
  have h1 := mod_get (g := 1) (insF s 2) (fun _ => rfl) h.root
  rw [if_pos rfl] at h1
  have h2 := mod_get (g := 1) (insF s 2) (fun _ => rfl) h.file
  rw [if_neg (by decide)] at h2
  refine ⟨_, modD d 1 (insF s 2), _, _, hr, hok, by rw [devF_on h.dev, if_pos rfl], h1, h.dir, h2, h.kind, fun t => ?_, ?_, ?_⟩
  · show findE (insE p.ents s 2) t = _
    rw [find_ins (hO.pre.dir p (mem_of h.root)).2.1, h.at_]
    by_cases k : t = s
    · rw [if_pos k, if_pos (by rw [k]; simp)]
    · rw [if_neg k]
      have : t ∈ S ++ [s] ↔ t ∈ S := by simp [k]
      simp only [this]
  · show (insE p.ents s 2).length = (S ++ [s]).length
    rw [(ins_none hf 2).1, h.len, List.length_append]; rfl
  · have h3 : linksL (modL d.nodes 1 (insF s 2)) 2 + cnt p.ents 2 = linksL d.nodes 2 + cnt (insE p.ents s 2) 2 := links_mod hO.pre.asc h.root (insF s 2) 2
    have h4 := (ins_none hf 2).2 2
    rw [if_pos rfl] at h4
    have h5 : linksL d.nodes 2 = S.length := h.links
    show linksL (modL d.nodes 1 (insF s 2)) 2 = (S ++ [s]).length
    rw [List.length_append]
    show _ = S.length + 1
    omega
/-- one name less -/
theorem NamesS.less {F : FilP} {d : DevP} {p m : NodeP} {S : List ByteArray} (h : NamesS F d p m S) {s : ByteArray} (hs : nm s = true) (hn : s ∈ S) {T : List ByteArray} (hT : ∀ t, t ∈ T ↔ t ∈ S ∧ t ≠ s) (hl : T.length + 1 = S.length) :
    ∃ G, unlinkF F ⟨0, 1⟩ s = ⟨G, [⟨⟨0, 1⟩, s, ⟨0, 2⟩, zA⟩], 0⟩ ∧ ((T ≠ [] ∧ ∃ d' p' m', NamesS G d' p' m' T) ∨ (T = [] ∧ nodeF G ⟨0, 2⟩ = none ∧ linksF G ⟨0, 2⟩ = 0)) := by
  have hf : findE p.ents s = some 2 := by rw [h.at_, if_pos hn]
  have hO := h.ok.dev h.dev
  have hk : dirF F ⟨0, 2⟩ = false := by
    unfold dirF
    rw [h.node]
    exact decide_eq_false h.kind
  have hr : unlinkF F ⟨0, 1⟩ s = ⟨onF F 0 fun d => freeD (modD d 1 (remF s)) 2, [⟨⟨0, 1⟩, s, ⟨0, 2⟩, zA⟩], 0⟩ := by
    unfold unlinkF goneF
    rw [h.place hs, if_neg (fun z => z rfl), h.look, if_pos hn, if_neg (fun z => z rfl), hk, if_neg (by decide)]
  have hok := (h.ok.unlink ⟨0, 1⟩ s (by rw [hr])).2
  rw [hr] at hok
  have h1 := mod_get (g := 1) (remF s) (fun _ => rfl) h.root
  rw [if_pos rfl] at h1
  have h2 := mod_get (g := 1) (remF s) (fun _ => rfl) h.file
  rw [if_neg (by decide)] at h2
  obtain ⟨r1, r2⟩ := rem_some (hO.pre.dir p (mem_of h.root)).2.1 hf
  have h3 : linksL (modL d.nodes 1 (remF s)) 2 + cnt p.ents 2 = linksL d.nodes 2 + cnt (remE p.ents s) 2 := links_mod hO.pre.asc h.root (remF s) 2
  have h4 := r2 2
  rw [if_pos rfl] at h4
  have h5 : linksL d.nodes 2 = S.length := h.links
  have h6 : linksD (modD d 1 (remF s)) 2 = T.length := by
    show linksL (modL d.nodes 1 (remF s)) 2 = T.length
    omega
  have hdG : devF (onF F 0 fun d => freeD (modD d 1 (remF s)) 2) 0 = some (freeD (modD d 1 (remF s)) 2) := by rw [devF_on h.dev, if_pos rfl]
  refine ⟨_, hr, ?_⟩
  by_cases k : T = []
  · refine .inr ⟨k, ?_, ?_⟩
    · rw [nodeF_dev hdG]
      unfold freeD
      rw [if_pos (by rw [h6, k]; rfl)]
      show nodeL (dropL _ 2) 2 = none
      rw [node_drop, if_pos rfl]
    · unfold linksF
      rw [show devF (onF F 0 fun d => freeD (modD d 1 (remF s)) 2) (⟨0, 2⟩ : At).dev = _ from hdG]
      show (if (nodeD (freeD (modD d 1 (remF s)) 2) 2).isSome = true then _ else 0) = 0
      rw [if_neg]
      unfold freeD
      rw [if_pos (by rw [h6, k]; rfl)]
      show ¬ (nodeL (dropL _ 2) 2).isSome = true
      rw [node_drop, if_pos rfl]; exact fun z => by cases z
  · have hpos : T.length ≠ 0 := fun z => k (List.length_eq_zero_iff.1 z)
    have hfree : freeD (modD d 1 (remF s)) 2 = modD d 1 (remF s) := by unfold freeD; rw [if_neg (by rw [h6]; exact hpos)]
    rw [hfree] at hdG
    refine .inl ⟨k, modD d 1 (remF s), _, _, hok, hdG, h1, h.dir, h2, h.kind, fun t => ?_, ?_, h6⟩
    · show findE (remE p.ents s) t = _
      rw [findE_rem, h.at_]
      by_cases z : t = s
      · rw [if_pos z, if_neg (fun y => ((hT t).1 y).2 z)]
      · rw [if_neg z]
        have : t ∈ T ↔ t ∈ S := by rw [hT]; exact ⟨fun y => y.1, fun y => ⟨y, z⟩⟩
        simp only [this]
    · show (remE p.ents s).length = T.length
      have := h.len
      omega
end Go.Proofs.Ytafnbpkdenjipaa.fl
namespace Go.Proofs.Ytafnbpkdenjipaa.fl
open Go.Proofs.Ytafnbpkdenjipaa.pt

def fileN (m : Int) : NodeP := ⟨0, 1, m, 0, 0, 0, ⟨#[]⟩, []⟩
def firstF (m : Int) : FilP := [⟨3, [⟨1, 2, 493, 0, 0, 1, ⟨#[]⟩, [⟨⟨#[97]⟩, 2⟩]⟩, ⟨2, 1, m, 0, 0, 0, ⟨#[]⟩, []⟩]⟩]
theorem first_make (m : Int) (hm : m = 420 ∨ m = 0) : makeF (newP 1).1 ⟨0, 1⟩ ⟨#[97]⟩ (fileN m) = ⟨firstF m, [⟨⟨0, 1⟩, ⟨#[97]⟩, zA, ⟨0, 2⟩⟩], 0⟩ := by
  rcases hm with rfl | rfl
  · rfl
  · rfl
theorem first_ok (m : Int) (hm : m = 420 ∨ m = 0) : OKF (firstF m) := by
  have := ((new_ok (n := 1) rfl).make ⟨0, 1⟩ ⟨#[97]⟩ (fileN m) (by rw [first_make m hm])).1
  rwa [first_make m hm] at this
theorem first_names (m : Int) (hm : m = 420 ∨ m = 0) : NamesS (firstF m) ⟨3, [⟨1, 2, 493, 0, 0, 1, ⟨#[]⟩, [⟨⟨#[97]⟩, 2⟩]⟩, ⟨2, 1, m, 0, 0, 0, ⟨#[]⟩, []⟩]⟩ ⟨1, 2, 493, 0, 0, 1, ⟨#[]⟩, [⟨⟨#[97]⟩, 2⟩]⟩ ⟨2, 1, m, 0, 0, 0, ⟨#[]⟩, []⟩ [⟨#[97]⟩] :=
  ⟨first_ok m hm, rfl, rfl, rfl, rfl, (show ¬ (1 : Int) = 2 by decide), fun s => by
    rw [find_cons]
    by_cases h : (⟨#[97]⟩ : ByteArray) = s
    · rw [if_pos h, if_pos (by simp [h])]
    · rw [if_neg h, if_neg (by simp; exact fun e => h e.symm)]
      rfl, rfl, rfl⟩
theorem second_link (m : Int) (hm : m = 420 ∨ m = 0) : ∃ G, linkF (firstF m) ⟨0, 1⟩ ⟨#[98]⟩ ⟨0, 2⟩ = ⟨G, [⟨⟨0, 1⟩, ⟨#[98]⟩, zA, ⟨0, 2⟩⟩], 0⟩ ∧ OKF G ∧ linksF G ⟨0, 2⟩ = 2 := by
  obtain ⟨G, d, p, m', h1, h2⟩ := (first_names m hm).more (s := ⟨#[98]⟩) (by decide) (by decide) (by decide)
  exact ⟨G, h1, h2.ok, h2.count⟩
end Go.Proofs.Ytafnbpkdenjipaa.fl
