/-
  Files of the call's own: rows of structs, each in a block of its own.
  Files of the call's own: what stores do to them.
  Copies of files, of package files.
  Copies of files, of package files: nodes, devices.
-/
import Derived.Test.YtafnbpkdenjipaaFGr
import Derived.Maps.OwnIn
import Derived.Lib.OwnKind
import Derived.OneCell
namespace Go.Proofs.Ytafnbpkdenjipaa.fl
open Go.RowKit Go.Proofs.Ytafnbpkdenjipaa.cm

-- cells
def ecs (e : EntP) : List Value := [.string e.name, .int .i64 e.ino]
def ncs (n : NodeP) (v : Value) : List Value := [.int .i64 n.ino, .int .i64 n.kind, .int .i64 n.mode, .int .i64 n.uid, .int .i64 n.gid, .int .i64 n.parent, .string n.target, v]
def dcs (d : DevP) (v : Value) : List Value := [.int .i64 d.next, v]
def erow : List EntP → List Value
  | [] => []
  | e :: l => ecs e ++ erow l
def nrow (ev : Nat → Value) : Nat → List NodeP → List Value
  | _, [] => []
  | k, n :: l => ncs n (ev k) ++ nrow ev (k + 1) l
def drow (vn : Nat → Value) : Nat → List DevP → List Value
  | _, [] => []
  | k, d :: l => dcs d (vn k) ++ drow vn (k + 1) l
theorem ecs_len (e : EntP) : (ecs e).length = 2 := rfl
theorem ncs_len (n : NodeP) (v : Value) : (ncs n v).length = 8 := rfl
theorem dcs_len (d : DevP) (v : Value) : (dcs d v).length = 2 := rfl
theorem erow_len : ∀ l, (erow l).length = l.length * 2
  | [] => rfl
  | e :: l => by rw [erow, List.length_append, ecs_len, erow_len l, List.length_cons]; omega
theorem nrow_len (ev : Nat → Value) : ∀ k l, (nrow ev k l).length = l.length * 8
  | _, [] => by simp [nrow]
  | k, n :: l => by rw [nrow, List.length_append, ncs_len, nrow_len ev (k + 1) l, List.length_cons]; omega
theorem drow_len (vn : Nat → Value) : ∀ k l, (drow vn k l).length = l.length * 2
  | _, [] => by simp [drow]
  | k, n :: l => by rw [drow, List.length_append, dcs_len, drow_len vn (k + 1) l, List.length_cons]; omega
theorem erow_app : ∀ a b, erow (a ++ b) = erow a ++ erow b
  | [], b => rfl
  | e :: a, b => by rw [List.cons_append, erow, erow, erow_app a b, List.append_assoc]
theorem nrow_app (ev : Nat → Value) : ∀ k a b, nrow ev k (a ++ b) = nrow ev k a ++ nrow ev (k + a.length) b
  | k, [], b => by simp [nrow]
  | k, n :: a, b => by rw [List.cons_append, nrow, nrow, nrow_app ev (k + 1) a b, List.append_assoc, List.length_cons, show k + 1 + a.length = k + (a.length + 1) by omega]
theorem drow_app (vn : Nat → Value) : ∀ k a b, drow vn k (a ++ b) = drow vn k a ++ drow vn (k + a.length) b
  | k, [], b => by simp [drow]
  | k, n :: a, b => by rw [List.cons_append, drow, drow, drow_app vn (k + 1) a b, List.append_assoc, List.length_cons, show k + 1 + a.length = k + (a.length + 1) by omega]
theorem erow_at : ∀ (l : List EntP) (j : Nat) (e : EntP), l[j]? = some e → ∀ i, i < 2 → (erow l)[j * 2 + i]? = (ecs e)[i]?
  | [], j, e, h, _, _ => by simp at h
  | x :: l, 0, e, h, i, hi => by
    simp at h
    subst h
    rw [erow, Nat.zero_mul, Nat.zero_add, List.getElem?_append_left (by rw [ecs_len]; omega)]
  | x :: l, j + 1, e, h, i, hi => by
    rw [erow, List.getElem?_append_right (by rw [ecs_len]; omega), ecs_len, show (j + 1) * 2 + i - 2 = j * 2 + i by omega]
    exact erow_at l j e (by simpa using h) i hi
theorem nrow_at (ev : Nat → Value) : ∀ (s : Nat) (l : List NodeP) (j : Nat) (n : NodeP), l[j]? = some n → ∀ i, i < 8 → (nrow ev s l)[j * 8 + i]? = (ncs n (ev (s + j)))[i]?
  | _, [], j, n, h, _, _ => by simp at h
  | s, x :: l, 0, n, h, i, hi => by
    simp at h
    subst h
    rw [nrow, Nat.zero_mul, Nat.zero_add, List.getElem?_append_left (by rw [ncs_len]; omega), Nat.add_zero]
  | s, x :: l, j + 1, n, h, i, hi => by
    rw [nrow, List.getElem?_append_right (by rw [ncs_len]; omega), ncs_len, show (j + 1) * 8 + i - 8 = j * 8 + i by omega, show s + (j + 1) = s + 1 + j by omega]
    exact nrow_at ev (s + 1) l j n (by simpa using h) i hi
theorem drow_at (vn : Nat → Value) : ∀ (s : Nat) (l : List DevP) (j : Nat) (d : DevP), l[j]? = some d → ∀ i, i < 2 → (drow vn s l)[j * 2 + i]? = (dcs d (vn (s + j)))[i]?
  | _, [], j, d, h, _, _ => by simp at h
  | s, x :: l, 0, d, h, i, hi => by
    simp at h
    subst h
    rw [drow, Nat.zero_mul, Nat.zero_add, List.getElem?_append_left (by rw [dcs_len]; omega), Nat.add_zero]
  | s, x :: l, j + 1, d, h, i, hi => by
    rw [drow, List.getElem?_append_right (by rw [dcs_len]; omega), dcs_len, show (j + 1) * 2 + i - 2 = j * 2 + i by omega, show s + (j + 1) = s + 1 + j by omega]
    exact drow_at vn (s + 1) l j d (by simpa using h) i hi
theorem erow_erase : ∀ (l : List EntP) (q : Nat), erow (l.eraseIdx q) = (erow l).take (q * 2) ++ (erow l).drop ((q + 1) * 2)
  | [], q => by simp [erow]
  | e :: l, 0 => by simp [erow, ecs]
  | e :: l, q + 1 => by
    rw [List.eraseIdx_cons_succ, erow, erow, erow_erase l q]
    rw [show (q + 1 + 1) * 2 = (ecs e).length + (q + 1) * 2 by rw [ecs_len]; omega, List.drop_length_add_append, show (q + 1) * 2 = (ecs e).length + q * 2 by rw [ecs_len]; omega, List.take_length_add_append]
    simp
/-- the entries' rows when node q has gone -/
def shiftV (ev : Nat → Value) (q : Nat) : Nat → Value := fun k => if k < q then ev k else ev (k + 1)
theorem nrow_ext {ev ev' : Nat → Value} : ∀ (s : Nat) (l : List NodeP), (∀ k, s ≤ k → k < s + l.length → ev k = ev' k) → nrow ev s l = nrow ev' s l
  | _, [], _ => by simp [nrow]
  | s, n :: l, h => by
    rw [nrow, nrow, h s (Nat.le_refl _) (by rw [List.length_cons]; omega), nrow_ext (s + 1) l (fun k h1 h2 => h k (by omega) (by rw [List.length_cons]; omega))]
theorem nrow_shift (ev : Nat → Value) : ∀ (s : Nat) (l : List NodeP), nrow (fun k => ev (k + 1)) s l = nrow ev (s + 1) l
  | _, [] => by simp [nrow]
  | s, n :: l => by rw [nrow, nrow, nrow_shift ev (s + 1) l]
theorem nrow_erase (ev : Nat → Value) : ∀ (s : Nat) (l : List NodeP) (q : Nat), nrow (shiftV ev (s + q)) s (l.eraseIdx q) = (nrow ev s l).take (q * 8) ++ (nrow ev s l).drop ((q + 1) * 8)
  | s, [], q => by simp [nrow]
  | s, n :: l, 0 => by
    rw [List.eraseIdx_cons_zero, nrow, Nat.add_zero]
    rw [nrow_ext (ev' := fun k => ev (k + 1)) s l (fun k h1 h2 => by unfold shiftV; rw [if_neg (by omega)]), nrow_shift]
    simp [ncs]
  | s, n :: l, q + 1 => by
    rw [List.eraseIdx_cons_succ, nrow, nrow, show s + (q + 1) = s + 1 + q by omega, nrow_erase ev (s + 1) l q]
    have : shiftV ev (s + 1 + q) s = ev s := by unfold shiftV; rw [if_pos (by omega)]
    rw [this]
    rw [show (q + 1 + 1) * 8 = (ncs n (ev s)).length + (q + 1) * 8 by rw [ncs_len]; omega, List.drop_length_add_append, show (q + 1) * 8 = (ncs n (ev s)).length + q * 8 by rw [ncs_len]; omega, List.take_length_add_append]
    simp
theorem nrow_set (ev ev' : Nat → Value) (c : Nat) (u : Value) : ∀ (s : Nat) (l : List NodeP) (k : Nat) (n n' : NodeP), l[k]? = some n → c < 8 → (ncs n (ev (s + k))).set c u = ncs n' (ev' (s + k)) → (∀ t, t ≠ s + k → ev' t = ev t) → (nrow ev s l).set (k * 8 + c) u = nrow ev' s (l.set k n')
  | _, [], k, n, n', h, _, _, _ => by simp at h
  | s, x :: l, 0, n, n', h, hc, hs, he => by
    simp at h
    subst h
    rw [List.set_cons_zero, nrow, nrow, Nat.zero_mul, Nat.zero_add, List.set_append_left _ _ (by rw [ncs_len]; omega)]
    rw [Nat.add_zero] at hs
    rw [hs, nrow_ext (s + 1) l (fun k h1 h2 => (he k (by omega)).symm)]
  | s, x :: l, k + 1, n, n', h, hc, hs, he => by
    rw [List.set_cons_succ, nrow, nrow, List.set_append_right _ _ (by rw [ncs_len]; omega), ncs_len, show (k + 1) * 8 + c - 8 = k * 8 + c by omega]
    rw [nrow_set ev ev' c u (s + 1) l k n n' (by simpa using h) hc (by rw [show s + 1 + k = s + (k + 1) by omega]; exact hs) (fun t ht => he t (by omega)), he s (by omega)]
theorem drow_ext {vn vn' : Nat → Value} : ∀ (s : Nat) (l : List DevP), (∀ k, s ≤ k → k < s + l.length → vn k = vn' k) → drow vn s l = drow vn' s l
  | _, [], _ => by simp [drow]
  | s, n :: l, h => by
    rw [drow, drow, h s (Nat.le_refl _) (by rw [List.length_cons]; omega), drow_ext (s + 1) l (fun k h1 h2 => h k (by omega) (by rw [List.length_cons]; omega))]
theorem drow_set (vn vn' : Nat → Value) (c : Nat) (u : Value) : ∀ (s : Nat) (l : List DevP) (k : Nat) (d d' : DevP), l[k]? = some d → c < 2 → (dcs d (vn (s + k))).set c u = dcs d' (vn' (s + k)) → (∀ t, t ≠ s + k → vn' t = vn t) → (drow vn s l).set (k * 2 + c) u = drow vn' s (l.set k d')
  | _, [], k, n, n', h, _, _, _ => by simp at h
  | s, x :: l, 0, n, n', h, hc, hs, he => by
    simp at h
    subst h
    rw [List.set_cons_zero, drow, drow, Nat.zero_mul, Nat.zero_add, List.set_append_left _ _ (by rw [dcs_len]; omega)]
    rw [Nat.add_zero] at hs
    rw [hs, drow_ext (s + 1) l (fun k h1 h2 => (he k (by omega)).symm)]
  | s, x :: l, k + 1, n, n', h, hc, hs, he => by
    rw [List.set_cons_succ, drow, drow, List.set_append_right _ _ (by rw [dcs_len]; omega), dcs_len, show (k + 1) * 2 + c - 2 = k * 2 + c by omega]
    rw [drow_set vn vn' c u (s + 1) l k n n' (by simpa using h) hc (by rw [show s + 1 + k = s + (k + 1) by omega]; exact hs) (fun t ht => he t (by omega)), he s (by omega)]

-- rows
def OwnE (B : Nat) (w : World) (v : Value) (es : List EntP) : Prop := w.ownsRow B 87 2 v es.length (erow es)
def OwnN (B : Nat) (w : World) (v : Value) (ev : Nat → Value) (ns : List NodeP) : Prop := w.ownsRow B 43 8 v ns.length (nrow ev 0 ns)
def OwnD (B : Nat) (w : World) (v : Value) (vn : Nat → Value) (F : FilP) : Prop := w.ownsRow B 72 2 v F.length (drow vn 0 F)
theorem OwnE.nil (B : Nat) (w : World) : OwnE B w (.slice none 0 0) [] := World.ownsRow_nil _ _ _ _
theorem OwnN.nil (B : Nat) (w : World) (ev : Nat → Value) : OwnN B w (.slice none 0 0) ev [] := World.ownsRow_nil _ _ _ _
theorem OwnD.nil (B : Nat) (w : World) (vn : Nat → Value) : OwnD B w (.slice none 0 0) vn [] := World.ownsRow_nil _ _ _ _

/-- a row's slice -/
theorem own_slice {B T size n : Nat} {w : World} {v : Value} {xs : List Value} (h : w.ownsRow B T size v n xs) : ∃ a cap, v = .slice a n cap ∧ n ≤ cap ∧ (a = none → cap = 0 ∧ n = 0) ∧ (∀ p, a = some p → ∃ g, p = ⟨g, 0, none⟩ ∧ v.ownBlock = some g ∧ B ≤ g ∧ g < w.heap.size) := by
  rcases h.2 with ⟨h1, h2⟩ | ⟨g, cap, cur, h1, hg, hb, hc, _⟩
  · subst h2
    exact ⟨none, 0, h1, Nat.le_refl _, fun _ => ⟨rfl, rfl⟩, (fun p hp => by cases hp)⟩
  · refine ⟨_, cap, h1, hc, (fun h => by cases h), fun p hp => ?_⟩
    injection hp with hp
    exact ⟨g, hp.symm, by rw [h1]; rfl, hg, (Array.getElem?_eq_some_iff.1 hb).1⟩
theorem own_cell {B T size n : Nat} {w : World} {v : Value} {xs : List Value} (h : w.ownsRow B T size v n xs) {g cap : Nat} (hv : v = .slice (some ⟨g, 0, none⟩) n cap) {j : Nat} (hj : j < n * size) : w.cell? ⟨g, j, none⟩ = xs[j]? := by
  subst hv
  exact h.cellAt j hj
theorem OwnE.at_ {B : Nat} {w : World} {v : Value} {es : List EntP} (h : OwnE B w v es) : ∃ a cap, v = .slice a es.length cap ∧ es.length ≤ cap ∧ (a = none → cap = 0) ∧ Ents w a es := by
  obtain ⟨a, cap, hv, hc, hn, hp⟩ := own_slice h
  refine ⟨a, cap, hv, hc, fun x => (hn x).1, ?_⟩
  cases a with
  | none => exact .inl (List.length_eq_zero_iff.1 (hn rfl).2)
  | some p =>
    obtain ⟨g, rfl, -⟩ := hp p rfl
    refine .inr ⟨g, 0, rfl, fun j e hj => ?_⟩
    have hl : j < es.length := (List.getElem?_eq_some_iff.1 hj).1
    have key : ∀ i, i < 2 → w.cell? ⟨g, 0 + j * 2 + i, none⟩ = (ecs e)[i]? := fun i hi => by
      rw [Nat.zero_add, own_cell h hv (by omega), erow_at es j e hj i hi]
    exact ⟨key 0 (by omega), key 1 (by omega)⟩
theorem OwnN.cells {B : Nat} {w : World} {v : Value} {ev : Nat → Value} {ns : List NodeP} (h : OwnN B w v ev ns) {g cap k : Nat} {n : NodeP} (hv : v = .slice (some ⟨g, 0, none⟩) ns.length cap) (hk : ns[k]? = some n) : ∀ i, i < 8 → w.cell? ⟨g, k * 8 + i, none⟩ = (ncs n (ev k))[i]? := fun i hi => by
  have hl : k < ns.length := (List.getElem?_eq_some_iff.1 hk).1
  rw [own_cell h hv (by omega), nrow_at ev 0 ns k n hk i hi, Nat.zero_add]
theorem OwnN.at_ {B B' : Nat} {w : World} {v : Value} {ev : Nat → Value} {ns : List NodeP} (h : OwnN B w v ev ns) (he : ∀ k n, ns[k]? = some n → OwnE B' w (ev k) n.ents) : ∃ a cap, v = .slice a ns.length cap ∧ ns.length ≤ cap ∧ (a = none → cap = 0) ∧ Nodes w a ns := by
  obtain ⟨a, cap, hv, hc, hn, hp⟩ := own_slice h
  refine ⟨a, cap, hv, hc, fun x => (hn x).1, ?_⟩
  cases a with
  | none => exact .inl (List.length_eq_zero_iff.1 (hn rfl).2)
  | some p =>
    obtain ⟨g, rfl, -⟩ := hp p rfl
    refine .inr ⟨g, 0, rfl, fun j n hj => ?_⟩
    have key := h.cells hv hj
    obtain ⟨ve, ce, hve, h1, h2, h3⟩ := (he j n hj).at_
    rw [Nat.zero_add]
    refine ⟨key 0 (by omega), key 1 (by omega), key 2 (by omega), key 3 (by omega), key 4 (by omega), key 5 (by omega), key 6 (by omega), ve, ce, ?_, h1, h2, h3⟩
    rw [key 7 (by omega)]
    show some (ev j) = _
    rw [hve]

/-- files of the call's own from block B on -/
structure FilesO (B : Nat) (w : World) (v : Value) (F : FilP) (vn : Nat → Value) (ev : Nat → Nat → Value) : Prop where
  row : OwnD B w v vn F
  nodes : ∀ (i : Nat) d, F[i]? = some d → OwnN B w (vn i) (ev i) d.nodes
  ents : ∀ (i : Nat) d (k : Nat) n, F[i]? = some d → d.nodes[k]? = some n → OwnE B w (ev i k) n.ents
  injN : ∀ i j g, (vn i).ownBlock = some g → (vn j).ownBlock = some g → i = j
  injE : ∀ i k j m g, (ev i k).ownBlock = some g → (ev j m).ownBlock = some g → i = j ∧ k = m
  ltN : ∀ i g, (vn i).ownBlock = some g → g < w.heap.size
  ltE : ∀ i k g, (ev i k).ownBlock = some g → g < w.heap.size
def OutF (B : Nat) (w : World) (v : Value) (F : FilP) : Prop := ∃ vn ev, FilesO B w v F vn ev
theorem FilesO.nil (B : Nat) (w : World) : FilesO B w (.slice none 0 0) [] (fun _ => .slice none 0 0) (fun _ _ => .slice none 0 0) :=
  ⟨OwnD.nil _ _ _, (fun i d h => by simp at h), (fun i d k n h => by simp at h), (fun i j g h => by cases h), (fun i k j m g h => by cases h), (fun i g h => by cases h), (fun i k g h => by cases h)⟩
theorem OutF.nil (B : Nat) (w : World) : OutF B w (.slice none 0 0) [] := ⟨_, _, FilesO.nil B w⟩
theorem FilesO.at_ {B : Nat} {w : World} {v : Value} {F : FilP} {vn : Nat → Value} {ev : Nat → Nat → Value} (h : FilesO B w v F vn ev) : ∃ a cap, v = .slice a F.length cap ∧ F.length ≤ cap ∧ (a = none → cap = 0) ∧ FilesAt w a F := by
  obtain ⟨a, cap, hv, hc, hn, hp⟩ := own_slice h.row
  refine ⟨a, cap, hv, hc, fun x => (hn x).1, ?_⟩
  cases a with
  | none => exact .inl (List.length_eq_zero_iff.1 (hn rfl).2)
  | some p =>
    obtain ⟨g, rfl, -⟩ := hp p rfl
    refine .inr ⟨g, 0, rfl, fun j d hj => ?_⟩
    have hl : j < F.length := (List.getElem?_eq_some_iff.1 hj).1
    have key : ∀ i, i < 2 → w.cell? ⟨g, 0 + j * 2 + i, none⟩ = (dcs d (vn j))[i]? := fun i hi => by
      rw [Nat.zero_add, own_cell h.row hv (by omega), drow_at vn 0 F j d hj i hi, Nat.zero_add]
    obtain ⟨ve, ce, hve, h1, h2, h3⟩ := (h.nodes j d hj).at_ (fun k n hk => h.ents j d k n hj hk)
    refine ⟨key 0 (by omega), ve, ce, ?_, h1, h2, h3⟩
    rw [key 1 (by omega)]
    show some (vn j) = _
    rw [hve]
end Go.Proofs.Ytafnbpkdenjipaa.fl
namespace Go.Proofs.Ytafnbpkdenjipaa.fl
open Go.RowKit Go.Proofs.Ytafnbpkdenjipaa.cm

theorem own_types {B B' T T' size size' n n' : Nat} {w : World} {v v' : Value} {xs xs' : List Value} (h : w.ownsRow B T size v n xs) (h' : w.ownsRow B' T' size' v' n' xs') (hT : T ≠ T') {g : Nat} (hg : v.ownBlock = some g) : v'.ownBlock ≠ some g := fun hg' => by
  obtain ⟨c, fz, h1⟩ := Lib.ownsRow_kind h g hg
  obtain ⟨c', fz', h2⟩ := Lib.ownsRow_kind h' g hg'
  rw [h1] at h2
  injection h2 with h2
  injection h2 with _ h2
  exact hT h2
theorem own_keep {B T size n : Nat} {w w' : World} {v : Value} {xs : List Value} (h : w.ownsRow B T size v n xs) (hk : ∀ g, v.ownBlock = some g → w'.heap[g]? = w.heap[g]?) : w'.ownsRow B T size v n xs := by
  refine ⟨h.1, ?_⟩
  rcases h.2 with h2 | ⟨g, cap, cur, h1, h2, h3, r⟩
  · exact .inl h2
  · exact .inr ⟨g, cap, cur, h1, h2, (hk g (by rw [h1]; rfl)).trans h3, r⟩
theorem own_mono {B B' T size n : Nat} {w : World} {v : Value} {xs : List Value} (h : w.ownsRow B T size v n xs) (hB : B' ≤ B) : w.ownsRow B' T size v n xs :=
  ⟨h.1, h.2.imp id (fun ⟨g, cap, cur, h1, h2, h3⟩ => ⟨g, cap, cur, h1, by omega, h3⟩)⟩
theorem own_lt {B T size n : Nat} {w : World} {v : Value} {xs : List Value} (h : w.ownsRow B T size v n xs) {g : Nat} (hg : v.ownBlock = some g) : B ≤ g ∧ g < w.heap.size := h.lt g hg
theorem own_form {B T size n : Nat} {w : World} {v : Value} {xs : List Value} (h : w.ownsRow B T size v n xs) {g : Nat} (hg : v.ownBlock = some g) : ∃ cap, v = .slice (some ⟨g, 0, none⟩) n cap := by
  rcases h.2 with ⟨h1, h2⟩ | ⟨g', cap, cur, h1, _⟩
  · rw [h1] at hg; cases hg
  · rw [h1] at hg
    injection hg with hg
    subst hg
    exact ⟨cap, h1⟩
theorem own_store {B T size n : Nat} {w : World} {v : Value} {xs : List Value} (h : w.ownsRow B T size v n xs) {g : Nat} (hg : v.ownBlock = some g) (j : Nat) (u : Value) : (w.setCell ⟨g, j, none⟩ u).ownsRow B T size v n (xs.set j u) := by
  obtain ⟨cap, hv⟩ := own_form h hg
  subst hv
  exact (h.stored j u).1
theorem own_other {B T size n : Nat} {w : World} {v : Value} {xs : List Value} (h : w.ownsRow B T size v n xs) {g : Nat} (hg : v.ownBlock ≠ some g) (j : Nat) (u : Value) : (w.setCell ⟨g, j, none⟩ u).ownsRow B T size v n xs := ownsRow_setCell_other h (a := ⟨g, j, none⟩) hg u

theorem blk_set2 {w : World} {B : Nat} {y0 y1 : Value} (h : Blk w B [y0, y1]) (x0 x1 : Value) : Blk ((w.setCell ⟨B, 0, none⟩ x0).setCell ⟨B, 1, none⟩ x1) B [x0, x1] := ((h.set 0 x0).set 1 x1)
theorem below_set2 {w0 w : World} {N B : Nat} (h : Below N w0 w) (hB : N ≤ B) (x0 x1 : Value) : Below N w0 ((w.setCell ⟨B, 0, none⟩ x0).setCell ⟨B, 1, none⟩ x1) := (below_set (below_set h hB 0 x0) hB 1 x1)
theorem own_set2 {M T size n B : Nat} {w : World} {v : Value} {xs : List Value} (h : w.ownsRow M T size v n xs) (hB : v.ownBlock ≠ some B) (x0 x1 : Value) : World.ownsRow ((w.setCell ⟨B, 0, none⟩ x0).setCell ⟨B, 1, none⟩ x1) M T size v n xs := (own_other (own_other h hB 0 x0) hB 1 x1)
theorem blk_other2 {w : World} {B C : Nat} {cs : List Value} (h : Blk w C cs) (hB : C ≠ B) (x0 x1 : Value) : Blk ((w.setCell ⟨B, 0, none⟩ x0).setCell ⟨B, 1, none⟩ x1) C cs := ((h.other hB 0 x0).other hB 1 x1)
theorem blk_set7 {w : World} {B : Nat} {y0 y1 y2 y3 y4 y5 y6 : Value} (h : Blk w B [y0, y1, y2, y3, y4, y5, y6]) (x0 x1 x2 x3 x4 x5 x6 : Value) : Blk (((((((w.setCell ⟨B, 0, none⟩ x0).setCell ⟨B, 1, none⟩ x1).setCell ⟨B, 2, none⟩ x2).setCell ⟨B, 3, none⟩ x3).setCell ⟨B, 4, none⟩ x4).setCell ⟨B, 5, none⟩ x5).setCell ⟨B, 6, none⟩ x6) B [x0, x1, x2, x3, x4, x5, x6] := (((((((h.set 0 x0).set 1 x1).set 2 x2).set 3 x3).set 4 x4).set 5 x5).set 6 x6)
theorem below_set7 {w0 w : World} {N B : Nat} (h : Below N w0 w) (hB : N ≤ B) (x0 x1 x2 x3 x4 x5 x6 : Value) : Below N w0 (((((((w.setCell ⟨B, 0, none⟩ x0).setCell ⟨B, 1, none⟩ x1).setCell ⟨B, 2, none⟩ x2).setCell ⟨B, 3, none⟩ x3).setCell ⟨B, 4, none⟩ x4).setCell ⟨B, 5, none⟩ x5).setCell ⟨B, 6, none⟩ x6) := (below_set (below_set (below_set (below_set (below_set (below_set (below_set h hB 0 x0) hB 1 x1) hB 2 x2) hB 3 x3) hB 4 x4) hB 5 x5) hB 6 x6)
theorem own_set7 {M T size n B : Nat} {w : World} {v : Value} {xs : List Value} (h : w.ownsRow M T size v n xs) (hB : v.ownBlock ≠ some B) (x0 x1 x2 x3 x4 x5 x6 : Value) : World.ownsRow (((((((w.setCell ⟨B, 0, none⟩ x0).setCell ⟨B, 1, none⟩ x1).setCell ⟨B, 2, none⟩ x2).setCell ⟨B, 3, none⟩ x3).setCell ⟨B, 4, none⟩ x4).setCell ⟨B, 5, none⟩ x5).setCell ⟨B, 6, none⟩ x6) M T size v n xs := (own_other (own_other (own_other (own_other (own_other (own_other (own_other h hB 0 x0) hB 1 x1) hB 2 x2) hB 3 x3) hB 4 x4) hB 5 x5) hB 6 x6)
theorem blk_other7 {w : World} {B C : Nat} {cs : List Value} (h : Blk w C cs) (hB : C ≠ B) (x0 x1 x2 x3 x4 x5 x6 : Value) : Blk (((((((w.setCell ⟨B, 0, none⟩ x0).setCell ⟨B, 1, none⟩ x1).setCell ⟨B, 2, none⟩ x2).setCell ⟨B, 3, none⟩ x3).setCell ⟨B, 4, none⟩ x4).setCell ⟨B, 5, none⟩ x5).setCell ⟨B, 6, none⟩ x6) C cs := (((((((h.other hB 0 x0).other hB 1 x1).other hB 2 x2).other hB 3 x3).other hB 4 x4).other hB 5 x5).other hB 6 x6)
theorem blk_set8 {w : World} {B : Nat} {y0 y1 y2 y3 y4 y5 y6 y7 : Value} (h : Blk w B [y0, y1, y2, y3, y4, y5, y6, y7]) (x0 x1 x2 x3 x4 x5 x6 x7 : Value) : Blk ((((((((w.setCell ⟨B, 0, none⟩ x0).setCell ⟨B, 1, none⟩ x1).setCell ⟨B, 2, none⟩ x2).setCell ⟨B, 3, none⟩ x3).setCell ⟨B, 4, none⟩ x4).setCell ⟨B, 5, none⟩ x5).setCell ⟨B, 6, none⟩ x6).setCell ⟨B, 7, none⟩ x7) B [x0, x1, x2, x3, x4, x5, x6, x7] := ((((((((h.set 0 x0).set 1 x1).set 2 x2).set 3 x3).set 4 x4).set 5 x5).set 6 x6).set 7 x7)
theorem below_set8 {w0 w : World} {N B : Nat} (h : Below N w0 w) (hB : N ≤ B) (x0 x1 x2 x3 x4 x5 x6 x7 : Value) : Below N w0 ((((((((w.setCell ⟨B, 0, none⟩ x0).setCell ⟨B, 1, none⟩ x1).setCell ⟨B, 2, none⟩ x2).setCell ⟨B, 3, none⟩ x3).setCell ⟨B, 4, none⟩ x4).setCell ⟨B, 5, none⟩ x5).setCell ⟨B, 6, none⟩ x6).setCell ⟨B, 7, none⟩ x7) := (below_set (below_set (below_set (below_set (below_set (below_set (below_set (below_set h hB 0 x0) hB 1 x1) hB 2 x2) hB 3 x3) hB 4 x4) hB 5 x5) hB 6 x6) hB 7 x7)
theorem own_set8 {M T size n B : Nat} {w : World} {v : Value} {xs : List Value} (h : w.ownsRow M T size v n xs) (hB : v.ownBlock ≠ some B) (x0 x1 x2 x3 x4 x5 x6 x7 : Value) : World.ownsRow ((((((((w.setCell ⟨B, 0, none⟩ x0).setCell ⟨B, 1, none⟩ x1).setCell ⟨B, 2, none⟩ x2).setCell ⟨B, 3, none⟩ x3).setCell ⟨B, 4, none⟩ x4).setCell ⟨B, 5, none⟩ x5).setCell ⟨B, 6, none⟩ x6).setCell ⟨B, 7, none⟩ x7) M T size v n xs := (own_other (own_other (own_other (own_other (own_other (own_other (own_other (own_other h hB 0 x0) hB 1 x1) hB 2 x2) hB 3 x3) hB 4 x4) hB 5 x5) hB 6 x6) hB 7 x7)
theorem blk_other8 {w : World} {B C : Nat} {cs : List Value} (h : Blk w C cs) (hB : C ≠ B) (x0 x1 x2 x3 x4 x5 x6 x7 : Value) : Blk ((((((((w.setCell ⟨B, 0, none⟩ x0).setCell ⟨B, 1, none⟩ x1).setCell ⟨B, 2, none⟩ x2).setCell ⟨B, 3, none⟩ x3).setCell ⟨B, 4, none⟩ x4).setCell ⟨B, 5, none⟩ x5).setCell ⟨B, 6, none⟩ x6).setCell ⟨B, 7, none⟩ x7) C cs := ((((((((h.other hB 0 x0).other hB 1 x1).other hB 2 x2).other hB 3 x3).other hB 4 x4).other hB 5 x5).other hB 6 x6).other hB 7 x7)

/-- blocks of devices, nodes and entries are as they were -/
structure SameT (w w' : World) : Prop where
  size : w.heap.size ≤ w'.heap.size
  block : ∀ (k : Nat) cs T fr, w.heap[k]? = some (.cells cs T fr) → (T = 72 ∨ T = 43 ∨ T = 87) → w'.heap[k]? = w.heap[k]?
theorem SameT.refl (w : World) : SameT w w := ⟨Nat.le_refl _, fun _ _ _ _ _ _ => rfl⟩
theorem SameT.trans {a b c : World} (h : SameT a b) (k : SameT b c) : SameT a c := ⟨Nat.le_trans h.size k.size, fun i _ _ _ hi hT => (k.block i _ _ _ ((h.block i _ _ _ hi hT).trans hi) hT).trans (h.block i _ _ _ hi hT)⟩
theorem SameT.of_below {w w' : World} (h : Below w.heap.size w w') : SameT w w' := ⟨h.size, fun k _ _ _ hk _ => h.block k (Array.getElem?_eq_some_iff.1 hk).1⟩
theorem SameT.set {w : World} {C : Nat} {cs : Array Value} {T : Nat} {fr : Nat × Nat} (hC : w.heap[C]? = some (.cells cs T fr)) (hT : ¬ (T = 72 ∨ T = 43 ∨ T = 87)) (j : Nat) (u : Value) : SameT w (w.setCell ⟨C, j, none⟩ u) :=
  ⟨by rw [size_set]; exact Nat.le_refl _, fun k _ _ _ hk hT' => Below.heap_setCell w ⟨C, j, none⟩ u k (by
    show k ≠ C
    rintro rfl
    rw [hC] at hk
    injection hk with hk
    injection hk with _ hk
    exact hT (hk ▸ hT'))⟩
theorem SameT.grown {w w' : World} {row : Option Nat} (hg : w.grownBy w' row) (hr : ∀ C, row = some C → ∃ cs T fr, w.heap[C]? = some (.cells cs T fr) ∧ ¬ (T = 72 ∨ T = 43 ∨ T = 87)) : SameT w w' :=
  ⟨hg.size, fun k _ _ _ hk hT => hg.block k (Array.getElem?_eq_some_iff.1 hk).1 (fun e => by
    obtain ⟨cs', T', fr', h1, h2⟩ := hr k e.symm
    rw [hk] at h1
    injection h1 with h1
    injection h1 with _ h1
    exact h2 (h1 ▸ hT))⟩
theorem own_same {B T size n : Nat} {w w' : World} {v : Value} {xs : List Value} (h : w.ownsRow B T size v n xs) (hT : T = 72 ∨ T = 43 ∨ T = 87) (hs : SameT w w') : w'.ownsRow B T size v n xs := own_keep h fun g hg => by
  obtain ⟨c, fz, h1⟩ := Lib.ownsRow_kind h g hg
  exact hs.block g _ _ _ h1 hT
theorem FilesO.same {B : Nat} {w w' : World} {v : Value} {F : FilP} {vn : Nat → Value} {ev : Nat → Nat → Value} (h : FilesO B w v F vn ev) (hs : SameT w w') : FilesO B w' v F vn ev :=
  ⟨own_same h.row (.inl rfl) hs, fun i d hd => own_same (h.nodes i d hd) (.inr (.inl rfl)) hs, fun i d k n hd hn => own_same (h.ents i d k n hd hn) (.inr (.inr rfl)) hs, h.injN, h.injE, fun i g hg => Nat.lt_of_lt_of_le (h.ltN i g hg) hs.size, fun i k g hg => Nat.lt_of_lt_of_le (h.ltE i k g hg) hs.size⟩
theorem FilesO.stay {B : Nat} {w w' : World} {v : Value} {F : FilP} {vn : Nat → Value} {ev : Nat → Nat → Value} (h : FilesO B w v F vn ev) (hb : Below w.heap.size w w') : FilesO B w' v F vn ev := h.same (.of_below hb)
theorem FilesO.mono {B B' : Nat} {w : World} {v : Value} {F : FilP} {vn : Nat → Value} {ev : Nat → Nat → Value} (h : FilesO B w v F vn ev) (hB : B' ≤ B) : FilesO B' w v F vn ev :=
  ⟨own_mono h.row hB, fun i d hd => own_mono (h.nodes i d hd) hB, fun i d k n hd hn => own_mono (h.ents i d k n hd hn) hB, h.injN, h.injE, h.ltN, h.ltE⟩
theorem OutF.same {B : Nat} {w w' : World} {v : Value} {F : FilP} (h : OutF B w v F) (hs : SameT w w') : OutF B w' v F := by obtain ⟨vn, ev, h⟩ := h; exact ⟨vn, ev, h.same hs⟩
theorem OutF.stay {B : Nat} {w w' : World} {v : Value} {F : FilP} (h : OutF B w v F) (hb : Below w.heap.size w w') : OutF B w' v F := h.same (.of_below hb)
theorem OutF.mono {B B' : Nat} {w : World} {v : Value} {F : FilP} (h : OutF B w v F) (hB : B' ≤ B) : OutF B' w v F := by obtain ⟨vn, ev, h⟩ := h; exact ⟨vn, ev, h.mono hB⟩
theorem OutF.at_ {B : Nat} {w : World} {v : Value} {F : FilP} (h : OutF B w v F) : ∃ a cap, v = .slice a F.length cap ∧ F.length ≤ cap ∧ (a = none → cap = 0) ∧ FilesAt w a F := by obtain ⟨vn, ev, h⟩ := h; exact h.at_

def updE (ev : Nat → Nat → Value) (i k : Nat) (x : Value) : Nat → Nat → Value := fun j m => if j = i ∧ m = k then x else ev j m
def updN (vn : Nat → Value) (i : Nat) (x : Value) : Nat → Value := fun j => if j = i then x else vn j
def updR (ev : Nat → Nat → Value) (i : Nat) (e : Nat → Value) : Nat → Nat → Value := fun j => if j = i then e else ev j
def setN (d : DevP) (k : Nat) (n : NodeP) : DevP := { d with nodes := d.nodes.set k n }

section
variable {B : Nat} {w : World} {v : Value} {F : FilP} {vn : Nat → Value} {ev : Nat → Nat → Value}
theorem FilesO.gN (h : FilesO B w v F vn ev) {i : Nat} {d : DevP} (hi : F[i]? = some d) {k : Nat} {n : NodeP} (hk : d.nodes[k]? = some n) : ∃ g cap, vn i = .slice (some ⟨g, 0, none⟩) d.nodes.length cap ∧ (vn i).ownBlock = some g ∧ B ≤ g ∧ g < w.heap.size := by
  obtain ⟨a, cap, hv, _, hn, hp⟩ := own_slice (h.nodes i d hi)
  cases a with
  | none => have := (hn rfl).2; have := (List.getElem?_eq_some_iff.1 hk).1; omega
  | some p =>
    obtain ⟨g, rfl, h1, h2, h3⟩ := hp p rfl
    exact ⟨g, cap, hv, h1, h2, h3⟩
theorem FilesO.gD (h : FilesO B w v F vn ev) {i : Nat} {d : DevP} (hi : F[i]? = some d) : ∃ g cap, v = .slice (some ⟨g, 0, none⟩) F.length cap ∧ v.ownBlock = some g ∧ B ≤ g ∧ g < w.heap.size := by
  obtain ⟨a, cap, hv, _, hn, hp⟩ := own_slice h.row
  cases a with
  | none => have := (hn rfl).2; have := (List.getElem?_eq_some_iff.1 hi).1; omega
  | some p =>
    obtain ⟨g, rfl, h1, h2, h3⟩ := hp p rfl
    exact ⟨g, cap, hv, h1, h2, h3⟩

/-- a field of a node is stored -/
theorem FilesO.setNode (h : FilesO B w v F vn ev) {i : Nat} {d : DevP} (hi : F[i]? = some d) {k : Nat} {n n' : NodeP} (hk : d.nodes[k]? = some n) {c : Nat} (hc : c < 7) {u : Value} (hn : ∀ x, (ncs n x).set c u = ncs n' x) (he : n'.ents = n.ents) {g : Nat} (hg : (vn i).ownBlock = some g) :
    FilesO B (w.setCell ⟨g, k * 8 + c, none⟩ u) v (F.set i (setN d k n')) vn ev := by
  have hil : i < F.length := (List.getElem?_eq_some_iff.1 hi).1
  refine ⟨?_, fun j d' hd => ?_, fun j d' m n2 hd hm => ?_, h.injN, h.injE, fun j g' hg' => by rw [size_set]; exact h.ltN j g' hg', fun j m g' hg' => by rw [size_set]; exact h.ltE j m g' hg'⟩
  · have h1 := own_other h.row (own_types (h.nodes i d hi) h.row (by decide) hg) (k * 8 + c) u
    unfold OwnD
    rw [List.length_set]
    have h2 : drow vn 0 (F.set i (setN d k n')) = drow vn 0 F := by
      have := drow_set vn vn 0 (.int .i64 d.next) 0 F i d (setN d k n') hi (by omega) rfl (fun _ _ => rfl)
      rw [← this]
      apply List.ext_getElem?
      intro t
      rw [List.getElem?_set]
      split
      · rename_i ht
        subst ht
        split
        · rw [drow_at vn 0 F i d hi 0 (by omega)]; rfl
        · rw [List.getElem?_eq_none (by omega)]
      · rfl
    rw [h2]
    exact h1
  · rw [List.getElem?_set] at hd
    split at hd
    · rename_i e
      subst e
      try rw [if_pos hil] at hd
      injection hd with hd
      subst hd
      unfold OwnN
      show World.ownsRow _ B _ 8 _ (d.nodes.set k n').length (nrow (ev i) 0 (d.nodes.set k n'))
      rw [List.length_set, ← nrow_set (ev i) (ev i) c u 0 d.nodes k n n' hk (by omega) (by rw [hn]) (fun _ _ => rfl)]
      exact own_store (h.nodes i d hi) hg _ _
    · rename_i e
      exact own_other (h.nodes j d' hd) (fun hg' => e (h.injN i j g hg hg')) _ _
  · rw [List.getElem?_set] at hd
    have key : ∀ d0 m0 n0, F[j]? = some d0 → d0.nodes[m0]? = some n0 → OwnE B (w.setCell ⟨g, k * 8 + c, none⟩ u) (ev j m0) n0.ents := fun d0 m0 n0 h1 h2 => own_other (h.ents j d0 m0 n0 h1 h2) (own_types (h.nodes i d hi) (h.ents j d0 m0 n0 h1 h2) (by decide) hg) _ _
    split at hd
    · rename_i e
      subst e
      try rw [if_pos hil] at hd
      injection hd with hd
      subst hd
      have hm' : (d.nodes.set k n')[m]? = some n2 := hm
      rw [List.getElem?_set] at hm'
      split at hm'
      · rename_i e2
        subst e2
        split at hm'
        · injection hm' with hm'
          rw [← hm', he]
          exact key d k n hi hk
        · cases hm'
      · exact key d m n2 hi hm'
    · exact key d' m n2 hd hm

/-- the entries of a node are other ones -/
theorem FilesO.setEntsG (h : FilesO B w v F vn ev) {i : Nat} {d : DevP} (hi : F[i]? = some d) {k : Nat} {n : NodeP} (hk : d.nodes[k]? = some n) {w' : World} (hg : w.grownBy w' (ev i k).ownBlock) {ve : Value} {es : List EntP} (ho : OwnE B w' ve es)
    (hb : ∀ g, ve.ownBlock = some g → (ev i k).ownBlock = some g ∨ ∀ j m, (ev j m).ownBlock ≠ some g) {g : Nat} (hgn : (vn i).ownBlock = some g) :
    FilesO B (w'.setCell ⟨g, k * 8 + 7, none⟩ ve) v (F.set i (setN d k { n with ents := es })) vn (updE ev i k ve) := by
  have hil : i < F.length := (List.getElem?_eq_some_iff.1 hi).1
  have hgl := h.ltN i g hgn
  -- the blocks of the others are as they were
  have kD : w'.ownsRow B 72 2 v F.length (drow vn 0 F) := own_keep h.row fun g' hg' => hg.block g' (own_lt h.row hg').2 (fun e => (own_types h.row (h.ents i d k n hi hk) (by decide) hg') e.symm)
  have kN : ∀ j d', F[j]? = some d' → w'.ownsRow B 43 8 (vn j) d'.nodes.length (nrow (ev j) 0 d'.nodes) := fun j d' hd => own_keep (h.nodes j d' hd) fun g' hg' => hg.block g' (own_lt (h.nodes j d' hd) hg').2 (fun e => (own_types (h.nodes j d' hd) (h.ents i d k n hi hk) (by decide) hg') e.symm)
  have kE : ∀ j d' m n', F[j]? = some d' → d'.nodes[m]? = some n' → ¬ (j = i ∧ m = k) → w'.ownsRow B 87 2 (ev j m) n'.ents.length (erow n'.ents) := fun j d' m n' hd hm hne => own_keep (h.ents j d' m n' hd hm) fun g' hg' => hg.block g' (own_lt (h.ents j d' m n' hd hm) hg').2 (fun e => hne (h.injE j m i k g' hg' e.symm))
  have hsz := hg.size
  refine ⟨?_, fun j d' hd => ?_, fun j d' m n2 hd hm => ?_, h.injN, fun j m j' m' g' h1 h2 => ?_, fun j g' hg' => by rw [size_set]; exact Nat.lt_of_lt_of_le (h.ltN j g' hg') hsz, fun j m g' hg' => ?_⟩
  · have h1 := own_other kD (own_types (kN i d hi) kD (by decide) hgn) (k * 8 + 7) ve
    unfold OwnD
    rw [List.length_set]
    have h2 : drow vn 0 (F.set i (setN d k { n with ents := es })) = drow vn 0 F := by
      have := drow_set vn vn 0 (.int .i64 d.next) 0 F i d (setN d k { n with ents := es }) hi (by omega) rfl (fun _ _ => rfl)
      rw [← this]
      apply List.ext_getElem?
      intro t
      rw [List.getElem?_set]
      split
      · rename_i ht
        subst ht
        split
        · rw [drow_at vn 0 F i d hi 0 (by omega)]; rfl
        · rw [List.getElem?_eq_none (by omega)]
      · rfl
    rw [h2]
    exact h1
  · rw [List.getElem?_set] at hd
    split at hd
    · rename_i e
      subst e
      try rw [if_pos hil] at hd
      injection hd with hd
      subst hd
      unfold OwnN
      show World.ownsRow _ B _ 8 _ (d.nodes.set k { n with ents := es }).length (nrow (updE ev i k ve i) 0 (d.nodes.set k { n with ents := es }))
      rw [List.length_set, ← nrow_set (ev i) (updE ev i k ve i) 7 ve 0 d.nodes k n { n with ents := es } hk (by omega) (by unfold updE; rw [Nat.zero_add, if_pos ⟨rfl, rfl⟩]; rfl) (fun t ht => by unfold updE; rw [if_neg (by omega)])]
      exact own_store (kN i d hi) hgn _ _
    · rename_i e
      have h3 : updE ev i k ve j = ev j := by funext t; unfold updE; rw [if_neg (fun x => e x.1.symm)]
      unfold OwnN
      rw [h3]
      exact own_other (kN j d' hd) (fun hg' => e (h.injN i j g hgn hg')) _ _
  · rw [List.getElem?_set] at hd
    have key : ∀ d0 m0 n0, F[j]? = some d0 → d0.nodes[m0]? = some n0 → ¬ (j = i ∧ m0 = k) → OwnE B (w'.setCell ⟨g, k * 8 + 7, none⟩ ve) (updE ev i k ve j m0) n0.ents := fun d0 m0 n0 h1 h2 h3 => by
      unfold updE
      rw [if_neg h3]
      exact own_other (kE j d0 m0 n0 h1 h2 h3) (own_types (kN i d hi) (kE j d0 m0 n0 h1 h2 h3) (by decide) hgn) _ _
    split at hd
    · rename_i e
      subst e
      try rw [if_pos hil] at hd
      injection hd with hd
      subst hd
      have hm' : (d.nodes.set k { n with ents := es })[m]? = some n2 := hm
      rw [List.getElem?_set] at hm'
      split at hm'
      · rename_i e2
        subst e2
        split at hm'
        · injection hm' with hm'
          rw [← hm']
          unfold updE
          rw [if_pos ⟨rfl, rfl⟩]
          exact own_other ho (own_types (kN i d hi) ho (by decide) hgn) _ _
        · cases hm'
      · rename_i e2
        exact key d m n2 hi hm' (fun x => e2 x.2.symm)
    · rename_i e
      exact key d' m n2 hd hm (fun x => e x.1.symm)
  · unfold updE at h1 h2
    split at h1
    · rename_i e1
      split at h2
      · rename_i e2
        exact ⟨by omega, by omega⟩
      · rename_i e2
        rcases hb g' h1 with x | x
        · have := h.injE i k j' m' g' x h2
          exact ⟨by omega, by omega⟩
        · exact (x j' m' h2).elim
    · rename_i e1
      split at h2
      · rename_i e2
        rcases hb g' h2 with x | x
        · have := h.injE j m i k g' h1 x
          exact ⟨by omega, by omega⟩
        · exact (x j m h1).elim
      · exact h.injE j m j' m' g' h1 h2
  · rw [size_set]
    unfold updE at hg'
    split at hg'
    · exact (own_lt ho hg').2
    · exact Nat.lt_of_lt_of_le (h.ltE j m g' hg') hsz
theorem FilesO.setEnts (h : FilesO B w v F vn ev) {i : Nat} {d : DevP} (hi : F[i]? = some d) {k : Nat} {n : NodeP} (hk : d.nodes[k]? = some n) {w' : World} (hg : w.grownBy w' (ev i k).ownBlock) {ve : Value} {es : List EntP} (ho : OwnE B w' ve es)
    (hb : ∀ g, ve.ownBlock = some g → (ev i k).ownBlock = some g ∨ w.heap.size ≤ g) {g : Nat} (hgn : (vn i).ownBlock = some g) :
    FilesO B (w'.setCell ⟨g, k * 8 + 7, none⟩ ve) v (F.set i (setN d k { n with ents := es })) vn (updE ev i k ve) :=
  h.setEntsG hi hk hg ho (fun g hg' => (hb g hg').imp id fun x j m e => by have := h.ltE j m g e; omega) hgn

/-- the nodes of a device are other ones -/
theorem FilesO.setNodes (h : FilesO B w v F vn ev) {i : Nat} {d : DevP} (hi : F[i]? = some d) {w' : World} (hg : w.grownBy w' (vn i).ownBlock) {x : Value} {ns : List NodeP} {e : Nat → Value} (ho : OwnN B w' x e ns)
    (he : ∀ (k : Nat) n, ns[k]? = some n → OwnE B w' (e k) n.ents) (hinj : ∀ k m g, (e k).ownBlock = some g → (e m).ownBlock = some g → k = m) (hold : ∀ k g, (e k).ownBlock = some g → ∃ m, (ev i m).ownBlock = some g)
    (hb : ∀ g, x.ownBlock = some g → (vn i).ownBlock = some g ∨ w.heap.size ≤ g) {g : Nat} (hgd : v.ownBlock = some g) :
    FilesO B (w'.setCell ⟨g, i * 2 + 1, none⟩ x) v (F.set i { d with nodes := ns }) (updN vn i x) (updR ev i e) := by
  have hil : i < F.length := (List.getElem?_eq_some_iff.1 hi).1
  have hsz := hg.size
  have kD : w'.ownsRow B 72 2 v F.length (drow vn 0 F) := own_keep h.row fun g' hg' => hg.block g' (own_lt h.row hg').2 (fun e => (own_types h.row (h.nodes i d hi) (by decide) hg') e.symm)
  have kN : ∀ j d', F[j]? = some d' → j ≠ i → w'.ownsRow B 43 8 (vn j) d'.nodes.length (nrow (ev j) 0 d'.nodes) := fun j d' hd hne => own_keep (h.nodes j d' hd) fun g' hg' => hg.block g' (own_lt (h.nodes j d' hd) hg').2 (fun e => hne (h.injN j i g' hg' e.symm))
  have kE : ∀ j d' m n', F[j]? = some d' → d'.nodes[m]? = some n' → w'.ownsRow B 87 2 (ev j m) n'.ents.length (erow n'.ents) := fun j d' m n' hd hm => own_keep (h.ents j d' m n' hd hm) fun g' hg' => hg.block g' (own_lt (h.ents j d' m n' hd hm) hg').2 (fun e => (own_types (h.ents j d' m n' hd hm) (h.nodes i d hi) (by decide) hg') e.symm)
  refine ⟨?_, fun j d' hd => ?_, fun j d' m n2 hd hm => ?_, fun j j' g' h1 h2 => ?_, fun j m j' m' g' h1 h2 => ?_, fun j g' hg' => ?_, fun j m g' hg' => ?_⟩
  · unfold OwnD
    rw [List.length_set, ← drow_set vn (updN vn i x) 1 x 0 F i d { d with nodes := ns } hi (by omega) (by unfold updN; rw [Nat.zero_add, if_pos rfl]; rfl) (fun t ht => by unfold updN; rw [if_neg (by omega)])]
    exact own_store kD hgd _ _
  · rw [List.getElem?_set] at hd
    split at hd
    · rename_i e1
      subst e1
      try rw [if_pos hil] at hd
      injection hd with hd
      subst hd
      have a1 : updN vn i x i = x := by unfold updN; rw [if_pos rfl]
      have a2 : updR ev i e i = e := by unfold updR; rw [if_pos rfl]
      rw [a1, a2]
      exact own_other ho (own_types kD ho (by decide) hgd) _ _
    · rename_i e1
      have a1 : updN vn i x j = vn j := by unfold updN; rw [if_neg (fun y => e1 y.symm)]
      have a2 : updR ev i e j = ev j := by unfold updR; rw [if_neg (fun y => e1 y.symm)]
      rw [a1, a2]
      exact own_other (kN j d' hd (fun y => e1 y.symm)) (own_types kD (kN j d' hd (fun y => e1 y.symm)) (by decide) hgd) _ _
  · rw [List.getElem?_set] at hd
    split at hd
    · rename_i e1
      subst e1
      try rw [if_pos hil] at hd
      injection hd with hd
      subst hd
      have a2 : updR ev i e i = e := by unfold updR; rw [if_pos rfl]
      rw [a2]
      exact own_other (he m n2 hm) (own_types kD (he m n2 hm) (by decide) hgd) _ _
    · rename_i e1
      have a2 : updR ev i e j = ev j := by unfold updR; rw [if_neg (fun y => e1 y.symm)]
      rw [a2]
      exact own_other (kE j d' m n2 hd hm) (own_types kD (kE j d' m n2 hd hm) (by decide) hgd) _ _
  · unfold updN at h1 h2
    split at h1
    · split at h2
      · omega
      · rcases hb g' h1 with y | y
        · have := h.injN i j' g' y h2; omega
        · have := h.ltN j' g' h2; omega
    · split at h2
      · rcases hb g' h2 with y | y
        · have := h.injN j i g' h1 y; omega
        · have := h.ltN j g' h1; omega
      · exact h.injN j j' g' h1 h2
  · unfold updR at h1 h2
    split at h1
    · split at h2
      · exact ⟨by omega, hinj m m' g' h1 h2⟩
      · obtain ⟨t, ht⟩ := hold m g' h1
        have := h.injE i t j' m' g' ht h2; omega
    · split at h2
      · obtain ⟨t, ht⟩ := hold m' g' h2
        have := h.injE j m i t g' h1 ht; omega
      · exact h.injE j m j' m' g' h1 h2
  · rw [size_set]
    unfold updN at hg'
    split at hg'
    · exact (own_lt ho hg').2
    · exact Nat.lt_of_lt_of_le (h.ltN j g' hg') hsz
  · rw [size_set]
    unfold updR at hg'
    split at hg'
    · obtain ⟨t, ht⟩ := hold m g' hg'
      exact Nat.lt_of_lt_of_le (h.ltE i t g' ht) hsz
    · exact Nat.lt_of_lt_of_le (h.ltE j m g' hg') hsz

/-- the next number of a device is another one -/
theorem FilesO.setNext (h : FilesO B w v F vn ev) {i : Nat} {d : DevP} (hi : F[i]? = some d) (u : Int) {g : Nat} (hgd : v.ownBlock = some g) :
    FilesO B (w.setCell ⟨g, i * 2 + 0, none⟩ (.int .i64 u)) v (F.set i { d with next := u }) vn ev := by
  have hil : i < F.length := (List.getElem?_eq_some_iff.1 hi).1
  have key : ∀ (j : Nat) d', (F.set i { d with next := u })[j]? = some d' → ∃ d0, F[j]? = some d0 ∧ d'.nodes = d0.nodes := fun j d' hd => by
    rw [List.getElem?_set] at hd
    split at hd
    · rename_i e1
      subst e1
      try rw [if_pos hil] at hd
      injection hd with hd
      subst hd
      exact ⟨d, hi, rfl⟩
    · exact ⟨d', hd, rfl⟩
  refine ⟨?_, fun j d' hd => ?_, fun j d' m n2 hd hm => ?_, h.injN, h.injE, fun j g' hg' => by rw [size_set]; exact h.ltN j g' hg', fun j m g' hg' => by rw [size_set]; exact h.ltE j m g' hg'⟩
  · unfold OwnD
    rw [List.length_set, ← drow_set vn vn 0 (.int .i64 u) 0 F i d { d with next := u } hi (by omega) rfl (fun _ _ => rfl)]
    exact own_store h.row hgd _ _
  · obtain ⟨d0, h1, h2⟩ := key j d' hd
    rw [h2]
    exact own_other (h.nodes j d0 h1) (own_types h.row (h.nodes j d0 h1) (by decide) hgd) _ _
  · obtain ⟨d0, h1, h2⟩ := key j d' hd
    rw [h2] at hm
    exact own_other (h.ents j d0 m n2 h1 hm) (own_types h.row (h.ents j d0 m n2 h1 hm) (by decide) hgd) _ _
end
end Go.Proofs.Ytafnbpkdenjipaa.fl
namespace Go.Proofs.Ytafnbpkdenjipaa.fl
open Go.RowKit Go.Proofs.Ytafnbpkdenjipaa.cm

theorem infoE : (Try.prog.info? 87).map (fun i => (i.zero, i.size, i.bytes)) = some (some (.agg #[.string ⟨#[]⟩, .int .i64 0]), 2, 24) := by kernel_rfl
theorem infoN : (Try.prog.info? 43).map (fun i => (i.zero, i.size, i.bytes)) = some (some (.agg #[.int .i64 0, .int .i64 0, .int .i64 0, .int .i64 0, .int .i64 0, .int .i64 0, .string ⟨#[]⟩, .slice none 0 0]), 8, 88) := by kernel_rfl
theorem infoD : (Try.prog.info? 72).map (fun i => (i.zero, i.size, i.bytes)) = some (some (.agg #[.int .i64 0, .slice none 0 0]), 2, 32) := by kernel_rfl
theorem erow_succ {l : List EntP} {k : Nat} {e : EntP} (h : l[k]? = some e) : erow (l.take (k + 1)) = erow (l.take k) ++ [.string e.name, .int .i64 e.ino] := by
  obtain ⟨hk, rfl⟩ := List.getElem?_eq_some_iff.1 h
  rw [List.take_succ_eq_append_getElem hk, erow_app]
  simp [erow, ecs]
theorem grown_stay {w0 w w' : World} {row : Option Nat} (hb : Below w0.heap.size w0 w) (hg : w.grownBy w' row) (hr : ∀ k, row = some k → w0.heap.size ≤ k) : Below w0.heap.size w0 w' := hb.grown hg hb.size hr

theorem addr_add (g o j : Nat) : (⟨g, o, none⟩ : Addr).add j = ⟨g, o + j, none⟩ := by unfold Addr.add; split <;> simp_all
theorem erow_cells {w : World} {p : Addr} {es : List EntP} (hE : Ents w (some p) es) : ∀ j u, (erow es)[j]? = some u → w.cell? (p.add j) = some u := fun j u hj => by
  rcases hE with h | ⟨b, o, hp, h⟩
  · rw [h] at hj; simp [erow] at hj
  · injection hp with hp
    subst hp
    have hl : j < es.length * 2 := by have := (List.getElem?_eq_some_iff.1 hj).1; rwa [erow_len] at this
    have hq : j / 2 < es.length := by omega
    have he := h (j / 2) _ (List.getElem?_eq_getElem hq)
    have e := erow_at es (j / 2) _ (List.getElem?_eq_getElem hq) (j % 2) (by omega)
    rw [show j / 2 * 2 + j % 2 = j by omega, hj] at e
    rw [addr_add]
    rcases (show j % 2 = 0 ∨ j % 2 = 1 by omega) with c | c
    · rw [c] at e
      injection e with e
      rw [e, show o + j = o + j / 2 * 2 by omega]
      exact he.c0
    · rw [c] at e
      injection e with e
      rw [e, show o + j = o + j / 2 * 2 + 1 by omega]
      exact he.c1
theorem erow_cell1 : ∀ (es : List EntP) u, u ∈ erow es → u.oneCell' = true
  | [], u, h => by simp [erow] at h
  | e :: es, u, h => by
    rw [erow] at h
    rcases List.mem_append.1 h with h | h
    · simp [ecs] at h
      rcases h with rfl | rfl <;> rfl
    · exact erow_cell1 es u h

set_option maxRecDepth 100000 in
set_option maxHeartbeats 1000000 in
theorem cloneE_any (a : Option Addr) (cap : Nat) (es : List EntP) (w : World) (hE : Ents w a es) (hl : es.length ≤ 1000) :
    Calls Try.prog 65 #[.slice a es.length cap] w fun e w' => ∃ v, e = .returned v ∧ OwnE w.heap.size w' v es ∧ Below w.heap.size w w' := by
  obtain ⟨i0, hi, hz0, hz1, hz2⟩ := info_parts infoE
  have q : ∀ (w : World) (a : Option Addr) (n c n' c' : Nat), (binOp .eql 41 (.slice a n c) (.slice none n' c')).run Try.prog w = .ok (.bool a.isNone) w := fun w a n c n' c' => Lib.run_eql_slice_nil w _ _ a n c n' c' Try.underlying41
  cases a with
  | none =>
    obtain rfl : es = [] := by
      rcases hE with h | ⟨b, o, h, -⟩
      · exact h
      · cases h
    clear hE
    go_enter Try.func65, Try.ntmps65
    go_wp2_with fail
    go_ret
    exact ⟨_, rfl, OwnE.nil _ _, Below.refl _ _⟩
  | some p =>
    have hbn : Below w.heap.size w (w.alloc (.cells #[] 87)) := (Below.refl _ _).alloc (Nat.le_refl _) _
    have nw := Lib.hid (erow_cells (RowAt.below EntAt.stays hE hbn))
    have H1 := Lib.hid (erow_cell1 es)
    have HL := Lib.hid (erow_len es)
    have HM : Hid (w.alloc (.cells #[] 87) |>.ownsRow w.heap.size 87 2 (.slice (some ⟨w.heap.size, 0, none⟩) 0 0) 0 []) := Lib.hid (World.ownsRow_made w #[] 0 (Nat.le_refl _) (Nat.zero_le _) rfl)
    have HB := Lib.hid hbn
    clear hE hbn
    go_enter Try.func65, Try.ntmps65
    go_wp2_with (first
      | (at_builtin; refine wpList_append_own _ rfl _ _ 41 rfl w.heap.size 87 i0 _ 2 24 Try.underlying41 hi hz0 hz1 hz2 rfl (by omega) _ 0 _ rfl HM.out p es.length cap (erow es) rfl HL.out nw.out H1.out ?c6 ?c7 ?c8 ?_)
      | fail)
    case c6 => unfold maxLen; omega
    case c7 => omega
    case c8 => simp
    intro v2 w3 own4 hgrow _
    have hb5 : Below w.heap.size w w3 := HB.out.grown hgrow (by simp) (fun g hg => by simp [Value.ownBlock] at hg; omega)
    clear hgrow
    go_wp2_with fail
    go_ret
    exact ⟨_, rfl, own4, hb5⟩

set_option maxRecDepth 100000 in
set_option maxHeartbeats 1000000 in
theorem copyNode_any (n : NodeP) (va : Option Addr) (cv : Nat) (w : World) (hE : Ents w va n.ents) (hl : n.ents.length ≤ 1000) :
    Calls Try.prog 40 #[.agg #[.int .i64 n.ino, .int .i64 n.kind, .int .i64 n.mode, .int .i64 n.uid, .int .i64 n.gid, .int .i64 n.parent, .string n.target, .slice va n.ents.length cv]] w fun e w' => ∃ v, e = .returned (.agg #[.int .i64 n.ino, .int .i64 n.kind, .int .i64 n.mode, .int .i64 n.uid, .int .i64 n.gid, .int .i64 n.parent, .string n.target, v]) ∧ OwnE w.heap.size w' v n.ents ∧ Below w.heap.size w w' := by
  have hb1 : Below w.heap.size w (w.alloc (.cells #[.int .i64 n.ino, .int .i64 n.kind, .int .i64 n.mode, .int .i64 n.uid, .int .i64 n.gid, .int .i64 n.parent, .string n.target, .slice va n.ents.length cv] 43)) := (Below.refl _ _).alloc (Nat.le_refl _) _
  have hb2 := hb1.alloc hb1.size (.cells #[.int .i64 0, .int .i64 0, .int .i64 0, .int .i64 0, .int .i64 0, .int .i64 0, .string ⟨#[]⟩, .slice none 0 0] 43)
  have q := (Blk.new w [.int .i64 n.ino, .int .i64 n.kind, .int .i64 n.mode, .int .i64 n.uid, .int .i64 n.gid, .int .i64 n.parent, .string n.target, .slice va n.ents.length cv] 43).alloc (.cells #[.int .i64 0, .int .i64 0, .int .i64 0, .int .i64 0, .int .i64 0, .int .i64 0, .string ⟨#[]⟩, .slice none 0 0] 43)
  have r := Blk.new1 (w.alloc (.cells #[.int .i64 n.ino, .int .i64 n.kind, .int .i64 n.mode, .int .i64 n.uid, .int .i64 n.gid, .int .i64 n.parent, .string n.target, .slice va n.ents.length cv] 43)) [.int .i64 0, .int .i64 0, .int .i64 0, .int .i64 0, .int .i64 0, .int .i64 0, .string ⟨#[]⟩, .slice none 0 0] 43 (w.heap.size + 1) (size_alloc _ _)
  have CC := Lib.hid (cloneE_any va cv n.ents _ (RowAt.below EntAt.stays hE hb2) hl)
  clear hE
  go_enter Try.func40, Try.ntmps40
  go_wp2_with fail
  refine CC.out.mono ?_
  rintro e w2 ⟨v, rfl, hown, hb3⟩
  have hb4 := hb2.trans (hb3.mono hb2.size)
  have q2 := q.stay hb3
  have r2 := r.stay hb3
  obtain ⟨⟨c0, c1, c2, c3, c4, c5, c6, c7⟩, f0, f1, f2, f3, f4, f5, f6, f7⟩ := q2.c8
  obtain ⟨⟨d0, d1, d2, d3, d4, d5, d6, d7⟩, g0, g1, g2, g3, g4, g5, g6, g7⟩ := r2.c8
  clear hb1 hb2 hb3 q r CC
  have own2 : w2.ownsRow w.heap.size 87 2 v n.ents.length (erow n.ents) := own_mono hown (by simp; omega)
  obtain ⟨vo, vc, rfl⟩ : ∃ vo vc, v = .slice vo n.ents.length vc := by
    obtain ⟨a, c, h, -⟩ := own_slice own2
    exact ⟨a, c, h⟩
  have hge : ∀ g, (Value.slice vo n.ents.length vc).ownBlock = some g → w.heap.size + 1 < g := fun g hg => by have := (own_lt hown hg).1; simp at this; omega
  have rs := blk_set8 (r2.other (C := w.heap.size) (by omega) 7 (.slice vo n.ents.length vc)) (.int .i64 n.ino) (.int .i64 n.kind) (.int .i64 n.mode) (.int .i64 n.uid) (.int .i64 n.gid) (.int .i64 n.parent) (.string n.target) (.slice vo n.ents.length vc)
  have own3 := own_set8 (own_other own2 (g := w.heap.size) (fun h => by have := hge _ h; omega) 7 (.slice vo n.ents.length vc)) (B := w.heap.size + 1) (fun h => by have := hge _ h; omega) (.int .i64 n.ino) (.int .i64 n.kind) (.int .i64 n.mode) (.int .i64 n.uid) (.int .i64 n.gid) (.int .i64 n.parent) (.string n.target) (.slice vo n.ents.length vc)
  have hb5 := below_set8 (below_set hb4 (N := w.heap.size) (Nat.le_refl _) 7 (.slice vo n.ents.length vc)) (B := w.heap.size + 1) (by omega) (.int .i64 n.ino) (.int .i64 n.kind) (.int .i64 n.mode) (.int .i64 n.uid) (.int .i64 n.gid) (.int .i64 n.parent) (.string n.target) (.slice vo n.ents.length vc)
  obtain ⟨⟨s0, s1, s2, s3, s4, s5, s6, s7⟩, -⟩ := rs.c8
  clear hown hge
  go_wp2_with fail
  exact bodyPost_ret (v := .agg #[.int .i64 n.ino, .int .i64 n.kind, .int .i64 n.mode, .int .i64 n.uid, .int .i64 n.gid, .int .i64 n.parent, .string n.target, .slice vo n.ents.length vc]) (by simp [results, Try.f40, go_sem, s0, s1, s2, s3, s4, s5, s6, s7]) rfl ⟨_, rfl, own3, hb5⟩
end Go.Proofs.Ytafnbpkdenjipaa.fl
namespace Go.Proofs.Ytafnbpkdenjipaa.fl
open Go.RowKit Go.Proofs.Ytafnbpkdenjipaa.cm

def upd1 (e : Nat → Value) (k : Nat) (x : Value) : Nat → Value := fun j => if j = k then x else e j
theorem upd1_same (e : Nat → Value) (k : Nat) (x : Value) : upd1 e k x k = x := if_pos rfl
theorem upd1_other (e : Nat → Value) {k j : Nat} (x : Value) (h : j ≠ k) : upd1 e k x j = e j := if_neg h
theorem nrow_succ {l : List NodeP} {k : Nat} {n : NodeP} (h : l[k]? = some n) (e : Nat → Value) (x : Value) : nrow (upd1 e k x) 0 (l.take (k + 1)) = nrow e 0 (l.take k) ++ ncs n x := by
  obtain ⟨hk, rfl⟩ := List.getElem?_eq_some_iff.1 h
  rw [List.take_succ_eq_append_getElem hk, nrow_app, nrow_ext (ev' := e) 0 (l.take k) (fun j h1 h2 => upd1_other e x (by rw [List.length_take] at h2; omega))]
  have : 0 + (l.take k).length = k := by rw [List.length_take]; omega
  rw [this]
  simp [nrow, upd1_same]
theorem drow_succ {l : List DevP} {k : Nat} {d : DevP} (h : l[k]? = some d) (e : Nat → Value) (x : Value) : drow (upd1 e k x) 0 (l.take (k + 1)) = drow e 0 (l.take k) ++ dcs d x := by
  obtain ⟨hk, rfl⟩ := List.getElem?_eq_some_iff.1 h
  rw [List.take_succ_eq_append_getElem hk, drow_app, drow_ext (vn' := e) 0 (l.take k) (fun j h1 h2 => upd1_other e x (by rw [List.length_take] at h2; omega))]
  have : 0 + (l.take k).length = k := by rw [List.length_take]; omega
  rw [this]
  simp [drow, upd1_same]

/-- the first k nodes of a list, in a row of the call's own -/
structure NodesK (B : Nat) (w : World) (v : Value) (e : Nat → Value) (ns : List NodeP) (k : Nat) : Prop where
  row : w.ownsRow B 43 8 v k (nrow e 0 (ns.take k))
  ents : ∀ (j : Nat) n, j < k → ns[j]? = some n → OwnE B w (e j) n.ents
  inj : ∀ j m g, (e j).ownBlock = some g → (e m).ownBlock = some g → j = m
  lt : ∀ j g, (e j).ownBlock = some g → B ≤ g ∧ g < w.heap.size
theorem NodesK.zero (B : Nat) (w : World) (ns : List NodeP) : NodesK B w (.slice none 0 0) (fun _ => .slice none 0 0) ns 0 :=
  ⟨World.ownsRow_nil _ _ _ _, (fun j n h => absurd h (Nat.not_lt_zero _)), (fun j m g h => by cases h), (fun j g h => by cases h)⟩
theorem NodesK.keep {B : Nat} {w w' : World} {v : Value} {e : Nat → Value} {ns : List NodeP} {k : Nat} (h : NodesK B w v e ns k) (hb : Below w.heap.size w w') : NodesK B w' v e ns k :=
  ⟨own_keep h.row fun g hg => hb.block g (own_lt h.row hg).2, fun j n hj hn => own_keep (h.ents j n hj hn) fun g hg => hb.block g (own_lt (h.ents j n hj hn) hg).2, h.inj, fun j g hg => ⟨(h.lt j g hg).1, Nat.lt_of_lt_of_le (h.lt j g hg).2 hb.size⟩⟩
theorem NodesK.next {B : Nat} {w w2 w3 : World} {v v' x : Value} {e : Nat → Value} {ns : List NodeP} {k : Nat} {n : NodeP} (h : NodesK B w v e ns k) (hn : ns[k]? = some n) (hb : Below w.heap.size w w2) (hx : OwnE w.heap.size w2 x n.ents)
    (hg : w2.grownBy w3 v.ownBlock) (ho : w3.ownsRow B 43 8 v' (k + 1) (nrow e 0 (ns.take k) ++ ncs n x)) (hB : B ≤ w.heap.size) : NodesK B w3 v' (upd1 e k x) ns (k + 1) := by
  have h2 := h.keep hb
  refine ⟨by rw [nrow_succ hn]; exact ho, fun j m hj hm => ?_, fun j m g h1 h3 => ?_, fun j g h1 => ?_⟩
  · by_cases c : j = k
    · subst c
      rw [upd1_same]
      rw [hn] at hm
      injection hm with hm
      subst hm
      exact own_mono (own_keep hx fun g hg2 => hg.block g (own_lt hx hg2).2 (fun y => own_types hx h2.row (by decide) hg2 y.symm)) hB
    · rw [upd1_other e x c]
      have he := h2.ents j m (by omega) hm
      exact own_keep he fun g hg2 => hg.block g (own_lt he hg2).2 (fun y => own_types he h2.row (by decide) hg2 y.symm)
  · unfold upd1 at h1 h3
    split at h1
    · split at h3
      · omega
      · have := (h.lt m g h3).2; have := (own_lt hx h1).1; omega
    · split at h3
      · have := (h.lt j g h1).2; have := (own_lt hx h3).1; omega
      · exact h.inj j m g h1 h3
  · unfold upd1 at h1
    have hs := hg.size
    split at h1
    · have := own_lt hx h1; omega
    · have := h2.lt j g h1; omega

set_option maxRecDepth 100000 in
set_option maxHeartbeats 2000000 in
theorem copiesN_any (a : Option Addr) (cap : Nat) (ns : List NodeP) (w : World) (hN : Nodes w a ns) (hl : ns.length ≤ 1000) (he : ∀ n ∈ ns, n.ents.length ≤ 1000) :
    Calls Try.prog 95 #[.slice a ns.length cap, .func (.func 40) #[] #[]] w fun e w' => ∃ v ev, e = .returned v ∧ NodesK w.heap.size w' v ev ns ns.length ∧ Below w.heap.size w w' := by
  obtain ⟨i0, hi, hz0, hz1, hz2⟩ := info_parts infoN
  have HN := Lib.hid (fun W (h : Below w.heap.size w W) => RowAt.below NodeAt.stays hN h)
  have HE := Lib.hid he
  clear hN he
  go_enter Try.func95, Try.ntmps95
  go_wp2_with fail
  go_loopw [5, 10] (fun v i wr => ∃ (k : Nat) (e : Nat → Value), k ≤ ns.length ∧ i = .int .i64 k ∧ Hid (NodesK w.heap.size wr v e ns k) ∧ Below w.heap.size w wr) (fun _ i _ => ns.length - (intOf i).toNat)
  case atStart => exact ⟨0, _, Nat.zero_le _, rfl, Lib.hid (NodesK.zero _ _ _), Below.refl _ _⟩
  case round =>
    obtain ⟨k, e, hk, rfl, HK, hb⟩ := hrel
    by_cases hlt : k < ns.length
    · have hkk : (k : Int) < (ns.length : Int) := by omega
      obtain ⟨b, o, rfl, hp⟩ := (HN.out _ hb).get hlt
      have HP := Lib.hid (List.getElem?_eq_getElem hlt)
      have hle := HE.out _ (List.getElem_mem hlt)
      generalize ns[k] = n at *
      obtain ⟨a0, a1, a2, a3, a4, a5, a6, va, cv, a7, hcv, -, hes⟩ := hp
      have hb2 := hb.alloc hb.size (.cells #[.int .i64 n.ino, .int .i64 n.kind, .int .i64 n.mode, .int .i64 n.uid, .int .i64 n.gid, .int .i64 n.parent, .string n.target, .slice va n.ents.length cv] 43)
      have hbr : Below wr.heap.size wr (wr.alloc (.cells #[.int .i64 n.ino, .int .i64 n.kind, .int .i64 n.mode, .int .i64 n.uid, .int .i64 n.gid, .int .i64 n.parent, .string n.target, .slice va n.ents.length cv] 43)) := (Below.refl _ _).alloc (Nat.le_refl _) _
      have CC := Lib.hid (copyNode_any n va cv _ (RowAt.below EntAt.stays hes hbr) hle)
      clear hes
      go_wp2_with fail
      refine CC.out.mono ?_
      rintro e2 w2 ⟨x, rfl, hx, hb3⟩
      have hbr2 := hbr.trans (hb3.mono hbr.size)
      have hb4 := hb2.trans (hb3.mono hb2.size)
      have own3 : w2.ownsRow w.heap.size 43 8 u5 k (nrow e 0 (ns.take k)) := own_keep HK.out.row fun g hg => hbr2.block g (own_lt HK.out.row hg).2
      obtain ⟨xo, xc, rfl⟩ : ∃ xo xc, x = .slice xo n.ents.length xc := by
        obtain ⟨a, c, h, -⟩ := own_slice hx
        exact ⟨a, c, h⟩
      have HX := Lib.hid (own_mono hx (B' := wr.heap.size) (by simp))
      have HBR := Lib.hid hbr2
      have hbz := hb.size
      clear hb3 hb2 hbr hbr2 hx hb a0 a1 a2 a3 a4 a5 a6 a7 CC
      have nw : Hid (∀ j u, (ncs n (.slice xo n.ents.length xc))[j]? = some u → (w2.alloc (.cells #[.int .i64 n.ino, .int .i64 n.kind, .int .i64 n.mode, .int .i64 n.uid, .int .i64 n.gid, .int .i64 n.parent, .string n.target, .slice xo n.ents.length xc] 43)).cell? ((⟨w2.heap.size, 0, none⟩ : Addr).add j) = some u) := Lib.hid (World.news_of_block (cs := #[.int .i64 n.ino, .int .i64 n.kind, .int .i64 n.mode, .int .i64 n.uid, .int .i64 n.gid, .int .i64 n.parent, .string n.target, .slice xo n.ents.length xc]) (t := 43) (fr := (0, 0)) (heap_alloc_new w2 _))
      go_wp2_with (first
        | (at_builtin; refine wpList_append_own _ rfl _ _ 70 rfl w.heap.size 43 i0 _ 8 88 Try.underlying70 hi hz0 hz1 hz2 rfl (by omega) _ k _ rfl (own3.alloc _) ⟨w2.heap.size, 0, none⟩ 1 1 (ncs n (.slice xo n.ents.length xc)) rfl rfl nw.out ?c5 ?c6 ?c7 ?c8 ?_)
        | fail)
      case c5 => simp [Value.oneCell', ncs]
      case c6 => unfold maxLen; omega
      case c7 => omega
      case c8 => have := hb4.size; simp; omega
      intro v2 w3 own4 hgrow _
      have hb5 : Below w.heap.size w w3 := (hb4.alloc hb4.size _).grown hgrow (by have := hb4.size; simp; omega) (fun g hg => (own_lt own3 hg).1)
      have HK2 : Hid (NodesK w.heap.size w3 v2 (upd1 e k (.slice xo n.ents.length xc)) ns (k + 1)) := Lib.hid (by
        have hal : Below w2.heap.size w2 (w2.alloc (.cells #[.int .i64 n.ino, .int .i64 n.kind, .int .i64 n.mode, .int .i64 n.uid, .int .i64 n.gid, .int .i64 n.parent, .string n.target, .slice xo n.ents.length xc] 43)) := (Below.refl _ _).alloc (Nat.le_refl _) _
        refine NodesK.next (w2 := w2.alloc (.cells #[.int .i64 n.ino, .int .i64 n.kind, .int .i64 n.mode, .int .i64 n.uid, .int .i64 n.gid, .int .i64 n.parent, .string n.target, .slice xo n.ents.length xc] 43)) HK.out HP.out (HBR.out.trans (hal.mono HBR.out.size)) ?_ hgrow own4 hbz
        exact own_keep HX.out fun g hg => hal.block g (own_lt HX.out hg).2)
      clear hgrow own3 nw own4
      go_wp2_with fail
      exact ⟨⟨k + 1, _, by omega, by go_num, HK2, hb5⟩, by simp [intOf]; omega⟩
    · have hkk : ¬ (k : Int) < (ns.length : Int) := by omega
      obtain rfl : k = ns.length := by omega
      clear hlt hk
      go_wp2_with fail
      go_ret
      exact ⟨_, rfl, ⟨_, HK.out⟩, hb⟩

set_option maxRecDepth 100000 in
set_option maxHeartbeats 1000000 in
theorem copyDevice_any (d : DevP) (va : Option Addr) (cv : Nat) (w : World) (hN : Nodes w va d.nodes) (hl : d.nodes.length ≤ 1000) (he : ∀ n ∈ d.nodes, n.ents.length ≤ 1000) :
    Calls Try.prog 88 #[.agg #[.int .i64 d.next, .slice va d.nodes.length cv]] w fun e w' => ∃ v ev, e = .returned (.agg #[.int .i64 d.next, v]) ∧ NodesK (w.heap.size + 1 + 1) w' v ev d.nodes d.nodes.length ∧ Below w.heap.size w w' := by
  have hb1 : Below w.heap.size w (w.alloc (.cells #[.int .i64 d.next, .slice va d.nodes.length cv] 72)) := (Below.refl _ _).alloc (Nat.le_refl _) _
  have hb2 := hb1.alloc hb1.size (.cells #[.int .i64 0, .slice none 0 0] 72)
  have q := (Blk.new w [.int .i64 d.next, .slice va d.nodes.length cv] 72).alloc (.cells #[.int .i64 0, .slice none 0 0] 72)
  have r := Blk.new1 (w.alloc (.cells #[.int .i64 d.next, .slice va d.nodes.length cv] 72)) [.int .i64 0, .slice none 0 0] 72 (w.heap.size + 1) (size_alloc _ _)
  have CC := Lib.hid (copiesN_any va cv d.nodes _ (RowAt.below NodeAt.stays hN hb2) hl he)
  clear hN
  go_enter Try.func88, Try.ntmps88
  go_wp2_with fail
  refine CC.out.mono ?_
  rintro e w2 ⟨v, ev, rfl, HK, hb3⟩
  have hb4 := hb2.trans (hb3.mono hb2.size)
  have q2 := q.stay hb3
  have r2 := r.stay hb3
  obtain ⟨c0, c1, f0, f1⟩ := q2.c2
  obtain ⟨d0, d1, g0, g1⟩ := r2.c2
  have HK : NodesK (w.heap.size + 1 + 1) w2 v ev d.nodes d.nodes.length := by
    have : (((w.alloc (.cells #[.int .i64 d.next, .slice va d.nodes.length cv] 72)).alloc (.cells #[.int .i64 0, .slice none 0 0] 72))).heap.size = w.heap.size + 1 + 1 := by rw [size_alloc, size_alloc]
    rw [this] at HK
    exact HK
  obtain ⟨vo, vc, rfl⟩ : ∃ vo vc, v = .slice vo d.nodes.length vc := by
    obtain ⟨a, c, h, -⟩ := own_slice HK.row
    exact ⟨a, c, h⟩
  have rs := blk_set2 (r2.other (C := w.heap.size) (by omega) 1 (.slice vo d.nodes.length vc)) (.int .i64 d.next) (.slice vo d.nodes.length vc)
  have hb5 := below_set2 (below_set hb4 (N := w.heap.size) (Nat.le_refl _) 1 (.slice vo d.nodes.length vc)) (B := w.heap.size + 1) (by omega) (.int .i64 d.next) (.slice vo d.nodes.length vc)
  have HK2 : Hid (NodesK (w.heap.size + 1 + 1) (((w2.setCell ⟨w.heap.size, 1, none⟩ (.slice vo d.nodes.length vc)).setCell ⟨w.heap.size + 1, 0, none⟩ (.int .i64 d.next)).setCell ⟨w.heap.size + 1, 1, none⟩ (.slice vo d.nodes.length vc)) (.slice vo d.nodes.length vc) ev d.nodes d.nodes.length) := Lib.hid
    ⟨own_set2 (own_other HK.row (fun h => by have := (own_lt HK.row h).1; omega) _ _) (fun h => by have := (own_lt HK.row h).1; omega) _ _, fun j n hj hn => own_set2 (own_other (HK.ents j n hj hn) (fun h => by have := (own_lt (HK.ents j n hj hn) h).1; omega) _ _) (fun h => by have := (own_lt (HK.ents j n hj hn) h).1; omega) _ _, HK.inj, fun j g hg => by
      rw [size_set, size_set, size_set]; exact HK.lt j g hg⟩
  obtain ⟨s0, s1, -⟩ := rs.c2
  clear HK CC hb1 hb2 hb3 q r
  go_wp2_with fail
  exact bodyPost_ret (v := .agg #[.int .i64 d.next, .slice vo d.nodes.length vc]) (by simp [results, Try.f88, go_sem, s0, s1]) rfl ⟨_, _, rfl, HK2.out, hb5⟩

/-- the first k devices of a list, in a row of the call's own -/
structure DevsK (B : Nat) (w : World) (v : Value) (vn : Nat → Value) (ev : Nat → Nat → Value) (F : FilP) (k : Nat) : Prop where
  row : w.ownsRow B 72 2 v k (drow vn 0 (F.take k))
  nodes : ∀ (i : Nat) d, i < k → F[i]? = some d → OwnN B w (vn i) (ev i) d.nodes
  ents : ∀ (i : Nat) d (j : Nat) n, i < k → F[i]? = some d → d.nodes[j]? = some n → OwnE B w (ev i j) n.ents
  injN : ∀ i j g, (vn i).ownBlock = some g → (vn j).ownBlock = some g → i = j
  injE : ∀ i k j m g, (ev i k).ownBlock = some g → (ev j m).ownBlock = some g → i = j ∧ k = m
  ltN : ∀ i g, (vn i).ownBlock = some g → B ≤ g ∧ g < w.heap.size
  ltE : ∀ i k g, (ev i k).ownBlock = some g → B ≤ g ∧ g < w.heap.size
theorem DevsK.zero (B : Nat) (w : World) (F : FilP) : DevsK B w (.slice none 0 0) (fun _ => .slice none 0 0) (fun _ _ => .slice none 0 0) F 0 :=
  ⟨World.ownsRow_nil _ _ _ _, (fun i d h => absurd h (Nat.not_lt_zero _)), (fun i d k n h => absurd h (Nat.not_lt_zero _)), (fun i j g h => by cases h), (fun i k j m g h => by cases h), (fun i g h => by cases h), (fun i k g h => by cases h)⟩
theorem DevsK.keep {B : Nat} {w w' : World} {v : Value} {vn : Nat → Value} {ev : Nat → Nat → Value} {F : FilP} {k : Nat} (h : DevsK B w v vn ev F k) (hb : Below w.heap.size w w') : DevsK B w' v vn ev F k :=
  ⟨own_keep h.row fun g hg => hb.block g (own_lt h.row hg).2, fun i d hi hd => own_keep (h.nodes i d hi hd) fun g hg => hb.block g (own_lt (h.nodes i d hi hd) hg).2, fun i d j n hi hd hn => own_keep (h.ents i d j n hi hd hn) fun g hg => hb.block g (own_lt (h.ents i d j n hi hd hn) hg).2, h.injN, h.injE,
    fun i g hg => ⟨(h.ltN i g hg).1, Nat.lt_of_lt_of_le (h.ltN i g hg).2 hb.size⟩, fun i j g hg => ⟨(h.ltE i j g hg).1, Nat.lt_of_lt_of_le (h.ltE i j g hg).2 hb.size⟩⟩
theorem DevsK.next {B : Nat} {w w2 w3 : World} {v v' x : Value} {vn : Nat → Value} {ev : Nat → Nat → Value} {e : Nat → Value} {F : FilP} {k : Nat} {d : DevP} (h : DevsK B w v vn ev F k) (hd : F[k]? = some d) (hb : Below w.heap.size w w2) (hx : NodesK w.heap.size w2 x e d.nodes d.nodes.length)
    (hg : w2.grownBy w3 v.ownBlock) (ho : w3.ownsRow B 72 2 v' (k + 1) (drow vn 0 (F.take k) ++ dcs d x)) (hB : B ≤ w.heap.size) : DevsK B w3 v' (upd1 vn k x) (updR ev k e) F (k + 1) := by
  have h2 := h.keep hb
  have hrow : OwnN w.heap.size w2 x e d.nodes := by have := hx.row; rwa [List.take_length] at this
  have hent : ∀ (j : Nat) n, d.nodes[j]? = some n → OwnE w.heap.size w2 (e j) n.ents := fun j n hn => hx.ents j n (List.getElem?_eq_some_iff.1 hn).1 hn
  have hs := hg.size
  refine ⟨by rw [drow_succ hd]; exact ho, fun i d' hi hd' => ?_, fun i d' j n hi hd' hn => ?_, fun i j g h1 h3 => ?_, fun i j i' j' g h1 h3 => ?_, fun i g h1 => ?_, fun i j g h1 => ?_⟩
  · by_cases c : i = k
    · subst c
      rw [hd] at hd'
      injection hd' with hd'
      subst hd'
      have a2 : updR ev i e i = e := by unfold updR; rw [if_pos rfl]
      rw [upd1_same, a2]
      exact own_mono (own_keep hrow fun g hg2 => hg.block g (own_lt hrow hg2).2 (fun y => own_types hrow h2.row (by decide) hg2 y.symm)) hB
    · have a2 : updR ev k e i = ev i := by unfold updR; rw [if_neg c]
      rw [upd1_other vn x c, a2]
      have he := h2.nodes i d' (by omega) hd'
      exact own_keep he fun g hg2 => hg.block g (own_lt he hg2).2 (fun y => own_types he h2.row (by decide) hg2 y.symm)
  · by_cases c : i = k
    · subst c
      rw [hd] at hd'
      injection hd' with hd'
      subst hd'
      have a2 : updR ev i e i = e := by unfold updR; rw [if_pos rfl]
      rw [a2]
      have he := hent j n hn
      exact own_mono (own_keep he fun g hg2 => hg.block g (own_lt he hg2).2 (fun y => own_types he h2.row (by decide) hg2 y.symm)) hB
    · have a2 : updR ev k e i = ev i := by unfold updR; rw [if_neg c]
      rw [a2]
      have he := h2.ents i d' j n (by omega) hd' hn
      exact own_keep he fun g hg2 => hg.block g (own_lt he hg2).2 (fun y => own_types he h2.row (by decide) hg2 y.symm)
  · unfold upd1 at h1 h3
    split at h1
    · split at h3
      · omega
      · have := (h.ltN j g h3).2; have := (own_lt hrow h1).1; omega
    · split at h3
      · have := (h.ltN i g h1).2; have := (own_lt hrow h3).1; omega
      · exact h.injN i j g h1 h3
  · unfold updR at h1 h3
    split at h1
    · split at h3
      · exact ⟨by omega, hx.inj j j' g h1 h3⟩
      · have := (h.ltE i' j' g h3).2; have := (hx.lt j g h1).1; omega
    · split at h3
      · have := (h.ltE i j g h1).2; have := (hx.lt j' g h3).1; omega
      · exact h.injE i j i' j' g h1 h3
  · unfold upd1 at h1
    split at h1
    · have := own_lt hrow h1; omega
    · have := h2.ltN i g h1; omega
  · unfold updR at h1
    split at h1
    · have := hx.lt j g h1; omega
    · have := h2.ltE i j g h1; omega
theorem DevsK.files {B : Nat} {w : World} {v : Value} {vn : Nat → Value} {ev : Nat → Nat → Value} {F : FilP} (h : DevsK B w v vn ev F F.length) : FilesO B w v F vn ev :=
  ⟨by have := h.row; rwa [List.take_length] at this, fun i d hd => h.nodes i d (List.getElem?_eq_some_iff.1 hd).1 hd, fun i d j n hd hn => h.ents i d j n (List.getElem?_eq_some_iff.1 hd).1 hd hn, h.injN, h.injE, fun i g hg => (h.ltN i g hg).2, fun i k g hg => (h.ltE i k g hg).2⟩

set_option maxRecDepth 100000 in
set_option maxHeartbeats 2000000 in
theorem copiesD_any (a : Option Addr) (cap : Nat) (F : FilP) (w : World) (hF : FilesAt w a F) (hS : Sml F) :
    Calls Try.prog 87 #[.slice a F.length cap, .func (.func 88) #[] #[]] w fun e w' => ∃ v, e = .returned v ∧ OutF w.heap.size w' v F ∧ Below w.heap.size w w' := by
  obtain ⟨i0, hi, hz0, hz1, hz2⟩ := info_parts infoD
  have HN := Lib.hid (fun W (h : Below w.heap.size w W) => hF.below h)
  have HS := Lib.hid hS
  have hl := hS.len
  clear hF hS
  go_enter Try.func87, Try.ntmps87
  go_wp2_with fail
  go_loopw [5, 10] (fun v i wr => ∃ (k : Nat) (vn : Nat → Value) (ev : Nat → Nat → Value), k ≤ F.length ∧ i = .int .i64 k ∧ Hid (DevsK w.heap.size wr v vn ev F k) ∧ Below w.heap.size w wr) (fun _ i _ => F.length - (intOf i).toNat)
  case atStart => exact ⟨0, _, _, Nat.zero_le _, rfl, Lib.hid (DevsK.zero _ _ _), Below.refl _ _⟩
  case round =>
    obtain ⟨k, vn, ev, hk, rfl, HK, hb⟩ := hrel
    by_cases hlt : k < F.length
    · have hkk : (k : Int) < (F.length : Int) := by omega
      obtain ⟨b, o, rfl, hp⟩ := RowAt.get (HN.out _ hb) hlt
      have HP := Lib.hid (List.getElem?_eq_getElem hlt)
      have hln := HS.out.nodes _ (List.getElem_mem hlt)
      have hle := HS.out.ents _ (List.getElem_mem hlt)
      generalize F[k] = d at *
      obtain ⟨a0, va, cv, a1, hcv, -, hns⟩ := hp
      have hb2 := hb.alloc hb.size (.cells #[.int .i64 d.next, .slice va d.nodes.length cv] 72)
      have hbr : Below wr.heap.size wr (wr.alloc (.cells #[.int .i64 d.next, .slice va d.nodes.length cv] 72)) := (Below.refl _ _).alloc (Nat.le_refl _) _
      have CC := Lib.hid (copyDevice_any d va cv _ (RowAt.below NodeAt.stays hns hbr) hln hle)
      clear hns hle
      go_wp2_with fail
      refine CC.out.mono ?_
      rintro e2 w2 ⟨x, e, rfl, hx, hb3⟩
      have hbr2 := hbr.trans (hb3.mono hbr.size)
      have hb4 := hb2.trans (hb3.mono hb2.size)
      have own3 : w2.ownsRow w.heap.size 72 2 u5 k (drow vn 0 (F.take k)) := own_keep HK.out.row fun g hg => hbr2.block g (own_lt HK.out.row hg).2
      obtain ⟨xo, xc, rfl⟩ : ∃ xo xc, x = .slice xo d.nodes.length xc := by
        obtain ⟨a, c, h, -⟩ := own_slice hx.row
        exact ⟨a, c, h⟩
      have HX : Hid (NodesK wr.heap.size w2 (.slice xo d.nodes.length xc) e d.nodes d.nodes.length) := Lib.hid ⟨own_mono hx.row (by simp; omega), fun j n hj hn => own_mono (hx.ents j n hj hn) (by simp; omega), hx.inj, fun j g hg => by have := hx.lt j g hg; simp at this; omega⟩
      have HBR := Lib.hid hbr2
      have hbz := hb.size
      clear hb3 hb2 hbr hbr2 hx hb a0 a1 CC
      have nw : Hid (∀ j u, (dcs d (.slice xo d.nodes.length xc))[j]? = some u → (w2.alloc (.cells #[.int .i64 d.next, .slice xo d.nodes.length xc] 72)).cell? ((⟨w2.heap.size, 0, none⟩ : Addr).add j) = some u) := Lib.hid (World.news_of_block (cs := #[.int .i64 d.next, .slice xo d.nodes.length xc]) (t := 72) (fr := (0, 0)) (heap_alloc_new w2 _))
      go_wp2_with (first
        | (at_builtin; refine wpList_append_own _ rfl _ _ 22 rfl w.heap.size 72 i0 _ 2 32 Try.underlying22 hi hz0 hz1 hz2 rfl (by omega) _ k _ rfl (own3.alloc _) ⟨w2.heap.size, 0, none⟩ 1 1 (dcs d (.slice xo d.nodes.length xc)) rfl rfl nw.out ?c5 ?c6 ?c7 ?c8 ?_)
        | fail)
      case c5 => simp [Value.oneCell', dcs]
      case c6 => unfold maxLen; omega
      case c7 => omega
      case c8 => have := hb4.size; simp; omega
      intro v2 w3 own4 hgrow _
      have hb5 : Below w.heap.size w w3 := (hb4.alloc hb4.size _).grown hgrow (by have := hb4.size; simp; omega) (fun g hg => (own_lt own3 hg).1)
      have HK2 : Hid (DevsK w.heap.size w3 v2 (upd1 vn k (.slice xo d.nodes.length xc)) (updR ev k e) F (k + 1)) := Lib.hid (by
        have hal : Below w2.heap.size w2 (w2.alloc (.cells #[.int .i64 d.next, .slice xo d.nodes.length xc] 72)) := (Below.refl _ _).alloc (Nat.le_refl _) _
        exact DevsK.next (w2 := w2.alloc (.cells #[.int .i64 d.next, .slice xo d.nodes.length xc] 72)) HK.out HP.out (HBR.out.trans (hal.mono HBR.out.size)) (HX.out.keep hal) hgrow own4 hbz)
      clear hgrow own3 nw own4
      go_wp2_with fail
      exact ⟨⟨k + 1, _, _, by omega, by go_num, HK2, hb5⟩, by simp [intOf]; omega⟩
    · have hkk : ¬ (k : Int) < (F.length : Int) := by omega
      obtain rfl : k = F.length := by omega
      have HO : Hid (OutF w.heap.size wr u5 F) := Lib.hid ⟨_, _, HK.out.files⟩
      clear hlt hk
      go_wp2_with fail
      go_ret
      exact ⟨_, rfl, HO.out, hb⟩

set_option maxRecDepth 100000 in
theorem copyFiles_any (a : Option Addr) (cap : Nat) (F : FilP) (w : World) (hF : FilesAt w a F) (hS : Sml F) :
    Calls Try.prog 68 #[.agg #[.slice a F.length cap]] w fun e w' => ∃ v, e = .returned (.agg #[v]) ∧ OutF w.heap.size w' v F ∧ Below w.heap.size w w' := by
  have hb1 : Below w.heap.size w (w.alloc (.cells #[.slice a F.length cap] 24)) := (Below.refl _ _).alloc (Nat.le_refl _) _
  have hb2 := hb1.alloc hb1.size (.cells #[.slice none 0 0] 24)
  have r := Blk.new1 (w.alloc (.cells #[.slice a F.length cap] 24)) [.slice none 0 0] 24 (w.heap.size + 1) (size_alloc _ _)
  have CC := Lib.hid (copiesD_any a cap F _ (hF.below hb2) hS)
  clear hF hS
  go_enter Try.func68, Try.ntmps68
  go_wp2_with fail
  refine CC.out.mono ?_
  rintro e w2 ⟨v, rfl, HO, hb3⟩
  have hb4 := hb2.trans (hb3.mono hb2.size)
  have r2 := r.stay hb3
  obtain ⟨d0, g0⟩ := r2.c1
  obtain ⟨vo, vc, rfl, -⟩ := HO.at_
  have rs : Blk (w2.setCell ⟨w.heap.size + 1, 0, none⟩ (.slice vo F.length vc)) (w.heap.size + 1) [.slice vo F.length vc] := r2.set 0 _
  have hb5 := below_set hb4 (N := w.heap.size + 1) (by omega) 0 (.slice vo F.length vc)
  obtain ⟨s0, -⟩ := rs.c1
  have HO2 : Hid (OutF w.heap.size (w2.setCell ⟨w.heap.size + 1, 0, none⟩ (.slice vo F.length vc)) (.slice vo F.length vc) F) := Lib.hid (by
    obtain ⟨vn, ev, h⟩ := HO
    have hge : ∀ g, w.heap.size + 1 + 1 ≤ g → g ≠ w.heap.size + 1 := fun g hg => by omega
    have hz : ((w.alloc (.cells #[.slice a F.length cap] 24)).alloc (.cells #[.slice none 0 0] 24)).heap.size = w.heap.size + 1 + 1 := by rw [size_alloc, size_alloc]
    rw [hz] at h
    have h' := h.mono (B' := w.heap.size) (by omega)
    exact ⟨vn, ev, own_other h'.row (fun y => hge _ (own_lt h.row y).1 rfl) _ _, fun i d hd => own_other (h'.nodes i d hd) (fun y => hge _ (own_lt (h.nodes i d hd) y).1 rfl) _ _, fun i d k n hd hn => own_other (h'.ents i d k n hd hn) (fun y => hge _ (own_lt (h.ents i d k n hd hn) y).1 rfl) _ _, h.injN, h.injE, fun i g hg => by rw [size_set]; exact h.ltN i g hg, fun i k g hg => by rw [size_set]; exact h.ltE i k g hg⟩)
  clear HO CC hb1 hb2 hb3 r
  go_wp2_with fail
  exact bodyPost_ret (v := .agg #[.slice vo F.length vc]) (by simp [results, Try.f68, go_sem, s0]) rfl ⟨_, rfl, HO2.out, hb5⟩
end Go.Proofs.Ytafnbpkdenjipaa.fl
