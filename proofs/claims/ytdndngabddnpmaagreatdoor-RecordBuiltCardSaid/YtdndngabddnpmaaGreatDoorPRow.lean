/-
  Rows of pairs in memory: slices that came in, and slices of the call's own.
-/
import Derived.Test.YtdndngabddnpmaaGreatDoorRec
import Derived.Test.YtdndngabddnpmaaGreatDoorDec
import Derived.OwnWalk
import Derived.Deep.AppendLies
namespace Go.Proofs.YtdndngabddnpmaaGreatDoor.rd
open Go.RowKit Go.Proofs.YtdndngabddnpmaaGreatDoor.vl Go.Proofs.YtdndngabddnpmaaGreatDoor.cm

/-- a string of bytes -/
def bs (l : List UInt8) : ByteArray := ⟨l.toArray⟩
theorem bs_data (l : List UInt8) : (bs l).data.toList = l := by simp [bs]
theorem bs_size (l : List UInt8) : (bs l).size = l.length := by show l.toArray.size = _; simp
theorem bs_of (s : ByteArray) : bs s.data.toList = s := by cases s; simp [bs]
/-- a pair as a value -/
def pv (p : PairP) : Value := .agg #[.string (bs p.name), .int .i64 p.kind, .int .i64 p.num, .string (bs p.text)]
def pcs (p : PairP) : List Value := [.string (bs p.name), .int .i64 p.kind, .int .i64 p.num, .string (bs p.text)]
def psc : List PairP → List Value
  | [] => []
  | p :: r => pcs p ++ psc r
theorem psc_append : ∀ a b, psc (a ++ b) = psc a ++ psc b
  | [], b => rfl
  | p :: a, b => by simp [psc, psc_append a b]
theorem psc_len : ∀ ps, (psc ps).length = ps.length * 4
  | [] => rfl
  | p :: r => by simp [psc, pcs, psc_len r]; omega
theorem psc_at : ∀ (ps : List PairP) (j : Nat) (p : PairP), ps[j]? = some p → ∀ i, i < 4 → (psc ps)[j * 4 + i]? = (pcs p)[i]?
  | [], j, p, h, _, _ => by simp at h
  | q :: r, 0, p, h, i, hi => by
    simp at h
    subst h
    rw [psc, Nat.zero_mul, Nat.zero_add, List.getElem?_append_left (by simp [pcs]; omega)]
  | q :: r, j + 1, p, h, i, hi => by
    have ih := psc_at r j p (by simpa using h) i hi
    rw [psc, List.getElem?_append_right (by simp [pcs]; omega)]
    rw [show (j + 1) * 4 + i - (pcs q).length = j * 4 + i by simp [pcs]; omega, ih]

/-- the parts of a pair are of sizes that a machine has -/
structure POk (p : PairP) : Prop where
  name : p.name.length ≤ 9223372036854775807
  text : p.text.length ≤ 9223372036854775807
  num : isInt p.num

/-- the cells of a pair in block b from offset o on -/
structure PairAt (w : World) (b o : Nat) (p : PairP) : Prop where
  c0 : w.cell? ⟨b, o, none⟩ = some (.string (bs p.name))
  c1 : w.cell? ⟨b, o + 1, none⟩ = some (.int .i64 p.kind)
  c2 : w.cell? ⟨b, o + 2, none⟩ = some (.int .i64 p.num)
  c3 : w.cell? ⟨b, o + 3, none⟩ = some (.string (bs p.text))
theorem PairAt.lt {w : World} {b o : Nat} {p : PairP} (h : PairAt w b o p) : b < w.heap.size := World.block_lt_of_cell? w ⟨b, o, none⟩ h.c0
theorem PairAt.below {w w' : World} {b o N : Nat} {p : PairP} (h : PairAt w b o p) (hb : Below N w w') (hN : b < N) : PairAt w' b o p :=
  ⟨(hb.cell (p := ⟨b, o, none⟩) hN).trans h.c0, (hb.cell (p := ⟨b, o + 1, none⟩) hN).trans h.c1, (hb.cell (p := ⟨b, o + 2, none⟩) hN).trans h.c2, (hb.cell (p := ⟨b, o + 3, none⟩) hN).trans h.c3⟩

/-- a slice of pairs -/
structure PairsAt (w : World) (a : Option Addr) (ps : List PairP) : Prop where
  ok : ∀ p ∈ ps, POk p
  at_ : ps = [] ∨ ∃ b o, a = some ⟨b, o, none⟩ ∧ ∀ (j : Nat) (p : PairP), ps[j]? = some p → PairAt w b (o + j * 4) p
theorem PairsAt.nil (w : World) (a : Option Addr) : PairsAt w a [] := ⟨fun _ h => by simp at h, .inl rfl⟩
theorem PairsAt.below {w w' : World} {a : Option Addr} {ps : List PairP} (h : PairsAt w a ps) (hb : Below w.heap.size w w') : PairsAt w' a ps := by
  refine ⟨h.ok, ?_⟩
  rcases h.at_ with h0 | ⟨b, o, rfl, hc⟩
  · exact .inl h0
  · exact .inr ⟨b, o, rfl, fun j p hj => (hc j p hj).below hb (hc j p hj).lt⟩
theorem PairsAt.take {w : World} {a : Option Addr} {ps : List PairP} (h : PairsAt w a ps) (k : Nat) : PairsAt w a (ps.take k) := by
  refine ⟨fun p hp => h.ok p (List.mem_of_mem_take hp), ?_⟩
  rcases h.at_ with h0 | ⟨b, o, rfl, hc⟩
  · exact .inl (by rw [h0]; simp)
  · refine .inr ⟨b, o, rfl, fun j p hj => hc j p ?_⟩
    rw [List.getElem?_take] at hj
    split at hj
    · exact hj
    · cases hj
/-- what a round over a slice reads -/
theorem PairsAt.get {w : World} {a : Option Addr} {ps : List PairP} (h : PairsAt w a ps) {k : Nat} (hk : k < ps.length) : ∃ b o p, a = some ⟨b, o, none⟩ ∧ ps[k]? = some p ∧ PairAt w b (o + k * 4) p ∧ POk p ∧ b < w.heap.size := by
  rcases h.at_ with h0 | ⟨b, o, rfl, hc⟩
  · rw [h0] at hk; simp at hk
  · have hg : ps[k]? = some ps[k] := List.getElem?_eq_getElem hk
    exact ⟨b, o, _, rfl, hg, hc k _ hg, h.ok _ (List.getElem_mem hk), (hc k _ hg).lt⟩

/-- a row of pairs of the call's own -/
def OwnPairs (B : Nat) (w : World) (v : Value) (ps : List PairP) : Prop := w.ownsRow B 39 4 v ps.length (psc ps)
theorem infoPair : (Tryz.prog.info? 39).map (fun i => (i.zero, i.size, i.bytes)) = some (some (.agg #[.string ⟨#[]⟩, .int .i64 0, .int .i64 0, .string ⟨#[]⟩]), 4, 48) := by kernel_rfl

theorem own_pairs {B : Nat} {w : World} {v : Value} {ps : List PairP} (h : OwnPairs B w v ps) (ok : ∀ p ∈ ps, POk p) : ∃ a cap, v = .slice a ps.length cap ∧ PairsAt w a ps ∧ ps.length ≤ cap := by
  by_cases h0 : ps = []
  · subst h0
    rcases h.2 with ⟨h1, _⟩ | ⟨g, cap, cur, h1, _, _, hc, _⟩
    · exact ⟨none, 0, h1, PairsAt.nil _ _, Nat.zero_le _⟩
    · exact ⟨_, cap, h1, PairsAt.nil _ _, hc⟩
  · have hl : ps.length ≠ 0 := by simpa using h0
    rcases h.2 with ⟨_, h1⟩ | ⟨g, cap, cur, rfl, hg, hb, hcap, _, _, _⟩
    · exact absurd h1 hl
    · refine ⟨_, cap, rfl, ⟨ok, .inr ⟨g, 0, rfl, fun j p hj => ?_⟩⟩, hcap⟩
      have hjl : j < ps.length := (List.getElem?_eq_some_iff.1 hj).1
      have key : ∀ i, i < 4 → w.cell? ⟨g, j * 4 + i, none⟩ = (pcs p)[i]? := fun i hi => by
        rw [h.cellAt (j * 4 + i) (by omega), psc_at ps j p hj i hi]
      have k0 := key 0 (by omega)
      have k1 := key 1 (by omega)
      have k2 := key 2 (by omega)
      have k3 := key 3 (by omega)
      rw [Nat.zero_add]
      exact ⟨k0, k1, k2, k3⟩

theorem own_from {B : Nat} {w : World} {v : Value} {ps : List PairP} (h : OwnPairs B w v ps) : ∀ a n cap, v = .slice a n cap → ∀ g o, a = some ⟨g, o, none⟩ → B ≤ g := by
  intro a n cap hv g o ha
  rcases h.2 with ⟨h1, _⟩ | ⟨g', cap', cur, h1, h2, _⟩
  · rw [hv, ha] at h1; cases h1
  · rw [hv, ha] at h1
    injection h1 with h1
    injection h1 with h1
    injection h1 with h1
    omega
/-- a block of four cells -/
structure Quad (w : World) (B : Nat) (a b c d : Value) : Prop where
  c0 : w.cell? ⟨B, 0, none⟩ = some a
  c1 : w.cell? ⟨B, 1, none⟩ = some b
  c2 : w.cell? ⟨B, 2, none⟩ = some c
  c3 : w.cell? ⟨B, 3, none⟩ = some d
  f0 : w.frozen? ⟨B, 0, none⟩ = false
  f1 : w.frozen? ⟨B, 1, none⟩ = false
  f2 : w.frozen? ⟨B, 2, none⟩ = false
  f3 : w.frozen? ⟨B, 3, none⟩ = false
theorem Quad.lt {w : World} {B : Nat} {a b c d : Value} (h : Quad w B a b c d) : B < w.heap.size := World.block_lt_of_cell? w ⟨B, 0, none⟩ h.c0
theorem Quad.of_block {w w' : World} {B : Nat} {a b c d : Value} (h : Quad w B a b c d) (hk : w'.heap[B]? = w.heap[B]?) : Quad w' B a b c d := by
  have hc : ∀ j, w'.cell? ⟨B, j, none⟩ = w.cell? ⟨B, j, none⟩ := fun j => World.cell?_of_block (w := w) hk
  have hf : ∀ j, w'.frozen? ⟨B, j, none⟩ = w.frozen? ⟨B, j, none⟩ := fun j => World.frozen?_of_block (w := w) hk
  exact ⟨(hc 0).trans h.c0, (hc 1).trans h.c1, (hc 2).trans h.c2, (hc 3).trans h.c3, (hf 0).trans h.f0, (hf 1).trans h.f1, (hf 2).trans h.f2, (hf 3).trans h.f3⟩
theorem Quad.below {w w' : World} {B : Nat} {a b c d : Value} (h : Quad w B a b c d) (hb : Below w.heap.size w w') : Quad w' B a b c d := h.of_block (hb.block B h.lt)
theorem Quad.alloc {w : World} {B : Nat} {a b c d : Value} (h : Quad w B a b c d) (o : Obj) : Quad (w.alloc o) B a b c d := h.below ((Below.refl _ _).alloc (Nat.le_refl _) _)
theorem quad_of {w : World} {B T : Nat} {a b c d : Value} (h : w.heap[B]? = some (.cells #[a, b, c, d] T)) : Quad w B a b c d :=
  ⟨by simp [World.cell?, h], by simp [World.cell?, h], by simp [World.cell?, h], by simp [World.cell?, h], by simp [World.frozen?, h], by simp [World.frozen?, h], by simp [World.frozen?, h], by simp [World.frozen?, h]⟩
theorem Quad.new (w : World) (T : Nat) (a b c d : Value) : Quad (w.alloc (.cells #[a, b, c, d] T)) w.heap.size a b c d := quad_of (T := T) (by
  show (w.heap.push (.cells #[a, b, c, d] T))[w.heap.size]? = _
  simp)
theorem heap_alloc (w : World) (o : Obj) : (w.alloc o).heap.size = w.heap.size + 1 := by simp
theorem Quad.new1 (w : World) (T n : Nat) (a b c d : Value) (h : w.heap.size = n) : Quad (w.alloc (.cells #[a, b, c, d] T)) n a b c d := by
  have := Quad.new w T a b c d
  rwa [h] at this
theorem Quad.set {w : World} {B : Nat} {a b c d : Value} (h : Quad w B a b c d) (x y z u : Value) : Quad ((((w.setCell ⟨B, 0, none⟩ x).setCell ⟨B, 1, none⟩ y).setCell ⟨B, 2, none⟩ z).setCell ⟨B, 3, none⟩ u) B x y z u := by
  obtain ⟨c0, c1, c2, c3, f0, f1, f2, f3⟩ := h
  constructor <;> simp [go_sem, c0, c1, c2, c3, f0, f1, f2, f3]
theorem Quad.at3 {w : World} {B : Nat} {a b c d : Value} (h : Quad w B a b c d) (z : Value) : Quad (w.setCell ⟨B, 3, none⟩ z) B a b c z := by
  obtain ⟨c0, c1, c2, c3, f0, f1, f2, f3⟩ := h
  constructor <;> simp [go_sem, c0, c1, c2, c3, f0, f1, f2, f3]
/-- a call behind a new block, an order being drawn -/
theorem after_alloc {w wA : World} {o : Obj} (h : Below (w.alloc o).drew.heap.size (w.alloc o).drew wA) :
    (∀ p : Addr, p.block < w.heap.size → wA.cell? p = w.cell? p) ∧ w.heap.size < wA.heap.size ∧ wA.heap[w.heap.size]? = some o ∧ Below w.heap.size w wA := by
  have hs : (w.alloc o).drew.heap.size = w.heap.size + 1 := heap_alloc w o
  have hz := h.size
  refine ⟨fun p hp => ?_, by omega, ?_, ?_⟩
  · rw [h.cell (p := p) (by omega)]
    exact World.cell?_alloc_lt w o p hp
  · rw [h.block _ (by omega)]
    show (w.heap.push o)[w.heap.size]? = _
    simp
  · exact ((Below.refl _ _).alloc (Nat.le_refl _) o).drew.trans (h.mono (by omega))
theorem set4_cell {w : World} {B : Nat} {p : Addr} (h : p.block ≠ B) (x y z u : Value) : ((((w.setCell ⟨B, 0, none⟩ x).setCell ⟨B, 1, none⟩ y).setCell ⟨B, 2, none⟩ z).setCell ⟨B, 3, none⟩ u).cell? p = w.cell? p := by
  have k : ∀ o, (⟨B, o, none⟩ : Addr) ≠ p := fun o hc => h (by rw [← hc])
  rw [World.cell?_setCell_other _ _ _ _ (k 3), World.cell?_setCell_other _ _ _ _ (k 2), World.cell?_setCell_other _ _ _ _ (k 1), World.cell?_setCell_other _ _ _ _ (k 0)]
/-- four stores into a block of the call's own -/
theorem below_set4 {w0 w : World} {N B : Nat} (h : Below N w0 w) (hB : N ≤ B) (x y z u : Value) : Below N w0 ((((w.setCell ⟨B, 0, none⟩ x).setCell ⟨B, 1, none⟩ y).setCell ⟨B, 2, none⟩ z).setCell ⟨B, 3, none⟩ u) :=
  (((h.setCell (p := ⟨B, 0, none⟩) hB _).setCell (p := ⟨B, 1, none⟩) hB _).setCell (p := ⟨B, 2, none⟩) hB _).setCell (p := ⟨B, 3, none⟩) hB _
end Go.Proofs.YtdndngabddnpmaaGreatDoor.rd
