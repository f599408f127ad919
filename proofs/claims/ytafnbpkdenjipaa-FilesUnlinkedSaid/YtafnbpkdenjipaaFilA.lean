/-
  Files in memory: rows of structs, thrice nested (read only); no type of the program is named.
-/
import Derived.Test.YtafnbpkdenjipaaFGp
import Derived.Below
import Derived.OwnWalk
import Derived.Deep.AppendLies
namespace Go.Proofs.Ytafnbpkdenjipaa.fl
open Go.RowKit

/-- a row of structs of so many cells -/
def RowAt {α : Type} (P : World → Nat → Nat → α → Prop) (size : Nat) (w : World) (a : Option Addr) (xs : List α) : Prop :=
  xs = [] ∨ ∃ b o, a = some ⟨b, o, none⟩ ∧ ∀ (j : Nat) (x : α), xs[j]? = some x → P w b (o + j * size) x
/-- what is said of a struct stands in a world that has grown -/
def Stays {α : Type} (P : World → Nat → Nat → α → Prop) : Prop := ∀ w w' b o x, P w b o x → Below w.heap.size w w' → P w' b o x
theorem RowAt.nil {α : Type} (P : World → Nat → Nat → α → Prop) (size : Nat) (w : World) (a : Option Addr) : RowAt P size w a [] := .inl rfl
theorem RowAt.below {α : Type} {P : World → Nat → Nat → α → Prop} (hP : Stays P) {size : Nat} {w w' : World} {a : Option Addr} {xs : List α} (h : RowAt P size w a xs) (hb : Below w.heap.size w w') : RowAt P size w' a xs := by
  rcases h with h | ⟨b, o, ha, h⟩
  · exact .inl h
  · exact .inr ⟨b, o, ha, fun j x hx => hP w w' b _ x (h j x hx) hb⟩
theorem RowAt.get {α : Type} {P : World → Nat → Nat → α → Prop} {size : Nat} {w : World} {a : Option Addr} {xs : List α} (h : RowAt P size w a xs) {k : Nat} (hk : k < xs.length) : ∃ b o, a = some ⟨b, o, none⟩ ∧ P w b (o + k * size) xs[k] := by
  rcases h with h | ⟨b, o, ha, h⟩
  · rw [h] at hk; exact absurd hk (by simp)
  · exact ⟨b, o, ha, h k _ (List.getElem?_eq_getElem hk)⟩
theorem RowAt.take {α : Type} {P : World → Nat → Nat → α → Prop} {size : Nat} {w : World} {a : Option Addr} {xs : List α} (h : RowAt P size w a xs) (k : Nat) : RowAt P size w a (xs.take k) := by
  rcases h with h | ⟨b, o, ha, h⟩
  · exact .inl (by rw [h]; simp)
  · refine .inr ⟨b, o, ha, fun j x hx => h j x ?_⟩
    rw [List.getElem?_take] at hx
    split at hx
    · exact hx
    · cases hx
theorem RowAt.drop {α : Type} {P : World → Nat → Nat → α → Prop} {size : Nat} {w : World} {b o : Nat} {xs : List α} (h : RowAt P size w (some ⟨b, o, none⟩) xs) (k : Nat) : RowAt P size w (some ⟨b, o + k * size, none⟩) (xs.drop k) := by
  rcases h with h | ⟨b', o', ha, h⟩
  · exact .inl (by rw [h]; simp)
  · injection ha with ha
    injection ha with h1 h2
    subst h1; subst h2
    refine .inr ⟨b, _, rfl, fun j x hx => ?_⟩
    rw [List.getElem?_drop] at hx
    have := h (k + j) x hx
    rw [show o + k * size + j * size = o + (k + j) * size by rw [Nat.add_mul]; omega]
    exact this
theorem cell_stays {w w' : World} {p : Addr} {v : Value} (h : w.cell? p = some v) (hb : Below w.heap.size w w') : w'.cell? p = some v := (hb.cell (World.block_lt_of_cell? w p h)).trans h

/-- the cells of an entry -/
structure EntAt (w : World) (b o : Nat) (e : EntP) : Prop where
  c0 : w.cell? ⟨b, o, none⟩ = some (.string e.name)
  c1 : w.cell? ⟨b, o + 1, none⟩ = some (.int .i64 e.ino)
theorem EntAt.stays : Stays EntAt := fun _ _ _ _ _ h hb => ⟨cell_stays h.c0 hb, cell_stays h.c1 hb⟩
/-- the cells of a node -/
structure NodeAt (w : World) (b o : Nat) (n : NodeP) : Prop where
  c0 : w.cell? ⟨b, o, none⟩ = some (.int .i64 n.ino)
  c1 : w.cell? ⟨b, o + 1, none⟩ = some (.int .i64 n.kind)
  c2 : w.cell? ⟨b, o + 2, none⟩ = some (.int .i64 n.mode)
  c3 : w.cell? ⟨b, o + 3, none⟩ = some (.int .i64 n.uid)
  c4 : w.cell? ⟨b, o + 4, none⟩ = some (.int .i64 n.gid)
  c5 : w.cell? ⟨b, o + 5, none⟩ = some (.int .i64 n.parent)
  c6 : w.cell? ⟨b, o + 6, none⟩ = some (.string n.target)
  c7 : ∃ va cap, w.cell? ⟨b, o + 7, none⟩ = some (.slice va n.ents.length cap) ∧ n.ents.length ≤ cap ∧ (va = none → cap = 0) ∧ RowAt EntAt 2 w va n.ents
theorem NodeAt.stays : Stays NodeAt := fun _ _ _ _ _ h hb => by
  obtain ⟨va, cap, h1, h2, h3, h4⟩ := h.c7
  exact ⟨cell_stays h.c0 hb, cell_stays h.c1 hb, cell_stays h.c2 hb, cell_stays h.c3 hb, cell_stays h.c4 hb, cell_stays h.c5 hb, cell_stays h.c6 hb, va, cap, cell_stays h1 hb, h2, h3, h4.below EntAt.stays hb⟩
/-- the cells of a device -/
structure DevAt (w : World) (b o : Nat) (d : DevP) : Prop where
  c0 : w.cell? ⟨b, o, none⟩ = some (.int .i64 d.next)
  c1 : ∃ va cap, w.cell? ⟨b, o + 1, none⟩ = some (.slice va d.nodes.length cap) ∧ d.nodes.length ≤ cap ∧ (va = none → cap = 0) ∧ RowAt NodeAt 8 w va d.nodes
theorem DevAt.stays : Stays DevAt := fun _ _ _ _ _ h hb => by
  obtain ⟨va, cap, h1, h2, h3, h4⟩ := h.c1
  exact ⟨cell_stays h.c0 hb, va, cap, cell_stays h1 hb, h2, h3, h4.below NodeAt.stays hb⟩
/-- files in memory -/
def FilesAt (w : World) (a : Option Addr) (F : List DevP) : Prop := RowAt DevAt 2 w a F
theorem FilesAt.below {w w' : World} {a : Option Addr} {F : List DevP} (h : FilesAt w a F) (hb : Below w.heap.size w w') : FilesAt w' a F := RowAt.below DevAt.stays h hb
end Go.Proofs.Ytafnbpkdenjipaa.fl
