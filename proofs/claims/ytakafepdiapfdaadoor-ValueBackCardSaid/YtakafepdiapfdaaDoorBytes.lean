/-
  Rows of bytes of the call's own, and strings made of them.
-/
import Derived.Test.YtakafepdiapfdaaDoorDec
import Derived.Laws.IdiomStrings
import Derived.Lib.UnsafeStr
import Derived.StillTailTactics
import Derived.OwnWalk
import Derived.Deep.RegionLaw
namespace Go.Proofs.YtakafepdiapfdaaDoor.cm
open Go.RowKit Go.Lib

theorem infoB : (Tryd.prog.info? 5).map (fun i => (i.zero, i.size, i.bytes)) = some (some (.int .u8 0), 1, 1) := by kernel_rfl

theorem own_cells {w : World} {B E : Nat} {v : Value} {xs : List Value} {n : Nat} (h : w.ownsRow B E 1 v n xs) (hn : n ≠ 0) :
    ∃ g cap, v = .slice (some ⟨g, 0, none⟩) n cap ∧ (B ≤ g ∧ g < w.heap.size) ∧ n ≤ cap ∧ ∀ (j : Nat) x, xs[j]? = some x → w.cell? ⟨g, 0 + j, none⟩ = some x := by
  have hlt := h.lt
  have hc := @World.ownsRow.cells _ _ _ _ _ _ _ h
  rcases h.2 with ⟨_, h0⟩ | ⟨g, cap, cur, rfl, hg, hb, hcap, _, _, _⟩
  · exact absurd h0 hn
  · refine ⟨g, cap, rfl, hlt g rfl, hcap, fun j x hj => ?_⟩
    have := hc (g := g) rfl j x hj
    cases j with
    | zero => simpa [Addr.add] using this
    | succ j => simpa [Addr.add] using this

theorem own_far {w : World} {B E z n g : Nat} {v : Value} {xs : List Value} (h : w.ownsRow B E z v n xs) (hg : g < B) : v.ownBlock ≠ some g := fun hc => by
  have := (h.lt _ hc).1
  omega

/-- the string of a row of bytes -/
theorem own_text {w : World} {B : Nat} {v : Value} {l : List UInt8} (h : w.ownsRow B 5 1 v l.length (byteCells l)) :
    (convert 39 9 v).run Tryd.prog w = .ok (.string ⟨l.toArray⟩) w := by
  by_cases h0 : l = []
  · subst h0
    have hz : ∃ a c, v = .slice a 0 c := by
      rcases h.2 with ⟨h1, _⟩ | ⟨g, cap, cur, h1, _⟩
      · exact ⟨none, 0, h1⟩
      · exact ⟨_, cap, h1⟩
    obtain ⟨a, c, rfl⟩ := hz
    rw [run_convert_bytes_string w 39 9 5 a 0 c Tryd.underlying39 Tryd.underlying5 Tryd.underlying9]
    cases a <;> rfl
  · obtain ⟨g, cap, rfl, _, _, hc⟩ := own_cells h (by simpa using h0)
    exact run_convert_bytes_back w 39 9 5 ⟨g, 0, none⟩ cap l Tryd.underlying39 Tryd.underlying5 Tryd.underlying9 (fun j hj => by
      have := hc j (.int .u8 (l[j].toNat : Int)) (by simp [byteCells, hj])
      cases j with
      | zero => simpa [Addr.add] using this
      | succ j => simpa [Addr.add] using this)
end Go.Proofs.YtakafepdiapfdaaDoor.cm
