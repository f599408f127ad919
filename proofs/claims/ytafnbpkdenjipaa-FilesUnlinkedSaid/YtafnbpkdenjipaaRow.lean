/-
  What a statement's row gives of a list of numbers: what the source of numbers needs of it.
-/
import Derived.Test.YtafnbpkdenjipaaSrc
import Derived.Test.YtafnbpkdenjipaaRows
import Derived.Lib.LaidTab
import Derived.LaidSub
import Derived.OpenShut
namespace Go.Proofs.Ytafnbpkdenjipaa
open Go.RowKit Go.Proofs.Ytafnbpkdenjipaa.sr

/-- a slice of integers that came in -/
def IsRow (k : IntKind) (w : World) (a : Option Addr) (len cap : Nat) (zs : List Int) : Prop :=
  (a = none ∧ len = 0 ∧ cap = 0 ∧ zs = []) ∨
  ∃ x, a = some x ∧ len ≤ cap ∧ cap ≤ maxLen ∧ zs.length = cap ∧ (∀ i, i < zs.length → w.cell? (x.add i) = some (.int k (zs.getD i 0))) ∧ ∀ n ∈ zs, (Lit.int k n).wf = true

theorem cm.nums_of_row {w : World} {a : Option Addr} {len cap : Nat} {zs : List Int} (h : IsRow .i64 w a len cap zs) : Nums w a len := by
  rcases h with ⟨_, rfl, _, _⟩ | ⟨x, rfl, hl, hm, hz, hc, hw⟩
  · exact .inl rfl
  · by_cases h0 : len = 0
    · exact .inl h0
    · obtain ⟨b, off, rfl, hcell⟩ := ints_at hc (by omega)
      refine .inr ⟨b, off, rfl, ?_, by unfold maxLen at hm; omega, fun j hj => ⟨zs.getD j 0, hcell j (by omega), ?_⟩⟩
      · have := hcell 0 (by omega)
        apply Nat.lt_of_not_le
        intro hle
        have hn : w.heap[b]? = none := by simp; omega
        simp [World.cell?, hn] at this
      · have hmem : zs.getD j 0 ∈ zs := by
          have : zs.getD j 0 = zs[j]'(by omega) := by simp [List.getD, show j < zs.length by omega]
          rw [this]; exact List.getElem_mem _
        have := bounds_i64 (hw _ hmem)
        omega

end Go.Proofs.Ytafnbpkdenjipaa
