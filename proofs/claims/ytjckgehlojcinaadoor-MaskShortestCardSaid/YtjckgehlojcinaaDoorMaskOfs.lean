/-
  The law MaskOfs: its walk.
-/
import Derived.Test.YtjckgehlojcinaaDoorAwake
import Derived.Test.YtjckgehlojcinaaDoorRows
import Derived.Lib.LaidTab
import Derived.LaidSub
import Derived.OpenShut
namespace Go.Proofs.YtjckgehlojcinaaDoor
open Go.RowKit

/-- a slice of integers that came in -/
def IsRow (k : IntKind) (w : World) (a : Option Addr) (len cap : Nat) (zs : List Int) : Prop :=
  (a = none ∧ len = 0 ∧ cap = 0 ∧ zs = []) ∨
  ∃ x, a = some x ∧ len ≤ cap ∧ cap ≤ maxLen ∧ zs.length = cap ∧ (∀ i, i < zs.length → w.cell? (x.add i) = some (.int k (zs.getD i 0))) ∧ ∀ n ∈ zs, (Lit.int k n).wf = true

theorem mk.ints_of_row {w : World} {a : Option Addr} {len cap : Nat} {zs : List Int} (h : IsRow .i64 w a len cap zs) : mk.IsInts w (.slice a len cap) (zs.take len) ∧ (zs.take len).length = len := by
  rcases h with ⟨rfl, rfl, rfl, rfl⟩ | ⟨x, rfl, hl, hm, hz, hc, _⟩
  · exact ⟨.inl ⟨none, 0, rfl, rfl⟩, rfl⟩
  · have hlen : (zs.take len).length = len := by simp; omega
    refine ⟨?_, hlen⟩
    by_cases h0 : len = 0
    · subst h0
      exact .inl ⟨_, _, rfl, rfl⟩
    · obtain ⟨b, off, rfl, hcell⟩ := ints_at hc (by omega)
      refine .inr ⟨b, off, cap, by rw [hlen], fun k hk => ?_⟩
      rw [hlen] at hk
      rw [hcell k (by omega)]
      simp [List.getD, hk]

theorem mk.tabs_of {W : World} {laid : List (String × DataW Unit)} (h : laidMetH Tryd.prog laid W) (hf : laid.filter (fun x => x.1 == "math/bits.deBruijn64tab") = [("math/bits.deBruijn64tab", Rows.laid_math_bits_deBruijn64tab)]) : mk.Tabs W := by
  have h1 := laidMetH.filter (fun x => x.1 == "math/bits.deBruijn64tab") h
  rw [hf] at h1
  have h2 : Lib.TabIs Tryd.prog W "math/bits.deBruijn64tab" .u8 (Lib.deBruijn64tab.map Int.ofNat) :=
    Lib.tabIs_of_head (rest := []) (g := 0) (by kernel_rfl) (by kernel_rfl) Tryd.underlying62 Tryd.underlying5 (by kernel_rfl) (by kernel_rfl) h1
  intro j hj
  have := h2.cell (g := 0) (by kernel_rfl) j (by simpa using hj)
  rw [this]
  simp [List.getD]
  cases Lib.deBruijn64tab[j]? <;> rfl

theorem mk.heap_pos {W : World} (h : mk.Tabs W) : 0 < W.heap.size := by
  have := h 0 (by decide)
  apply Nat.pos_of_ne_zero
  intro hc
  have hn : W.heap[0]? = none := by simp [hc]
  simp [World.cell?, hn] at this

namespace maskOfs
theorem walk (a : Option Addr) (len cap : Nat) (zs : List Int) (w : World) (hr : IsRow .i64 w a len cap zs) (hL : laidMetH Tryd.prog Rows.maskOfsRow.laid w) (_ : w.ShapedOpen Tryd.prog) :
    Calls Tryd.prog 3 #[.slice a len cap] w fun e w' => e = .returned (.bool true) ∧ Below w.heap.size w w' := by
  have hT : mk.Tabs w := mk.tabs_of hL (by rfl)
  have h0 := mk.heap_pos hT
  have HT := Lib.hid hT
  clear hT hL
  obtain ⟨hi, hlen⟩ := mk.ints_of_row hr
  clear hr
  generalize hv : Value.slice a len cap = v at *
  by_cases hbig : 200 < len
  · subst hv
    have hb : ∀ k, Below w.heap.size w (w.drewN k) := fun k => below_drewN (Below.refl _ _) k
    go_enter Tryd.func3, Tryd.ntmps3
    go_wp2_with fail
    refine (mk.awake_any _ HT.out h0).mono ?_
    rintro e w' ⟨rfl, hb2⟩
    go_wp2_with fail
    go_ret
    exact ⟨rfl, hb2⟩
  · subst hv
    have C1 := Lib.hid (mk.of_any _ _ w hi (by omega))
    have C2 := Lib.hid (fun k => mk.rof_any _ _ (w.drewN k) hi (by omega))
    clear hi
    generalize mk.ofL 0 (zs.take len) = r at *
    obtain ⟨m, er⟩ := r
    go_enter Tryd.func3, Tryd.ntmps3
    go_wp2_with fail
    refine C1.out.mono ?_
    rintro e w' ⟨rfl, k1, rfl⟩
    go_wp2_with fail
    refine (C2.out k1).mono ?_
    rintro e w' ⟨rfl, k2, rfl⟩
    go_wp2_with fail
    have hb1 : Below w.heap.size w (w.drewN (k1 + k2)) := below_drewN (Below.refl _ _) _
    refine (mk.awake_any _ (HT.out.below hb1 h0) h0).mono ?_
    rintro e w' ⟨rfl, hb2⟩
    go_wp2_with fail
    go_ret
    exact ⟨rfl, hb1.trans hb2⟩
end maskOfs
end Go.Proofs.YtjckgehlojcinaaDoor
