/-
  awake: the sanity check of every law of layer 2 is true; what the rows say of the tables.
-/
import Derived.Test.YtakafepdiapfdaaDoorQuote
import Derived.Test.YtakafepdiapfdaaDoorRow
namespace Go.Proofs.YtakafepdiapfdaaDoor.vl
open Go.RowKit Go.Proofs.YtakafepdiapfdaaDoor.cm

theorem hex_of {W : World} {laid : List (String × DataW Unit)} (h : laidMetH Tryd.prog laid W) (hf : laid.filter (fun x => x.1 == "kaudit/value.digits") = [("kaudit/value.digits", Rows.laid_kaudit_value_digits)]) : HexT W := by
  have h1 := laidMetH.filter (fun x => x.1 == "kaudit/value.digits") h
  rw [hf] at h1
  have h2 : Lib.TabIs Tryd.prog W "kaudit/value.digits" .u8 ([48, 49, 50, 51, 52, 53, 54, 55, 56, 57, 97, 98, 99, 100, 101, 102] : List Int) :=
    Lib.tabIs_of_head (rest := []) (g := 0) (by kernel_rfl) (by kernel_rfl) Tryd.underlying69 Tryd.underlying5 (by kernel_rfl) (by kernel_rfl) h1
  intro j hj
  have := h2.cell (g := 0) (by kernel_rfl) j (by simpa using hj)
  rw [this]
  have : ∀ j < 16, some (Value.int .u8 (([48, 49, 50, 51, 52, 53, 54, 55, 56, 57, 97, 98, 99, 100, 101, 102] : List Int).getD j 0)) = some (Value.int .u8 ((hx j).toNat : Int)) := by
    have k : ∀ j < 16, (([48, 49, 50, 51, 52, 53, 54, 55, 56, 57, 97, 98, 99, 100, 101, 102] : List Int).getD j 0) = ((hx j).toNat : Int) := by decide
    intro j hj; rw [k j hj]
  exact this j hj

theorem pos_of {W : World} (h : HexT W) : 0 < W.heap.size := by
  have := h 0 (by decide)
  apply Nat.pos_of_ne_zero
  intro hc
  have hn : W.heap[0]? = none := by simp [hc]
  simp [World.cell?, hn] at this

theorem awake_q : qS ⟨#[97, 32, 98]⟩ = ⟨#[120, 54, 49, 50, 48, 54, 50]⟩ ∧ qE ⟨#[97, 32, 98]⟩ = 0 := by decide +kernel

set_option maxHeartbeats 1000000 in
theorem awake_any (w : World) (hT : HexT w) (h0 : 0 < w.heap.size) :
    Calls Tryd.prog 11 #[] w fun e w' => e = .returned (.bool true) ∧ Below w.heap.size w w' := by
  have C := Quote_any ⟨#[97, 32, 98]⟩ w (by unfold maxLen; decide) hT h0
  rw [awake_q.1, awake_q.2] at C
  have C := Lib.hid C
  clear hT
  go_enter Tryd.func11, Tryd.ntmps11
  go_wp2_with fail
  refine C.out.mono ?_
  rintro e w' ⟨rfl, hb⟩
  go_wp2_with fail
  go_ret
  exact ⟨rfl, hb⟩
end Go.Proofs.YtakafepdiapfdaaDoor.vl
