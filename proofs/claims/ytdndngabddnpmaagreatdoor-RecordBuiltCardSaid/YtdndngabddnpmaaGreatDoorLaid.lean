/-
  What the rows say of the program's table of digits, of the library's table of powers and of its two errors.
-/
import Derived.Test.YtdndngabddnpmaaGreatDoorNumP
import Derived.Test.YtdndngabddnpmaaGreatDoorRow
import Derived.Stop.LaidErr
import Derived.MakeChecks
namespace Go.Proofs.YtdndngabddnpmaaGreatDoor.vl
open Go.RowKit Go.Proofs.YtdndngabddnpmaaGreatDoor.cm

theorem hex_of {W : World} {laid : List (String × DataW Unit)} (h : laidMetH Tryz.prog laid W) (hf : laid.filter (fun x => x.1 == "kaudit/value.digits") = [("kaudit/value.digits", Rows.laid_kaudit_value_digits)]) : HexT W := by
  have h1 := laidMetH.filter (fun x => x.1 == "kaudit/value.digits") h
  rw [hf] at h1
  have h2 : Lib.TabIs Tryz.prog W "kaudit/value.digits" .u8 ([48, 49, 50, 51, 52, 53, 54, 55, 56, 57, 97, 98, 99, 100, 101, 102] : List Int) :=
    Lib.tabIs_of_head (rest := []) (g := 1) (by kernel_rfl) (by kernel_rfl) Tryz.underlying120 Tryz.underlying5 (by kernel_rfl) (by kernel_rfl) h1
  intro j hj
  have := h2.cell (g := 1) (by kernel_rfl) j (by simpa using hj)
  rw [this]
  have : ∀ j < 16, some (Value.int .u8 (([48, 49, 50, 51, 52, 53, 54, 55, 56, 57, 97, 98, 99, 100, 101, 102] : List Int).getD j 0)) = some (Value.int .u8 ((hx j).toNat : Int)) := by
    have k : ∀ j < 16, (([48, 49, 50, 51, 52, 53, 54, 55, 56, 57, 97, 98, 99, 100, 101, 102] : List Int).getD j 0) = ((hx j).toNat : Int) := by decide
    intro j hj; rw [k j hj]
  exact this j hj

theorem pos_of {W : World} (h : HexT W) : 1 < W.heap.size := World.block_lt_of_cell? W ⟨1, 0, none⟩ (h 0 (by decide))

theorem pow_of {W : World} {laid : List (String × DataW Unit)} (h : laidMetH Tryz.prog laid W) (hf : laid.filter (fun x => x.1 == "internal/strconv.uint64pow10") = [("internal/strconv.uint64pow10", Rows.laid_internal_strconv_uint64pow10)]) : PowT W := by
  have h1 := laidMetH.filter (fun x => x.1 == "internal/strconv.uint64pow10") h
  rw [hf] at h1
  exact Lib.tabIs_of_head (rest := []) (g := 2) (by kernel_rfl) (by kernel_rfl) Tryz.underlying133 Tryz.underlying115 (by kernel_rfl) (by kernel_rfl) h1

theorem starErr : "*" ++ "errors.errorString" = "*errors.errorString" := by decide
theorem rowErr (u : TypeId) (h : Tryz.prog.typeName? 3 u = some "*errors.errorString") : u = 147 :=
  typeName_ptr_named (nm := "errors.errorString") (by rw [starErr]; kernel_rfl) (by kernel_rfl) (by decide) u (by rw [starErr]; exact h)

theorem syn_of {W : World} {laid : List (String × DataW Unit)} (h : laidMetH Tryz.prog laid W) (hf : laid.filter (fun x => x.1 == "strconv.ErrSyntax") = [("strconv.ErrSyntax", Rows.laid_strconv_ErrSyntax)]) : ∃ te pe, W.cell? ⟨4, 0, none⟩ = some (.iface te pe) := by
  have h1 := laidMetH.filter (fun x => x.1 == "strconv.ErrSyntax") h
  rw [hf, Go.MakeChecks.laidMetH_plain _ _ _ (by rfl)] at h1
  obtain ⟨a0, s0, hv0, -, -, -⟩ := laid_sentinel h1 (g := 4) (by kernel_rfl) (ti := 55) (by kernel_rfl) Tryz.underlying55 rowErr Tryz.underlying147 Tryz.underlying149 rfl rfl Tryz.underlying9 (by kernel_rfl) (by kernel_rfl)
  exact ⟨_, _, by have h0 := World.var?_cell (g := 4) (by kernel_rfl) hv0 0; simpa using h0⟩

theorem rng_of {W : World} {laid : List (String × DataW Unit)} (h : laidMetH Tryz.prog laid W) (hf : laid.filter (fun x => x.1 == "strconv.ErrRange") = [("strconv.ErrRange", Rows.laid_strconv_ErrRange)]) : ∃ te pe, W.cell? ⟨5, 0, none⟩ = some (.iface te pe) := by
  have h1 := laidMetH.filter (fun x => x.1 == "strconv.ErrRange") h
  rw [hf, Go.MakeChecks.laidMetH_plain _ _ _ (by rfl)] at h1
  obtain ⟨a0, s0, hv0, -, -, -⟩ := laid_sentinel h1 (g := 5) (by kernel_rfl) (ti := 55) (by kernel_rfl) Tryz.underlying55 rowErr Tryz.underlying147 Tryz.underlying149 rfl rfl Tryz.underlying9 (by kernel_rfl) (by kernel_rfl)
  exact ⟨_, _, by have h0 := World.var?_cell (g := 5) (by kernel_rfl) hv0 0; simpa using h0⟩
end Go.Proofs.YtdndngabddnpmaaGreatDoor.vl
