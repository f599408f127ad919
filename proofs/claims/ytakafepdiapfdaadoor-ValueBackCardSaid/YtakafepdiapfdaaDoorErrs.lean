/-
  What the rows say of the library's two errors.
-/
import Derived.Test.YtakafepdiapfdaaDoorRParseP
import Derived.Test.YtakafepdiapfdaaDoorValuePairs
import Derived.Stop.LaidErr
import Derived.MakeChecks
namespace Go.Proofs.YtakafepdiapfdaaDoor.vl
open Go.RowKit Go.Proofs.YtakafepdiapfdaaDoor.cm

theorem starErr : "*" ++ "errors.errorString" = "*errors.errorString" := by decide
theorem rowErr (u : TypeId) (h : Tryd.prog.typeName? 3 u = some "*errors.errorString") : u = 107 :=
  typeName_ptr_named (nm := "errors.errorString") (by rw [starErr]; kernel_rfl) (by kernel_rfl) (by decide) u (by rw [starErr]; exact h)

theorem syn_of {W : World} {laid : List (String × DataW Unit)} (h : laidMetH Tryd.prog laid W) (hf : laid.filter (fun x => x.1 == "strconv.ErrSyntax") = [("strconv.ErrSyntax", Rows.laid_strconv_ErrSyntax)]) : ∃ te pe, W.cell? ⟨3, 0, none⟩ = some (.iface te pe) := by
  have h1 := laidMetH.filter (fun x => x.1 == "strconv.ErrSyntax") h
  rw [hf, Go.MakeChecks.laidMetH_plain _ _ _ (by rfl)] at h1
  obtain ⟨a0, s0, hv0, -, -, -⟩ := laid_sentinel h1 (g := 3) (by kernel_rfl) (ti := 74) (by kernel_rfl) Tryd.underlying74 rowErr Tryd.underlying107 Tryd.underlying109 rfl rfl Tryd.underlying9 (by kernel_rfl) (by kernel_rfl)
  exact ⟨_, _, by have h0 := World.var?_cell (g := 3) (by kernel_rfl) hv0 0; simpa using h0⟩

theorem rng_of {W : World} {laid : List (String × DataW Unit)} (h : laidMetH Tryd.prog laid W) (hf : laid.filter (fun x => x.1 == "strconv.ErrRange") = [("strconv.ErrRange", Rows.laid_strconv_ErrRange)]) : ∃ te pe, W.cell? ⟨4, 0, none⟩ = some (.iface te pe) := by
  have h1 := laidMetH.filter (fun x => x.1 == "strconv.ErrRange") h
  rw [hf, Go.MakeChecks.laidMetH_plain _ _ _ (by rfl)] at h1
  obtain ⟨a0, s0, hv0, -, -, -⟩ := laid_sentinel h1 (g := 4) (by kernel_rfl) (ti := 74) (by kernel_rfl) Tryd.underlying74 rowErr Tryd.underlying107 Tryd.underlying109 rfl rfl Tryd.underlying9 (by kernel_rfl) (by kernel_rfl)
  exact ⟨_, _, by have h0 := World.var?_cell (g := 4) (by kernel_rfl) hv0 0; simpa using h0⟩
end Go.Proofs.YtakafepdiapfdaaDoor.vl
