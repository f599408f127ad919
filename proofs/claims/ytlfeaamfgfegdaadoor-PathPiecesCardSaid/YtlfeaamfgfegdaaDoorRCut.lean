/-
  What every layer needs of the reference of layer 1: Cut returns the pieces of a text between the bytes c.
-/
import Derived.Test.YtlfeaamfgfegdaaDoorDec
import Derived.Test.YtlfeaamfgfegdaaDoorCut
namespace Go.Proofs.YtlfeaamfgfegdaaDoor.cm
open Go.RowKit

theorem infoStr : (Tryd.prog.info? 9).map (fun i => (i.zero, i.size, i.bytes)) = some (some (.string ⟨#[]⟩), 1, 16) := by kernel_rfl

/-- v is a slice of the strings xs, in memory of the call's own -/
def OwnStrs (B : Nat) (w : World) (v : Value) (xs : List ByteArray) : Prop := w.ownsRow B 9 1 v xs.length (xs.map Value.string)

end Go.Proofs.YtlfeaamfgfegdaaDoor.cm
