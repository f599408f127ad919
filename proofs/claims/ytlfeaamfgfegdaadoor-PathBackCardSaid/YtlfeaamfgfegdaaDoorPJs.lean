/-
  How long a joined path is.
-/
import Derived.Test.YtlfeaamfgfegdaaDoorPNm
namespace Go.Proofs.YtlfeaamfgfegdaaDoor.pt
open Go.RowKit
theorem joinB_size (a n : ByteArray) : (joinB a n).size ≤ a.size + 1 + n.size := by
  rw [Lib.size_eq a, Lib.size_eq n, Lib.size_eq (joinB a n)]
  have : (joinB a n).data.toList = joinP a.data.toList n.data.toList := by
    show (joinP a.data.toList n.data.toList).toArray.toList = _
    rw [List.toList_toArray]
  rw [this]
  unfold joinP
  split
  · rw [List.length_append]; omega
  · rw [List.length_append, List.length_cons]; omega
end Go.Proofs.YtlfeaamfgfegdaaDoor.pt
