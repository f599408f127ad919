/-
  The reference's Unquote at texts of digits.
-/
import Derived.Test.YtiappccnjblcmaaDoorRUnquote
namespace Go.Proofs.YtiappccnjblcmaaDoor.vl
open Go.RowKit Go.Proofs.YtiappccnjblcmaaDoor.cm

end Go.Proofs.YtiappccnjblcmaaDoor.vl
