/-
  What Text of the document's answer for fields returns.
-/
import Derived.Test.YtkhkmgblgonfoaaDoorQFieldR
namespace Go.Proofs.YtkhkmgblgonfoaaDoor
open Go.RowKit


end Go.Proofs.YtkhkmgblgonfoaaDoor
