/-
  What Text of the document's answer for fields returns.
-/
import Derived.Test.YtkhkmgblgonfoaaQFieldR
namespace Go.Proofs.Ytkhkmgblgonfoaa
open Go.RowKit


end Go.Proofs.Ytkhkmgblgonfoaa
