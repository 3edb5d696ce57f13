/-
  What Bytes of package field returns.
-/
import Derived.Test.YtkhkmgblgonfoaaDoorQFieldB
namespace Go.Proofs.YtkhkmgblgonfoaaDoor
open Go.RowKit
set_option maxRecDepth 100000




end Go.Proofs.YtkhkmgblgonfoaaDoor
