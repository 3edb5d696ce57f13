/-
  What Make, Class, Serial and Valid of package key return.
-/
import Derived.Test.YtkhkmgblgonfoaaDoorQBase
import Derived.Test.YtkhkmgblgonfoaaDoorQKeyPlain
namespace Go.Proofs.YtkhkmgblgonfoaaDoor
open Go.RowKit







end Go.Proofs.YtkhkmgblgonfoaaDoor
