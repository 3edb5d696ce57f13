/-
  PutOrder of the document's answer for fields, as a row of the call's own.
-/
import Derived.Test.YtkhkmgblgonfoaaDoorQFieldR
import Derived.Test.YtkhkmgblgonfoaaDoorQFieldPlain
namespace Go.Proofs.YtkhkmgblgonfoaaDoor
open Go.RowKit
set_option maxRecDepth 100000


end Go.Proofs.YtkhkmgblgonfoaaDoor
