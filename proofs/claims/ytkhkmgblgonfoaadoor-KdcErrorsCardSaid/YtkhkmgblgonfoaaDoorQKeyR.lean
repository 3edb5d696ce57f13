/-
  What Make, Class, Serial and Valid of the document's answer for keys return: the same as the code's.
-/
import Derived.Test.YtkhkmgblgonfoaaDoorQKeyPlain
namespace Go.Proofs.YtkhkmgblgonfoaaDoor
open Go.RowKit





end Go.Proofs.YtkhkmgblgonfoaaDoor
