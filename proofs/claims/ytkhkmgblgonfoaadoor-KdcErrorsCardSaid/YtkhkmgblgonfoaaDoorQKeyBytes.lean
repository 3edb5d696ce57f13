/-
  What Bytes and Read of package key return.
-/
import Derived.Test.YtkhkmgblgonfoaaDoorQKeyA
import Derived.Test.YtkhkmgblgonfoaaDoorQKeyPlain
import Derived.LoopN
namespace Go.Proofs.YtkhkmgblgonfoaaDoor
open Go.RowKit

/-- The bytes of a key, in a row of their own. -/
def BytesRow (k : Int) (w : World) (e : Ending) (w' : World) : Prop := ∃ g cap, e = .returned (.slice (some ⟨g, 0, none⟩) 8 cap) ∧ w.heap.size ≤ g ∧ 8 ≤ cap ∧ RowK .u8 w' (some ⟨g, 0, none⟩) 8 (S3.bytes8 k) ∧ Below w.heap.size w w'



end Go.Proofs.YtkhkmgblgonfoaaDoor
