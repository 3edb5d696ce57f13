/-
  What the proof wants: FieldRN, FieldRQ.
-/
import Derived.Test.YtkhkmgblgonfoaaDoorQFieldRG
import Derived.Test.YtkhkmgblgonfoaaDoorQFieldRT
import Derived.Test.YtkhkmgblgonfoaaDoorQFieldPlain
import Derived.Test.YtkhkmgblgonfoaaDoorQRowS
import Derived.Test.YtkhkmgblgonfoaaDoorQPrinA
import Derived.LoopN
import Derived.Deep.RegionHeld3

/-
  What Number, Short and Octet of the document's answer for fields return.
-/
namespace Go.Proofs.YtkhkmgblgonfoaaDoor
open Go.RowKit









end Go.Proofs.YtkhkmgblgonfoaaDoor

/-
  What Principal of the document's answer for fields returns.
-/
namespace Go.Proofs.YtkhkmgblgonfoaaDoor
open Go.RowKit

theorem str_info : (Tryd.prog.info? 9).map (fun i => (i.zero, i.size, i.bytes)) = some (some (.string ⟨#[]⟩), 1, 16) := by kernel_rfl

/-- What Principal returns. -/
def PrinOut (zs : List Int) (at' : Int) (w : World) (e : Ending) (w' : World) : Prop :=
  e = .returned (.tuple #[.agg #[.string (strOfNums (S5.prA zs at')), .string (strOfNums (S5.prB zs at')), .string (strOfNums (S5.prC zs at'))], .int .i64 (S5.prN zs at'), .int .i64 (S5.prE zs at')]) ∧ Below w.heap.size w w'







end Go.Proofs.YtkhkmgblgonfoaaDoor
