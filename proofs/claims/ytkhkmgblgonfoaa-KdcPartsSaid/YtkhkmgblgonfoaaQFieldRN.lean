/-
  What the proof wants: FieldRN, FieldRQ.
-/
import Derived.Test.YtkhkmgblgonfoaaQFieldRG
import Derived.Test.YtkhkmgblgonfoaaQFieldRT
import Derived.Test.YtkhkmgblgonfoaaQFieldPlain
import Derived.Test.YtkhkmgblgonfoaaQRowS
import Derived.Test.YtkhkmgblgonfoaaQPrinA
import Derived.LoopN
import Derived.Deep.RegionHeld3

/-
  What Number, Short and Octet of the document's answer for fields return.
-/
namespace Go.Proofs.Ytkhkmgblgonfoaa
open Go.RowKit









end Go.Proofs.Ytkhkmgblgonfoaa

/-
  What Principal of the document's answer for fields returns.
-/
namespace Go.Proofs.Ytkhkmgblgonfoaa
open Go.RowKit

theorem str_info : (Try.prog.info? 9).map (fun i => (i.zero, i.size, i.bytes)) = some (some (.string ⟨#[]⟩), 1, 16) := by kernel_rfl

/-- What Principal returns. -/
def PrinOut (zs : List Int) (at' : Int) (w : World) (e : Ending) (w' : World) : Prop :=
  e = .returned (.tuple #[.agg #[.string (strOfNums (S5.prA zs at')), .string (strOfNums (S5.prB zs at')), .string (strOfNums (S5.prC zs at'))], .int .i64 (S5.prN zs at'), .int .i64 (S5.prE zs at')]) ∧ Below w.heap.size w w'







end Go.Proofs.Ytkhkmgblgonfoaa
