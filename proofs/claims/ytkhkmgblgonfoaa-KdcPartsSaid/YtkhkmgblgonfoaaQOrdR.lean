/-
  PutOrder of the document's answer for fields, as a row of the call's own.
-/
import Derived.Test.YtkhkmgblgonfoaaQFieldR
import Derived.Test.YtkhkmgblgonfoaaQFieldPlain
namespace Go.Proofs.Ytkhkmgblgonfoaa
open Go.RowKit
set_option maxRecDepth 100000

theorem r5putOrder9_any (A : Option Addr) (bn cap : Nat) (zs : List Int) (l : Bool) (w : World) (h : Sl w A bn cap zs) (hn : bn ≤ 100000) : Calls Try.prog 46 #[.slice A bn cap, .bool l] w (OwnOut (zs ++ S5.num1 (S9p.flag l)) w) := by
  cases l
  all_goals
    go_enter Try.func46, Try.ntmps46
    go_wp2_with (fail)
    refine (r5putOctetO_any _ _ _ zs _ _ h hn).mono ?_
    rintro e w1 ⟨v1, rfl, ho1, hb1⟩
    go_wp2_with (fail)
    go_ret
    exact ⟨v1, rfl, ho1, hb1⟩

end Go.Proofs.Ytkhkmgblgonfoaa
