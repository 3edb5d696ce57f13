/-
  A drawn region that is walked under a condition: the condition may become stronger on the way.
-/
import Derived.Test.YtkhkmgblgonfoaaQBase
import Derived.Deep.RegionHeld3
namespace Go.Proofs.Ytkhkmgblgonfoaa
open Go.RowKit

section
variable {P : Program} {ops : Array Oper} {Q : Exit → Act → World → Prop} {md : Region.Mode} {S S' : World → Prop}

/-- From here on under a stronger condition. -/
theorem held_grow (h : ∀ w, S' w → S w) : ∀ (fuel : Nat) (listed : Array Bool) (a : Act) (w : World), wpAnyH P md ops Q S' fuel listed a w → wpAnyH P md ops Q S fuel listed a w
  | 0, _, _, _, H => H
  | fuel + 1, _, _, _, H => ⟨H.1, fun i hi => wpOp_mono (fun a' w' h' => ⟨h _ h'.1, held_grow h fuel _ a' w' h'.2⟩) (H.2 i hi)⟩
end

end Go.Proofs.Ytkhkmgblgonfoaa
