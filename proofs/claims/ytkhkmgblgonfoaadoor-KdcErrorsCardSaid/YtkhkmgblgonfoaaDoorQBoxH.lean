/-
  What the proof wants: BoxH, Grow.
-/
import Derived.Test.YtkhkmgblgonfoaaDoorQBoxA
import Derived.Deep.RegionLaw
import Derived.Test.YtkhkmgblgonfoaaDoorQBase
import Derived.Deep.RegionHeld3

/-
  The keys, bodies and spoilt bytes that the laws of chapter 4 make; the example that they try first.
-/
namespace Go.Proofs.YtkhkmgblgonfoaaDoor
open Go.RowKit

/-- The key of a class and a byte. -/
def keyOf (c n : Int) : Int := c * 72057594037927936 + (1 + n)
theorem keyOf_facts {c n : Int} (hc : c = 1 ∨ c = 2) (n0 : 0 ≤ n) (n1 : n ≤ 255) : S3.vk (keyOf c n) = true ∧ 0 ≤ keyOf c n ∧ keyOf c n ≤ 18446744073709551615 := S4.key_of hc n0 n1





end Go.Proofs.YtkhkmgblgonfoaaDoor

/-
  A drawn region that is walked under a condition: the condition may become stronger on the way.
-/
namespace Go.Proofs.YtkhkmgblgonfoaaDoor
open Go.RowKit

section
variable {P : Program} {ops : Array Oper} {Q : Exit → Act → World → Prop} {md : Region.Mode} {S S' : World → Prop}

/-- From here on under a stronger condition. -/
theorem held_grow (h : ∀ w, S' w → S w) : ∀ (fuel : Nat) (listed : Array Bool) (a : Act) (w : World), wpAnyH P md ops Q S' fuel listed a w → wpAnyH P md ops Q S fuel listed a w
  | 0, _, _, _, H => H
  | fuel + 1, _, _, _, H => ⟨H.1, fun i hi => wpOp_mono (fun a' w' h' => ⟨h _ h'.1, held_grow h fuel _ a' w' h'.2⟩) (H.2 i hi)⟩
end

end Go.Proofs.YtkhkmgblgonfoaaDoor
