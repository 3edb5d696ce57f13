/-
  ValidName and ValidInstance of the document's answer for names, and its tests of numbers, told by what they leave.
-/
import Derived.Test.YtkhkmgblgonfoaaQPrinA
namespace Go.Proofs.Ytkhkmgblgonfoaa
open Go.RowKit

theorem refNameB_any (s : ByteArray) (w : World) (hs : s.size ≤ maxLen) : Calls Try.prog 31 #[.string s] w fun e w' => e = .returned (.bool (S1.vName s.data.toList)) ∧ Below w.heap.size w w' :=
  (refName_any s w hs).mono fun _ _ ⟨he, _, hw⟩ => ⟨he, by subst hw; exact below_drewN' (Below.refl _ _) _⟩

theorem refInstB_any (s : ByteArray) (w : World) (hs : s.size ≤ maxLen) : Calls Try.prog 32 #[.string s] w fun e w' => e = .returned (.bool (S1.text [64] s.data.toList)) ∧ Below w.heap.size w w' :=
  (refInst_any s w hs).mono fun _ _ ⟨he, _, hw⟩ => ⟨he, by subst hw; exact below_drewN' (Below.refl _ _) _⟩

theorem refRealmB_any (s : ByteArray) (w : World) (hs : s.size ≤ maxLen) : Calls Try.prog 69 #[.string s] w fun e w' => e = .returned (.bool (S1.vRealm s.data.toList)) ∧ Below w.heap.size w w' :=
  (refRealm_any s w hs).mono fun _ _ ⟨he, _, hw⟩ => ⟨he, by subst hw; exact below_drewN' (Below.refl _ _) _⟩

end Go.Proofs.Ytkhkmgblgonfoaa
