/-
  What the proof wants: BoxR, BoxRB, BoxRC, TkD.
-/
import Derived.Test.YtjkpbkbgbgckaaaQBoxC
import Derived.Test.YtjkpbkbgbgckaaaQKeyR
import Derived.Test.YtjkpbkbgbgckaaaQKeyRB
import Derived.Deep.RegionLaw
import Derived.Test.YtjkpbkbgbgckaaaQTkC

/-
  What Make and Read of the document's answer for boxes return.
-/
namespace Go.Proofs.Ytjkpbkbgbgckaaa
open Go.RowKit


end Go.Proofs.Ytjkpbkbgbgckaaa

/-
  What Read of the document's answer for boxes returns.
-/
namespace Go.Proofs.Ytjkpbkbgbgckaaa
open Go.RowKit


end Go.Proofs.Ytjkpbkbgbgckaaa

/-
  What Open and Is of the document's answer for boxes return.
-/
namespace Go.Proofs.Ytjkpbkbgbgckaaa
open Go.RowKit



end Go.Proofs.Ytjkpbkbgbgckaaa

/-
  What Seal, Open and For of the document's answer for tickets return.
-/
namespace Go.Proofs.Ytjkpbkbgbgckaaa
open Go.RowKit

namespace S6
def sealE (t : Tk) (k : Int) : Int := if chkE t = 0 then S4.mkE 1 k (enc t) else chkE t
def sealB (t : Tk) (k : Int) : List Int := if chkE t = 0 then S4.mkB 1 k (enc t) else []
noncomputable def openE (zs : List Int) (k : Int) : Int := if S4.opOk zs 1 k then decE (S4.opB zs 1 k) else 31
noncomputable def openT (zs : List Int) (k : Int) : Tk := if S4.opOk zs 1 k then decT (S4.opB zs 1 k) else Tk.zero
theorem seal_err {t : Tk} (h : chkE t ≠ 0) (k : Int) : sealE t k = chkE t ∧ sealB t k = [] := ⟨by unfold sealE; rw [if_neg h], by unfold sealB; rw [if_neg h]⟩
theorem seal_ok {t : Tk} (h : chkE t = 0) (k : Int) : sealE t k = S4.mkE 1 k (enc t) ∧ sealB t k = S4.mkB 1 k (enc t) := ⟨by unfold sealE; rw [if_pos h], by unfold sealB; rw [if_pos h]⟩
theorem open_no {zs : List Int} {k : Int} (h : S4.opOk zs 1 k = false) : openE zs k = 31 ∧ openT zs k = Tk.zero := ⟨by unfold openE; rw [h]; rfl, by unfold openT; rw [h]; rfl⟩
theorem open_yes {zs : List Int} {k : Int} (h : S4.opOk zs 1 k = true) : openE zs k = decE (S4.opB zs 1 k) ∧ openT zs k = decT (S4.opB zs 1 k) := ⟨by unfold openE; rw [if_pos h], by unfold openT; rw [if_pos h]⟩
theorem openT_fit (zs : List Int) (k : Int) : (openT zs k).Fit := by
  unfold openT
  split
  · exact decT_fit _
  · exact Tk.zero_fit
end S6

def SealOut (t : S6.Tk) (k : Int) (w : World) (e : Ending) (w' : World) : Prop :=
  ∃ A n cap, e = .returned (.tuple #[.slice A n cap, .int .i64 (S6.sealE t k)]) ∧ Sl w' A n cap (S6.sealB t k) ∧ Below w.heap.size w w'
def OpnOut (zs : List Int) (k : Int) (w : World) (e : Ending) (w' : World) : Prop := e = .returned (.tuple #[(S6.openT zs k).val, .int .i64 (S6.openE zs k)]) ∧ Below w.heap.size w w'


theorem opn_out {zs : List Int} {k : Int} {w w' : World} {t : S6.Tk} {x : Int} (h : S6.openE zs k = x ∧ S6.openT zs k = t) (hb : Below w.heap.size w w') : OpnOut zs k w (.returned (.tuple #[t.val, .int .i64 x])) w' := ⟨by rw [h.1, h.2], hb⟩



end Go.Proofs.Ytjkpbkbgbgckaaa
