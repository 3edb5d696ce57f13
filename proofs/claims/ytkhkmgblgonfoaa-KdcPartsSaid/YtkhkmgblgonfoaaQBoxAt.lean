/-
  Cells of a block that the call made, and that it can write.
-/
import Derived.Test.YtkhkmgblgonfoaaQBase
import Derived.Deep.AppendLies
namespace Go.Proofs.Ytkhkmgblgonfoaa
open Go.RowKit

theorem below_grown {w w' : World} {row : Option Nat} (h : Below w.heap.size w w') : w.grownBy w' row := ⟨h.os, h.tape, h.output, h.size, fun i hi _ => h.block i hi⟩

/-- Cells in a block that can be written. -/
structure BoxAt (w : World) (g : Nat) (cs : List Value) : Prop where
  c : ∀ i v, cs[i]? = some v → w.cell? ⟨g, i, none⟩ = some v
  fz : ∀ o, w.frozen? ⟨g, o, none⟩ = false
  lt : g < w.heap.size
theorem BoxAt.grown {w w' : World} {g : Nat} {cs : List Value} {row : Option Nat} (h : BoxAt w g cs) (hg : w.grownBy w' row) (hne : some g ≠ row) : BoxAt w' g cs :=
  ⟨fun i v e => hg.cell (h.c i v e) hne, fun o => (hg.frozen_far ⟨g, o, none⟩ h.lt hne).trans (h.fz o), Nat.lt_of_lt_of_le h.lt hg.size⟩
theorem BoxAt.keep {w w' : World} {g : Nat} {cs : List Value} (hb : Below w.heap.size w w') (h : BoxAt w g cs) : BoxAt w' g cs := h.grown (below_grown (row := none) hb) (by simp)
theorem BoxAt.new (w : World) (cs : List Value) (T : TypeId) : BoxAt (w.alloc (.cells cs.toArray T)) w.heap.size cs :=
  ⟨fun i v e => by simp [go_sem, e], fun o => by simp [go_sem], by simp⟩
theorem BoxAt.set {w : World} {g : Nat} {cs : List Value} (h : BoxAt w g cs) (i : Nat) (x : Value) (hi : i < cs.length) : BoxAt (w.setCell ⟨g, i, none⟩ x) g (cs.set i x) := by
  refine ⟨fun j v e => ?_, fun o => by simp [go_sem, h.fz], by simpa [World.setCell] using h.lt⟩
  rw [List.getElem?_set] at e
  by_cases hj : i = j
  · subst hj
    rw [if_pos rfl, if_pos hi] at e
    cases e
    have := h.c i _ (List.getElem?_eq_getElem hi)
    simp [go_sem, this]
  · rw [if_neg hj] at e
    have := h.c j v e
    simp [go_sem, this]

end Go.Proofs.Ytkhkmgblgonfoaa
