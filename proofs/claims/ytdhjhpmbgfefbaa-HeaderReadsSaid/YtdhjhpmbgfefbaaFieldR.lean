/-
  What the functions Put.. and Pad of the document's answer for fields return.
-/
import Derived.Test.YtdhjhpmbgfefbaaSlStr
import Derived.Test.YtdhjhpmbgfefbaaFieldPlain
import Derived.LoopN
namespace Go.Proofs.Ytdhjhpmbgfefbaa
open Go.RowKit

/-- A new row of these bytes. -/
def BytesOut (zs : List Int) (w : World) (e : Ending) (w' : World) : Prop :=
  ∃ A n cap, e = .returned (.slice A n cap) ∧ Sl w' A n cap zs ∧ Below w.heap.size w w' ∧ Fresh w.heap.size A

/-- .. that belongs to the call. -/
def OwnOut (zs : List Int) (w : World) (e : Ending) (w' : World) : Prop := ∃ v, e = .returned v ∧ Own .u8 5 w' w.heap.size v zs ∧ Below w.heap.size w w'
theorem OwnOut.bytes {zs : List Int} {w w' : World} {e : Ending} (h : OwnOut zs w e w') (hr : ∀ z ∈ zs, 0 ≤ z ∧ z ≤ 255) : BytesOut zs w e w' := by
  obtain ⟨v, rfl, ho, hb⟩ := h
  obtain ⟨A, n, c, rfl, hs, hf⟩ := ho.slf hr
  exact ⟨A, n, c, rfl, hs, hb, hf⟩
theorem range_app {xs ys : List Int} (hx : ∀ z ∈ xs, 0 ≤ z ∧ z ≤ 255) (hy : ∀ z ∈ ys, 0 ≤ z ∧ z ≤ 255) : ∀ z ∈ xs ++ ys, 0 ≤ z ∧ z ≤ 255 := by
  intro z hz
  rcases List.mem_append.1 hz with hz | hz
  · exact hx z hz
  · exact hy z hz











end Go.Proofs.Ytdhjhpmbgfefbaa
