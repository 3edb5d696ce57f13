/-
  The list of texts that the law BoxReads makes: four slices of bytes, whatever the order in which they are made.
-/
import Derived.Test.YtcbneeckbpgmgaaBoxS
import Derived.Test.YtcbneeckbpgmgaaBoxRC
import Derived.Deep.RegionHeld3
import Derived.Deep.RegionLaw
import Derived.Deep.DeepCutAuto
import Derived.IntWalk
namespace Go.Proofs.Ytcbneeckbpgmgaa
open Go.RowKit

/-- The beginning of a slice of bytes. -/
theorem Sl.cut {w : World} {A : Option Addr} {n cap : Nat} {zs : List Int} (h : Sl w A n cap zs) (m : Nat) (hm : m ≤ n) : Sl w A m cap (zs.take m) := by
  refine ⟨h.1.cut m hm, Nat.le_trans hm h.2.1, h.2.2.1, ?_⟩
  rcases h.2.2.2 with ⟨h1, h2⟩ | h1
  · exact .inl ⟨by omega, h2⟩
  · exact .inr h1

/-- A slice of four slices of bytes. -/
def Rows4 (w : World) (g : Nat) : Prop := ∀ i, i < 4 → ∃ A n c zs, w.cell? ⟨g, i, none⟩ = some (.slice A n c) ∧ Sl w A n c zs
theorem Rows4.keep {w w' : World} {g : Nat} (hb : Below w.heap.size w w') (h : Rows4 w g) : Rows4 w' g := fun i hi => by
  obtain ⟨A, n, c, zs, h1, h2⟩ := h i hi
  exact ⟨A, n, c, zs, cell_keep hb h1, h2.keep hb⟩
theorem rows4_new {w : World} {A1 A2 A3 A4 : Option Addr} {n1 n2 n3 n4 c1 c2 c3 c4 : Nat} {z1 z2 z3 z4 : List Int} (t : TypeId) (h1 : Sl w A1 n1 c1 z1) (h2 : Sl w A2 n2 c2 z2) (h3 : Sl w A3 n3 c3 z3) (h4 : Sl w A4 n4 c4 z4) :
    Rows4 (w.alloc (.cells #[.slice A1 n1 c1, .slice A2 n2 c2, .slice A3 n3 c3, .slice A4 n4 c4] t)) w.heap.size := by
  have Ba : Below w.heap.size w (w.alloc (.cells #[.slice A1 n1 c1, .slice A2 n2 c2, .slice A3 n3 c3, .slice A4 n4 c4] t)) := (Below.refl _ _).alloc (Nat.le_refl _) _
  intro i hi
  match i, hi with
  | 0, _ => exact ⟨A1, n1, c1, z1, by simp [go_sem], h1.keep Ba⟩
  | 1, _ => exact ⟨A2, n2, c2, z2, by simp [go_sem], h2.keep Ba⟩
  | 2, _ => exact ⟨A3, n3, c3, z3, by simp [go_sem], h3.keep Ba⟩
  | 3, _ => exact ⟨A4, n4, c4, z4, by simp [go_sem], h4.keep Ba⟩

end Go.Proofs.Ytcbneeckbpgmgaa
