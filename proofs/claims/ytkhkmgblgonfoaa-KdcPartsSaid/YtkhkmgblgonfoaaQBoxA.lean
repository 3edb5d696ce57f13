/-
  What the proof wants: BoxA, BoxB, BoxC.
-/
import Derived.Test.YtkhkmgblgonfoaaQSlicesB
import Derived.Test.YtkhkmgblgonfoaaQFieldPlain
import Derived.Test.YtkhkmgblgonfoaaQKeyA
import Derived.Test.YtkhkmgblgonfoaaQKeyBytes
import Derived.BigQuiet

/-
  What isKind and Make of package box return.
-/
namespace Go.Proofs.Ytkhkmgblgonfoaa
open Go.RowKit


/-- A new row of two behind another new block; ahead of one. -/
theorem newrow1 (q : IntKind) (w : World) (o : Obj) (zs : List Int) (t : TypeId) (h : ∀ n ∈ zs, q.min ≤ n ∧ n ≤ q.max) : RowK q ((w.alloc o).alloc (.cells (zs.map (Value.int q)).toArray t)) (some ⟨w.heap.size + 1, 0, none⟩) zs.length zs := by
  have e := RowK.new q (w.alloc o) zs t h
  rw [show (w.alloc o).heap.size = w.heap.size + 1 by simp] at e
  exact e
theorem newrow0 (q : IntKind) (w : World) (o : Obj) (zs : List Int) (t : TypeId) (h : ∀ n ∈ zs, q.min ≤ n ∧ n ≤ q.max) : RowK q ((w.alloc (.cells (zs.map (Value.int q)).toArray t)).alloc o) (some ⟨w.heap.size, 0, none⟩) zs.length zs :=
  RowK.keep ((Below.refl _ _).alloc (Nat.le_refl _) _) (RowK.new q w zs t h)

/-- What Make returns. -/
def MadeB (kind key : Int) (body : List Int) (w : World) (e : Ending) (w' : World) : Prop :=
  ∃ A n cap, e = .returned (.tuple #[.slice A n cap, .int .i64 (S4.mkE kind key body)]) ∧ Sl w' A n cap (S4.mkB kind key body) ∧ Below w.heap.size w w'


end Go.Proofs.Ytkhkmgblgonfoaa

/-
  What Read of package box returns.
-/
namespace Go.Proofs.Ytkhkmgblgonfoaa
open Go.RowKit

/-- What Read returns. -/
def ReadB (zs : List Int) (w : World) (e : Ending) (w' : World) : Prop :=
  ∃ A n cap, e = .returned (.tuple #[.agg #[.int .i64 (S4.rdK zs), .int .u64 (S4.rdY zs), .slice A n cap], .int .i64 (S4.rdN zs), .int .i64 (S4.rdE zs)]) ∧ Sl w' A n cap (S4.rdB zs) ∧ Below w.heap.size w w' ∧ Fresh w.heap.size A

theorem at0_of {zs : List Int} {i : Nat} {z : Int} (h : zs[i]? = some z) : S4.at0 zs i = z := by simp [S4.at0, List.getD, h]

theorem Sl.at {w : World} {b off n cap : Nat} {zs : List Int} (h : Sl w (some ⟨b, off, none⟩) n cap zs) {i : Nat} (hi : i < n) :
    0 ≤ S4.at0 zs i ∧ S4.at0 zs i ≤ 255 ∧ ∀ o, (w.alloc o).cell? ⟨b, off + i, none⟩ = some (.int .u8 (S4.at0 zs i)) := by
  obtain ⟨b', off', z, ha, hz, h1, h2, hc⟩ := h.row.at hi
  cases ha
  rw [at0_of hz]
  exact ⟨h1, h2, fun o => cell_keep ((Below.refl _ _).alloc (Nat.le_refl _) o) hc⟩


end Go.Proofs.Ytkhkmgblgonfoaa

/-
  What whole, Open and Is of package box return.
-/
namespace Go.Proofs.Ytkhkmgblgonfoaa
open Go.RowKit

theorem isB_parts {zs : List Int} (h : S4.isB zs = true) : S4.rdE zs = 0 ∧ S4.rdN zs = (zs.length : Int) := by simpa [S4.isB] using h
theorem isB_not {zs : List Int} (h : S4.isB zs = false) : S4.rdE zs ≠ 0 ∨ S4.rdE zs = 0 ∧ S4.rdN zs ≠ (zs.length : Int) := by
  by_cases e : S4.rdE zs = 0
  · right; refine ⟨e, ?_⟩; simpa [S4.isB, e] using h
  · exact .inl e

/-- What whole returns. -/
def WholeB (b : Bool) (zs : List Int) (w : World) (e : Ending) (w' : World) : Prop :=
  ∃ A n cap, e = .returned (.tuple #[.agg #[.int .i64 (if b then S4.rdK zs else 0), .int .u64 (if b then S4.rdY zs else 0), .slice A n cap], .bool b]) ∧ Sl w' A n cap (if b then S4.rdB zs else []) ∧ Below w.heap.size w w' ∧ Fresh w.heap.size A


theorem op_not {zs : List Int} {kind key : Int} (h : S4.isB zs = false ∨ S4.rdK zs ≠ kind ∨ S4.rdY zs ≠ key) : S4.opOk zs kind key = false ∧ S4.opB zs kind key = [] := by
  have e : S4.opOk zs kind key = false := by
    unfold S4.opOk
    rcases h with h | h | h <;> simp [h]
  exact ⟨e, by unfold S4.opB; rw [e]; rfl⟩
theorem op_yes {zs : List Int} (h : S4.isB zs = true) : S4.opOk zs (S4.rdK zs) (S4.rdY zs) = true ∧ S4.opB zs (S4.rdK zs) (S4.rdY zs) = S4.rdB zs := by
  have e : S4.opOk zs (S4.rdK zs) (S4.rdY zs) = true := by unfold S4.opOk; simp [h]
  exact ⟨e, by unfold S4.opB; rw [e]; rfl⟩


/-- What Open returns. -/
def OpenB (ok : Bool) (ys : List Int) (w : World) (e : Ending) (w' : World) : Prop :=
  ∃ A n cap, e = .returned (.tuple #[.slice A n cap, .bool ok]) ∧ Sl w' A n cap ys ∧ Below w.heap.size w w' ∧ Fresh w.heap.size A


end Go.Proofs.Ytkhkmgblgonfoaa
