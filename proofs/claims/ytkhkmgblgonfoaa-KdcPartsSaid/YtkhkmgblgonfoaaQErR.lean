/-
  What EncodeError of the document's answer returns.
-/
import Derived.Test.YtkhkmgblgonfoaaQFieldPlain
import Derived.Test.YtkhkmgblgonfoaaQRqR
import Derived.Deep.RegionHeld3
namespace Go.Proofs.Ytkhkmgblgonfoaa
open Go.RowKit
set_option maxRecDepth 100000

/-- Its cells in a block. -/
structure ErAt (w : World) (g : Nat) (t : S9e.Er) : Prop where
  c0 : w.cell? ⟨g, 0, none⟩ = some (.bool t.l)
  c1 : w.cell? ⟨g, 1, none⟩ = some (.string t.a)
  c2 : w.cell? ⟨g, 2, none⟩ = some (.string t.b)
  c3 : w.cell? ⟨g, 3, none⟩ = some (.string t.c)
  c4 : w.cell? ⟨g, 4, none⟩ = some (.int .i64 t.tm)
  c5 : w.cell? ⟨g, 5, none⟩ = some (.int .i64 t.co)
  c6 : w.cell? ⟨g, 6, none⟩ = some (.string t.s)
theorem ErAt.keep {w w' : World} {g : Nat} {t : S9e.Er} (hb : Below w.heap.size w w') (h : ErAt w g t) : ErAt w' g t :=
  ⟨cell_keep hb h.c0, cell_keep hb h.c1, cell_keep hb h.c2, cell_keep hb h.c3, cell_keep hb h.c4, cell_keep hb h.c5, cell_keep hb h.c6⟩
theorem ErAt.drew {w : World} {g : Nat} {t : S9e.Er} (h : ErAt w g t) : ErAt w.drew g t := ⟨h.c0, h.c1, h.c2, h.c3, h.c4, h.c5, h.c6⟩
theorem ErAt.new (w : World) (t : S9e.Er) (T : TypeId) : ErAt (w.alloc (.cells (t.cells) T)) w.heap.size t :=
  ⟨by simp [go_sem, S9e.Er.cells], by simp [go_sem, S9e.Er.cells], by simp [go_sem, S9e.Er.cells], by simp [go_sem, S9e.Er.cells], by simp [go_sem, S9e.Er.cells], by simp [go_sem, S9e.Er.cells], by simp [go_sem, S9e.Er.cells]⟩

theorem erwithin_any (n m : Int) (w : World) : Calls Try.prog 33 #[.int .i64 n, .int .i64 m] w fun e w' => e = .returned (.bool (S9e.win n m)) ∧ w = w' := by
  by_cases h : 0 ≤ n
  · go_enter Try.func33, Try.ntmps33
    go_wp2
    go_ret
    exact ⟨ret_bool (by simp [S9e.win, h]), rfl⟩
  · have hn : n < 0 := by omega
    go_enter Try.func33, Try.ntmps33
    go_wp2
    go_ret
    exact ⟨ret_bool (by simp [S9e.win]; omega), rfl⟩

def ErEnc (t : S9e.Er) (w : World) (e : Ending) (w' : World) : Prop :=
  ∃ A n cap, e = .returned (.tuple #[.slice A n cap, .int .i64 (S9e.chkE t)]) ∧ Sl w' A n cap (S9e.encB t) ∧ Below w.heap.size w w' ∧ Fresh w.heap.size A









end Go.Proofs.Ytkhkmgblgonfoaa
