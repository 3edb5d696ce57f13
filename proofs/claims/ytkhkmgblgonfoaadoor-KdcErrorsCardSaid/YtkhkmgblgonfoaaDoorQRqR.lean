/-
  What EncodeRequest of the document's answer returns.
-/
import Derived.Test.YtkhkmgblgonfoaaDoorQFieldPlain
import Derived.Test.YtkhkmgblgonfoaaDoorQRefN
import Derived.Test.YtkhkmgblgonfoaaDoorQHdR
import Derived.Test.YtkhkmgblgonfoaaDoorQFieldR
import Derived.Test.YtkhkmgblgonfoaaDoorQFieldRP
import Derived.Deep.RegionHeld3
namespace Go.Proofs.YtkhkmgblgonfoaaDoor
open Go.RowKit
set_option maxRecDepth 100000

/-- Its cells in a block. -/
structure RqAt (w : World) (g : Nat) (t : S9q.Rq) : Prop where
  c0 : w.cell? ⟨g, 0, none⟩ = some (.bool t.l)
  c1 : w.cell? ⟨g, 1, none⟩ = some (.string t.a)
  c2 : w.cell? ⟨g, 2, none⟩ = some (.string t.b)
  c3 : w.cell? ⟨g, 3, none⟩ = some (.string t.c)
  c4 : w.cell? ⟨g, 4, none⟩ = some (.int .i64 t.tm)
  c5 : w.cell? ⟨g, 5, none⟩ = some (.int .i64 t.li)
  c6 : w.cell? ⟨g, 6, none⟩ = some (.string t.s)
  c7 : w.cell? ⟨g, 7, none⟩ = some (.string t.i)
theorem RqAt.keep {w w' : World} {g : Nat} {t : S9q.Rq} (hb : Below w.heap.size w w') (h : RqAt w g t) : RqAt w' g t :=
  ⟨cell_keep hb h.c0, cell_keep hb h.c1, cell_keep hb h.c2, cell_keep hb h.c3, cell_keep hb h.c4, cell_keep hb h.c5, cell_keep hb h.c6, cell_keep hb h.c7⟩
theorem RqAt.drew {w : World} {g : Nat} {t : S9q.Rq} (h : RqAt w g t) : RqAt w.drew g t := ⟨h.c0, h.c1, h.c2, h.c3, h.c4, h.c5, h.c6, h.c7⟩
theorem RqAt.new (w : World) (t : S9q.Rq) (T : TypeId) : RqAt (w.alloc (.cells (t.cells) T)) w.heap.size t :=
  ⟨by simp [go_sem, S9q.Rq.cells], by simp [go_sem, S9q.Rq.cells], by simp [go_sem, S9q.Rq.cells], by simp [go_sem, S9q.Rq.cells], by simp [go_sem, S9q.Rq.cells], by simp [go_sem, S9q.Rq.cells], by simp [go_sem, S9q.Rq.cells], by simp [go_sem, S9q.Rq.cells]⟩

theorem rqwithin_any (n m : Int) (w : World) : Calls Tryd.prog 20 #[.int .i64 n, .int .i64 m] w fun e w' => e = .returned (.bool (S9q.win n m)) ∧ w = w' := by
  by_cases h : 0 ≤ n
  · go_enter Tryd.func20, Tryd.ntmps20
    go_wp2
    go_ret
    exact ⟨ret_bool (by simp [S9q.win, h]), rfl⟩
  · have hn : n < 0 := by omega
    go_enter Tryd.func20, Tryd.ntmps20
    go_wp2
    go_ret
    exact ⟨ret_bool (by simp [S9q.win]; omega), rfl⟩

def RqEnc (t : S9q.Rq) (w : World) (e : Ending) (w' : World) : Prop :=
  ∃ A n cap, e = .returned (.tuple #[.slice A n cap, .int .i64 (S9q.chkE t)]) ∧ Sl w' A n cap (S9q.encB t) ∧ Below w.heap.size w w' ∧ Fresh w.heap.size A








end Go.Proofs.YtkhkmgblgonfoaaDoor
