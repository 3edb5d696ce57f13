/-
  What EncodePart of the document's answer returns.
-/
import Derived.Test.YtkhkmgblgonfoaaDoorQOrdR
import Derived.Test.YtkhkmgblgonfoaaDoorQRqR
import Derived.Test.YtkhkmgblgonfoaaDoorQKeyR
import Derived.Test.YtkhkmgblgonfoaaDoorQKeyRB
import Derived.Deep.RegionHeld3
namespace Go.Proofs.YtkhkmgblgonfoaaDoor
open Go.RowKit
set_option maxRecDepth 100000

/-- Its cells in a block. -/
structure PtAt (w : World) (g : Nat) (t : S9p.Pt) (A : Option Addr) (n cap : Nat) : Prop where
  c0 : w.cell? ⟨g, 0, none⟩ = some (.int .u64 t.k)
  c1 : w.cell? ⟨g, 1, none⟩ = some (.string t.a)
  c2 : w.cell? ⟨g, 2, none⟩ = some (.string t.b)
  c3 : w.cell? ⟨g, 3, none⟩ = some (.string t.c)
  c4 : w.cell? ⟨g, 4, none⟩ = some (.int .i64 t.li)
  c5 : w.cell? ⟨g, 5, none⟩ = some (.int .i64 t.kv)
  c6 : w.cell? ⟨g, 6, none⟩ = some (.slice A n cap)
  c7 : w.cell? ⟨g, 7, none⟩ = some (.int .i64 t.tm)
theorem PtAt.keep {w w' : World} {g : Nat} {t : S9p.Pt} {A : Option Addr} {n cap : Nat} (hb : Below w.heap.size w w') (h : PtAt w g t A n cap) : PtAt w' g t A n cap :=
  ⟨cell_keep hb h.c0, cell_keep hb h.c1, cell_keep hb h.c2, cell_keep hb h.c3, cell_keep hb h.c4, cell_keep hb h.c5, cell_keep hb h.c6, cell_keep hb h.c7⟩
theorem PtAt.drew {w : World} {g : Nat} {t : S9p.Pt} {A : Option Addr} {n cap : Nat} (h : PtAt w g t A n cap) : PtAt w.drew g t A n cap := ⟨h.c0, h.c1, h.c2, h.c3, h.c4, h.c5, h.c6, h.c7⟩
theorem PtAt.new (w : World) (t : S9p.Pt) (A : Option Addr) (n cap : Nat) (T : TypeId) : PtAt (w.alloc (.cells (t.cells A n cap) T)) w.heap.size t A n cap :=
  ⟨by simp [go_sem, S9p.Pt.cells], by simp [go_sem, S9p.Pt.cells], by simp [go_sem, S9p.Pt.cells], by simp [go_sem, S9p.Pt.cells], by simp [go_sem, S9p.Pt.cells], by simp [go_sem, S9p.Pt.cells], by simp [go_sem, S9p.Pt.cells], by simp [go_sem, S9p.Pt.cells]⟩

theorem ptwithin_any (n m : Int) (w : World) : Calls Tryd.prog 20 #[.int .i64 n, .int .i64 m] w fun e w' => e = .returned (.bool (S9p.win n m)) ∧ w = w' := by
  by_cases h : 0 ≤ n
  · go_enter Tryd.func20, Tryd.ntmps20
    go_wp2
    go_ret
    exact ⟨ret_bool (by simp [S9p.win, h]), rfl⟩
  · have hn : n < 0 := by omega
    go_enter Tryd.func20, Tryd.ntmps20
    go_wp2
    go_ret
    exact ⟨ret_bool (by simp [S9p.win]; omega), rfl⟩

def PtEnc (l : Bool) (t : S9p.Pt) (w : World) (e : Ending) (w' : World) : Prop :=
  ∃ A n cap, e = .returned (.tuple #[.slice A n cap, .int .i64 (S9p.chkE t)]) ∧ Sl w' A n cap (S9p.encB l t) ∧ Below w.heap.size w w' ∧ Fresh w.heap.size A









end Go.Proofs.YtkhkmgblgonfoaaDoor
