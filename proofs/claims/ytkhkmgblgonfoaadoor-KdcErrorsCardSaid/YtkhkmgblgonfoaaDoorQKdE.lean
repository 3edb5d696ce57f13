/-
  Error replies in memory; the texts of codes have a length.
-/
import Derived.Test.YtkhkmgblgonfoaaDoorQKdTab
import Derived.Test.YtkhkmgblgonfoaaDoorQKdA
import Derived.Test.YtkhkmgblgonfoaaDoorQMsgR
namespace Go.Proofs.YtkhkmgblgonfoaaDoor
open Go.RowKit
set_option maxRecDepth 100000

theorem msgS_size (n : Int) : (msgS n).size ≤ maxLen := by
  unfold msgS
  split
  · decide
  · have hways : n = 1 ∨ n = 2 ∨ n = 3 ∨ n = 4 ∨ n = 5 ∨ n = 6 ∨ n = 7 ∨ n = 8 ∨ n = 9 ∨ n = 10 := by omega
    rcases hways with rfl | rfl | rfl | rfl | rfl | rfl | rfl | rfl | rfl | rfl <;> decide

def erL (t : S9e.Er) : List Value := [.bool t.l, .string t.a, .string t.b, .string t.c, .int .i64 t.tm, .int .i64 t.co, .string t.s]
theorem ErAt.ofL {w : World} {g : Nat} {t : S9e.Er} (h : BoxAt w g (erL t)) : ErAt w g t := ⟨h.c 0 _ rfl, h.c 1 _ rfl, h.c 2 _ rfl, h.c 3 _ rfl, h.c 4 _ rfl, h.c 5 _ rfl, h.c 6 _ rfl⟩
def SomeEr (w : World) (v : Value) : Prop := ∃ T y, v = .pointer (some ⟨T, 0, none⟩) ∧ y.Fit ∧ ErAt w T y

end Go.Proofs.YtkhkmgblgonfoaaDoor
