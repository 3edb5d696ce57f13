/-
  make([]byte, n) for a number n that is known from behind alone: a row of zeros of the call's own.
-/
import Derived.Test.YtkhkmgblgonfoaaQBase
import Derived.OwnWalk
namespace Go.Proofs.Ytkhkmgblgonfoaa
open Go.RowKit

theorem made_zeros (n : Nat) : (madeCells (#[Value.int .u8 0] : Array Value) (n * 1)).toList = (List.replicate n (0 : Int)).map (Value.int .u8) := by
  unfold madeCells
  apply List.ext_getElem
  · simp
  · intro k h1 h2
    simp [Nat.mod_one]

theorem wpList_makeB {w : World} {ops : Array Oper} {rest : List Oper} {o : Oper} {a : Act} {Q : Exit → Act → World → Prop} (hg : o.guard = none) (l : Operand) (hop : o.op = Op.makeSlice 26 l l) (L : Int) (n : Nat) (hl : a.eval l = .int .i64 L) (hL : L = (n : Int)) (hn : n ≤ 1000000)
    (hK : ∀ w', Sl w' (some ⟨w.heap.size, 0, none⟩) n n (List.replicate n 0) → Below w.heap.size w w' → wpList Try.prog ops Q rest (a.put o.dst (.slice (some ⟨w.heap.size, 0, none⟩) n n)) w') : wpList Try.prog ops Q (o :: rest) a w := by
  obtain ⟨i, hi, hz0, hz1, hz2⟩ := info_parts u8_infoB
  refine wpList_make_full w hg l l 26 hop w.heap.size 5 i (.int .u8 0) 1 Try.underlying26 hi hz0 hz1 .i64 .i64 L L n hl hl hL hL (by rw [hz2]; omega) (by unfold maxLen; omega) (Nat.le_refl _) (fun w' ho hg => ?_)
  have hO : Own .u8 5 w' w.heap.size (.slice (some ⟨w.heap.size, 0, none⟩) n n) (List.replicate n 0) := by
    unfold Own
    have hc : (Value.int IntKind.u8 0).cells = #[Value.int IntKind.u8 0] := rfl
    rw [hc, made_zeros] at ho
    rw [List.length_replicate]
    exact ho
  obtain ⟨A, n', c', hv, hs, _⟩ := hO.slf (by intro z hz; rw [List.eq_of_mem_replicate hz]; decide)
  cases hv
  exact hK w' hs ((Below.refl w.heap.size w).grown hg (Nat.le_refl _) (fun k e => by cases e))

end Go.Proofs.Ytkhkmgblgonfoaa
