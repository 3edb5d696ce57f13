/-
  The example that the laws of chapter 8 try first.
-/
import Derived.Test.YtdhjhpmbgfefbaaHdCode
namespace Go.Proofs.Ytdhjhpmbgfefbaa
open Go.RowKit
set_option maxRecDepth 100000

theorem awake8_any (w : World) : Calls Try.prog 6 #[] w fun e w' => e = .returned (.bool true) ∧ Below w.heap.size w w' := by
  have K := Lib.hid (hput_any 3 true w)
  go_enter Try.func6, Try.ntmps6
  go_wp2_with (fail)
  refine K.out.mono ?_
  rintro e w1 ⟨A, m, c, rfl, hs, hb, _⟩
  have hl := hs.len
  have e : S8.put 3 true = [4, 7] := by decide
  rw [e] at hs hl
  obtain rfl : m = 2 := hl.symm
  obtain ⟨b, off, x, y, r, rfl, hz, _, _, dx, dy⟩ := first_two hs (by omega)
  cases hz
  have lx := cell_lt dx
  have ly := cell_lt dy
  clear hs hl e
  go_wp2_with (fail)
  go_ret
  exact ⟨rfl, hb⟩

/-- A row that was just built, with its bytes. -/
theorem Sl.built (W : World) (zs : List Int) (hz : ∀ z ∈ zs, 0 ≤ z ∧ z ≤ 255) (hl : zs.length ≤ 1000) : Sl (W.alloc (.cells (zs.map (Value.int .u8)).toArray 5)) (some ⟨W.heap.size, 0, none⟩) zs.length zs.length zs := by
  obtain ⟨A, n, c, h, hs, _⟩ := built_out W W zs hz hl (Below.refl _ _)
  cases h
  exact hs

end Go.Proofs.Ytdhjhpmbgfefbaa
