/-
  What PutPrincipal of the document's answer for fields returns.
-/
import Derived.Test.YtkhkmgblgonfoaaQFieldR
import Derived.Deep.RegionHeld3
namespace Go.Proofs.Ytkhkmgblgonfoaa
open Go.RowKit

set_option maxHeartbeats 1600000 in
theorem r5putPrincipal_any (A : Option Addr) (bn cap : Nat) (zs : List Int) (a b c : ByteArray) (w : World) (h : Sl w A bn cap zs) (hn : bn ≤ 10000) (ha : a.size ≤ 10000) (hb : b.size ≤ 10000) (hc : c.size ≤ 10000) :
    Calls Try.prog 34 #[.slice A bn cap, .agg #[.string a, .string b, .string c]] w (BytesOut (zs ++ S5.three (nums a) (nums b) (nums c)) w) := by
  have hl := Lib.hid h.len
  have B1 : Below w.heap.size w (w.alloc (.cells #[.string a, .string b, .string c] 23)) := (Below.refl _ _).alloc (Nat.le_refl _) _
  have c0 : (w.alloc (.cells #[.string a, .string b, .string c] 23)).cell? ⟨w.heap.size, 0, none⟩ = some (.string a) := by simp [go_sem]
  have c1 : (w.alloc (.cells #[.string a, .string b, .string c] 23)).cell? ⟨w.heap.size, 1, none⟩ = some (.string b) := by simp [go_sem]
  have c2 : (w.alloc (.cells #[.string a, .string b, .string c] 23)).cell? ⟨w.heap.size, 2, none⟩ = some (.string c) := by simp [go_sem]
  have h1 := Lib.hid (h.keep B1)
  go_enter Try.func34, Try.ntmps34
  go_wp2_with (fail)
  generalize (w.alloc (.cells #[.string a, .string b, .string c] 23)) = w1 at *
  have P1 := Lib.hid (fun (W : World) (hb : Below w1.heap.size w1 W) => r5putText_any A bn cap zs a W (h1.out.keep hb) (by omega) (by omega))
  go_region_held3 (fun W => Below w1.heap.size w1 W ∧ W.cell? ⟨w.heap.size, 0, none⟩ = some (.string a) ∧ W.cell? ⟨w.heap.size, 1, none⟩ = some (.string b) ∧ W.cell? ⟨w.heap.size, 2, none⟩ = some (.string c))
    (first | (go_keep; done) | ((repeat' apply And.intro) <;> first | (go_keep; done) | exact (Below.refl _ _).drew | exact below_keep hb6 (by go_keep) | exact cell_keep hb6 (by go_keep) | exact below_keep hb5 (by go_keep) | exact cell_keep hb5 (by go_keep) | exact below_keep hb4 (by go_keep) | exact cell_keep hb4 (by go_keep)))
    (first
      | (go_at_call 38; refine (r5putText_any _ _ _ _ c _ hs5 (by have := hs5.len; simp [S5.text, nums_len, hl.out] at this; omega) (by omega)).mono ?_; rintro e w6 ⟨A6, n6, c6, rfl, hs6, hb6, hf6⟩)
      | (go_at_call 38; refine (r5putText_any _ _ _ _ b _ hs4 (by have := hs4.len; simp [S5.text, nums_len, hl.out] at this; omega) (by omega)).mono ?_; rintro e w5 ⟨A5, n5, c5, rfl, hs5, hb5, hf5⟩)
      | (go_at_call 38; refine (P1.out _ ?_).mono ?_; exact And.left ‹Below w1.heap.size w1 _ ∧ _›; rintro e w4 ⟨A4, n4, c4, rfl, hs4, hb4, hf4⟩))
  have hS := And.left ‹Below w1.heap.size w1 w6 ∧ _›
  have he : zs ++ S5.text (nums a) ++ S5.text (nums b) ++ S5.text (nums c) = zs ++ S5.three (nums a) (nums b) (nums c) := by simp [S5.three]
  rw [he] at hs6
  have hfr := hf6.le (Nat.le_trans B1.size (Nat.le_trans hb4.size hb5.size))
  replace hs6 := Lib.hid hs6
  clear c0 c1 c2 hs4 hs5 hb4 hb5 hb6
  go_wp2_with (fail)
  go_ret
  exact ⟨A6, n6, c6, rfl, hs6.out, below_keep hS B1, hfr⟩

end Go.Proofs.Ytkhkmgblgonfoaa
