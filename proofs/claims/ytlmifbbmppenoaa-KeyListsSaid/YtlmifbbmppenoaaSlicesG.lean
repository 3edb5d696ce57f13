/-
  slices.Grow of a nil slice, slices.Concat of three slices of keys.
-/
import Derived.Test.YtlmifbbmppenoaaPush
import Derived.LoopN
namespace Go.Proofs.Ytlmifbbmppenoaa
open Go.RowKit

theorem key_infoG : (Try.prog.info? 24).map (fun i => (i.zero, i.size, i.bytes)) = some (some (.int .u64 0), 1, 8) := by kernel_rfl

/-- Room for n numbers, none of them there. -/
def Room (w : World) (e : Ending) (w' : World) : Prop := ∃ cap, e = .returned (.slice (some ⟨w.heap.size, 0, none⟩) 0 cap) ∧ Own .u64 24 w' w.heap.size (.slice (some ⟨w.heap.size, 0, none⟩) 0 cap) [] ∧ Below w.heap.size w w'

theorem kgrow_any (n : Nat) (w : World) (n0 : 1 ≤ n) (n1 : n ≤ 100000) : Calls Try.prog 40 #[.slice none 0 0, .int .i64 n] w (Room w) := by
  obtain ⟨i, hi, hz0, hz1, hz2⟩ := info_parts key_infoG
  have hr := Lib.run_append_nil_zeros (P := Try.prog) w 33 3 33 24 i (.int .u64 0) .i64 .i64 Try.underlying33 Try.underlying3 hi hz0 n n0 (by omega) (by omega) (by rw [hz2]; omega)
  have hr := Lib.hid hr
  have hge := grownCap_ge w n 0 24
  have hmx := grownCap_le_maxLen w n 0 24 (by unfold maxLen; omega)
  go_enter Try.func40, Try.ntmps40
  go_wp2_with (at_builtin; refine Lib.wpList_append_run _ rfl (.tmp 20) (.tmp 21) 33 3 rfl (.slice none 0 0) (.int .i64 n) rfl rfl _ _ hr.out ?_)
  go_ret
  refine ⟨grownCap w n 0 24, rfl, ⟨rfl, .inr ⟨w.heap.size, _, _, rfl, Nat.le_refl _, heap_alloc_new w.drew _, Nat.zero_le _, hmx, ?_, ?_⟩⟩, (Below.refl _ _).drew.alloc (Nat.le_refl _) _⟩
  · rw [Array.size_append, size_zeroCells, size_zeroCells]
    show n * 1 + (grownCap w n 0 24 - n) * 1 = grownCap w n 0 24 * 1
    omega
  · simp

/-- A slice of three slices of keys. -/
structure Three (w : World) (g : Nat) (A1 : Option Addr) (n1 c1 : Nat) (y1 : List Int) (A2 : Option Addr) (n2 c2 : Nat) (y2 : List Int) (A3 : Option Addr) (n3 c3 : Nat) (y3 : List Int) : Prop where
  c1 : w.cell? ⟨g, 0, none⟩ = some (.slice A1 n1 c1)
  c2 : w.cell? ⟨g, 1, none⟩ = some (.slice A2 n2 c2)
  c3 : w.cell? ⟨g, 2, none⟩ = some (.slice A3 n3 c3)
  r1 : RowK .u64 w A1 n1 y1
  r2 : RowK .u64 w A2 n2 y2
  r3 : RowK .u64 w A3 n3 y3

/-- A new row of keys. -/
def Joined (zs : List Int) (w : World) (e : Ending) (w' : World) : Prop := ∃ v, e = .returned v ∧ Own .u64 24 w' w.heap.size v zs ∧ Below w.heap.size w w'

set_option maxHeartbeats 1600000 in
theorem kconcat_any (w : World) (g : Nat) (A1 : Option Addr) (n1 c1 : Nat) (y1 : List Int) (A2 : Option Addr) (n2 c2 : Nat) (y2 : List Int) (A3 : Option Addr) (n3 c3 : Nat) (y3 : List Int) (h : Three w g A1 n1 c1 y1 A2 n2 c2 y2 A3 n3 c3 y3)
    (l0 : 1 ≤ n1 + n2 + n3) (l1 : n1 + n2 + n3 ≤ 100000) : Calls Try.prog 34 #[.slice (some ⟨g, 0, none⟩) 3 3] w (Joined ([] ++ y1 ++ y2 ++ y3) w) := by
  obtain ⟨d1, d2, d3, r1, r2, r3⟩ := h
  have KG := kgrow_any (n1 + n2 + n3) w l0 l1
  rw [show ((n1 + n2 + n3 : Nat) : Int) = (n1 : Int) + (n2 : Int) + (n3 : Int) by omega] at KG
  replace KG := Lib.hid KG
  have L1 := Lib.hid r1.len
  have L2 := Lib.hid r2.len
  replace r1 := Lib.hid r1
  replace r2 := Lib.hid r2
  replace r3 := Lib.hid r3
  go_enter Try.func34, Try.ntmps34
  go_wp2
  refine wp_loop_rounds 4 ?_
  rw [rounds_succ]; go_wp2
  rw [rounds_succ]; go_wp2
  rw [rounds_succ]; go_wp2
  rw [rounds_succ]; go_wp2_with (fail)
  refine KG.out.mono ?_
  rintro e w1 ⟨cap, rfl, own0, B0⟩
  have f1 := cell_keep B0 d1
  have f2 := cell_keep B0 d2
  have f3 := cell_keep B0 d3
  go_wp2_with (fail)
  refine wp_loop_rounds 4 ?_
  rw [rounds_succ]
  go_wp2_with (at_builtin; refine wpList_push_row rfl (.tmp 31) (.tmp 32) 33 rfl Try.underlying33 key_infoG (base := w.heap.size) (v := .slice (some ⟨w.heap.size, 0, none⟩) 0 cap) (zs := []) (ys := y1) (A := A1) (m := n1) (c := c1) rfl rfl own0 (r1.out.keep B0) (by simp; omega) (by decide) B0.size ?_; intro v2 w2 own2 hg2 _)
  have B2 := Own.grown B0 own0 hg2
  clear hg2 own0 f1 f2 f3
  have f2 := cell_keep B2 d2
  have f3 := cell_keep B2 d3
  rw [rounds_succ]
  go_wp2_with (at_builtin; refine wpList_push_row rfl (.tmp 31) (.tmp 32) 33 rfl Try.underlying33 key_infoG (base := w.heap.size) (v := v2) (zs := [] ++ y1) (ys := y2) (A := A2) (m := n2) (c := c2) rfl rfl own2 (r2.out.keep B2) (by simp [L1.out]; omega) (by decide) B2.size ?_; intro v3 w3 own3 hg3 _)
  have B3 := Own.grown B2 own2 hg3
  clear hg3 own2 f2 f3
  have f3 := cell_keep B3 d3
  rw [rounds_succ]
  go_wp2_with (at_builtin; refine wpList_push_row rfl (.tmp 31) (.tmp 32) 33 rfl Try.underlying33 key_infoG (base := w.heap.size) (v := v3) (zs := [] ++ y1 ++ y2) (ys := y3) (A := A3) (m := n3) (c := c3) rfl rfl own3 (r3.out.keep B3) (by simp [L1.out, L2.out]; omega) (by decide) B3.size ?_; intro v4 w4 own4 hg4 _)
  have B4 := Own.grown B3 own3 hg4
  clear hg4 own3 f3
  rw [rounds_succ]
  go_wp2_with (fail)
  go_ret
  exact ⟨v4, rfl, own4, B4⟩

end Go.Proofs.Ytlmifbbmppenoaa
