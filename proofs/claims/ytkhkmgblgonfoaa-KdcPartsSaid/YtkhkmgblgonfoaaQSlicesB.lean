/-
  slices.Grow of a nil slice, slices.Concat of four slices of bytes; bytes.Clone.
-/
import Derived.Test.YtkhkmgblgonfoaaQBase
import Derived.LoopN
namespace Go.Proofs.Ytkhkmgblgonfoaa
open Go.RowKit
set_option maxRecDepth 100000

/-- Room for n bytes, none of them there. -/
def RoomB (w : World) (e : Ending) (w' : World) : Prop := ∃ cap, e = .returned (.slice (some ⟨w.heap.size, 0, none⟩) 0 cap) ∧ Own .u8 5 w' w.heap.size (.slice (some ⟨w.heap.size, 0, none⟩) 0 cap) [] ∧ Below w.heap.size w w'

theorem bgrow_any (n : Nat) (w : World) (n0 : 1 ≤ n) (n1 : n ≤ 500000) : Calls Try.prog 90 #[.slice none 0 0, .int .i64 n] w (RoomB w) := by
  obtain ⟨i, hi, hz0, hz1, hz2⟩ := info_parts u8_infoB
  have hr := Lib.run_append_nil_zeros (P := Try.prog) w 26 3 26 5 i (.int .u8 0) .i64 .i64 Try.underlying26 Try.underlying3 hi hz0 n n0 (by omega) (by omega) (by rw [hz2]; omega)
  have hr := Lib.hid hr
  have hge := grownCap_ge w n 0 5
  have hmx := grownCap_le_maxLen w n 0 5 (by unfold maxLen; omega)
  go_enter Try.func90, Try.ntmps90
  go_wp2_with (at_builtin; refine Lib.wpList_append_run _ rfl (.tmp 20) (.tmp 21) 26 3 rfl (.slice none 0 0) (.int .i64 n) rfl rfl _ _ hr.out ?_)
  go_ret
  refine ⟨grownCap w n 0 5, rfl, ⟨rfl, .inr ⟨w.heap.size, _, _, rfl, Nat.le_refl _, heap_alloc_new w.drew _, Nat.zero_le _, hmx, ?_, ?_⟩⟩, (Below.refl _ _).drew.alloc (Nat.le_refl _) _⟩
  · rw [Array.size_append, size_zeroCells, size_zeroCells]
    show n * 1 + (grownCap w n 0 5 - n) * 1 = grownCap w n 0 5 * 1
    omega
  · simp

/-- A slice of four slices of bytes. -/
structure Four (w : World) (g : Nat) (A1 : Option Addr) (n1 c1 : Nat) (y1 : List Int) (A2 : Option Addr) (n2 c2 : Nat) (y2 : List Int) (A3 : Option Addr) (n3 c3 : Nat) (y3 : List Int) (A4 : Option Addr) (n4 c4 : Nat) (y4 : List Int) : Prop where
  c1 : w.cell? ⟨g, 0, none⟩ = some (.slice A1 n1 c1)
  c2 : w.cell? ⟨g, 1, none⟩ = some (.slice A2 n2 c2)
  c3 : w.cell? ⟨g, 2, none⟩ = some (.slice A3 n3 c3)
  c4 : w.cell? ⟨g, 3, none⟩ = some (.slice A4 n4 c4)
  r1 : RowK .u8 w A1 n1 y1
  r2 : RowK .u8 w A2 n2 y2
  r3 : RowK .u8 w A3 n3 y3
  r4 : RowK .u8 w A4 n4 y4

/-- A new row of bytes. -/
def JoinedB (zs : List Int) (w : World) (e : Ending) (w' : World) : Prop := ∃ v, e = .returned v ∧ Own .u8 5 w' w.heap.size v zs ∧ Below w.heap.size w w'

set_option maxHeartbeats 1600000 in
theorem bconcat_any (w : World) (g : Nat) (A1 : Option Addr) (n1 c1 : Nat) (y1 : List Int) (A2 : Option Addr) (n2 c2 : Nat) (y2 : List Int) (A3 : Option Addr) (n3 c3 : Nat) (y3 : List Int) (A4 : Option Addr) (n4 c4 : Nat) (y4 : List Int) (h : Four w g A1 n1 c1 y1 A2 n2 c2 y2 A3 n3 c3 y3 A4 n4 c4 y4)
    (l0 : 1 ≤ n1 + n2 + n3 + n4) (l1 : n1 + n2 + n3 + n4 ≤ 100000) : Calls Try.prog 68 #[.slice (some ⟨g, 0, none⟩) 4 4] w (JoinedB ([] ++ y1 ++ y2 ++ y3 ++ y4) w) := by
  obtain ⟨d1, d2, d3, d4, r1, r2, r3, r4⟩ := h
  have KG := bgrow_any (n1 + n2 + n3 + n4) w l0 (by omega)
  rw [show ((n1 + n2 + n3 + n4 : Nat) : Int) = (n1 : Int) + (n2 : Int) + (n3 : Int) + (n4 : Int) by omega] at KG
  replace KG := Lib.hid KG
  have L1 := Lib.hid r1.len
  have L2 := Lib.hid r2.len
  have L3 := Lib.hid r3.len
  replace r1 := Lib.hid r1
  replace r2 := Lib.hid r2
  replace r3 := Lib.hid r3
  replace r4 := Lib.hid r4
  go_enter Try.func68, Try.ntmps68
  go_wp2
  refine wp_loop_rounds 5 ?_
  rw [rounds_succ]; go_wp2
  rw [rounds_succ]; go_wp2
  rw [rounds_succ]; go_wp2
  rw [rounds_succ]; go_wp2
  rw [rounds_succ]; go_wp2_with (fail)
  refine KG.out.mono ?_
  rintro e w1 ⟨cap, rfl, own0, B0⟩
  have f1 := cell_keep B0 d1
  have f2 := cell_keep B0 d2
  have f3 := cell_keep B0 d3
  have f4 := cell_keep B0 d4
  go_wp2_with (fail)
  refine wp_loop_rounds 5 ?_
  rw [rounds_succ]
  go_wp2_with (at_builtin; refine wpList_push_row rfl (.tmp 31) (.tmp 32) 26 rfl Try.underlying26 u8_infoB (base := w.heap.size) (v := .slice (some ⟨w.heap.size, 0, none⟩) 0 cap) (zs := []) (ys := y1) (A := A1) (m := n1) (c := c1) rfl rfl own0 (r1.out.keep B0) (by simp; omega) (by decide) B0.size ?_; intro v2 w2 own2 hg2 _)
  have B2 := Own.grown B0 own0 hg2
  clear hg2 own0 f1 f2 f3 f4
  have f2 := cell_keep B2 d2
  have f3 := cell_keep B2 d3
  have f4 := cell_keep B2 d4
  rw [rounds_succ]
  go_wp2_with (at_builtin; refine wpList_push_row rfl (.tmp 31) (.tmp 32) 26 rfl Try.underlying26 u8_infoB (base := w.heap.size) (v := v2) (zs := [] ++ y1) (ys := y2) (A := A2) (m := n2) (c := c2) rfl rfl own2 (r2.out.keep B2) (by simp [L1.out]; omega) (by decide) B2.size ?_; intro v3 w3 own3 hg3 _)
  have B3 := Own.grown B2 own2 hg3
  clear hg3 own2 f2 f3 f4
  have f3 := cell_keep B3 d3
  have f4 := cell_keep B3 d4
  rw [rounds_succ]
  go_wp2_with (at_builtin; refine wpList_push_row rfl (.tmp 31) (.tmp 32) 26 rfl Try.underlying26 u8_infoB (base := w.heap.size) (v := v3) (zs := [] ++ y1 ++ y2) (ys := y3) (A := A3) (m := n3) (c := c3) rfl rfl own3 (r3.out.keep B3) (by simp [L1.out, L2.out]; omega) (by decide) B3.size ?_; intro v4 w4 own4 hg4 _)
  have B4 := Own.grown B3 own3 hg4
  clear hg4 own3 f3 f4
  have f4 := cell_keep B4 d4
  rw [rounds_succ]
  go_wp2_with (at_builtin; refine wpList_push_row rfl (.tmp 31) (.tmp 32) 26 rfl Try.underlying26 u8_infoB (base := w.heap.size) (v := v4) (zs := [] ++ y1 ++ y2 ++ y3) (ys := y4) (A := A4) (m := n4) (c := c4) rfl rfl own4 (r4.out.keep B4) (by simp [L1.out, L2.out, L3.out]; omega) (by decide) B4.size ?_; intro v5 w5 own5 hg5 _)
  have B5 := Own.grown B4 own4 hg5
  clear hg5 own4 f4
  rw [rounds_succ]
  go_wp2_with (fail)
  go_ret
  exact ⟨v5, rfl, own5, B5⟩

/-- A copy of a slice of bytes that lies somewhere. -/
theorem bclone_any (b off n cap : Nat) (zs : List Int) (w : World) (h : RowK .u8 w (some ⟨b, off, none⟩) n zs) (hl : n ≤ 100000) : Calls Try.prog 99 #[.slice (some ⟨b, off, none⟩) n cap] w (JoinedB zs w) := by
  replace h := Lib.hid h
  have hq : ∀ w, (binOp .eql 26 (.slice (some ⟨b, off, none⟩) n cap) (.slice none 0 0)).run Try.prog w = .ok (.bool false) w := fun _ => by kernel_rfl
  go_enter Try.func99, Try.ntmps99
  go_wp2_with (at_builtin; refine wpList_push_row rfl (.tmp 5) (.tmp 6) 26 rfl Try.underlying26 u8_infoB (base := w.heap.size) (v := .slice (some ⟨w.heap.size, 0, none⟩) 0 0) (zs := []) (ys := zs) (A := some ⟨b, off, none⟩) (m := n) (c := cap) rfl rfl (Own.new .u8 _ (Nat.le_refl _) [] (by decide)) (h.out.keep ((Below.refl _ _).alloc (Nat.le_refl _) _)) (by simp; omega) (by decide) (by simp) ?_; intro v2 w2 own2 hg2 _)
  go_ret
  exact ⟨v2, rfl, by simpa using own2, Own.grown ((Below.refl _ _).alloc (Nat.le_refl _) _) (Own.new .u8 _ (Nat.le_refl _) [] (by decide)) hg2⟩

end Go.Proofs.Ytkhkmgblgonfoaa
