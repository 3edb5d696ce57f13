/-
  PutNumber of package field: what it returns is a row of the call's own.
-/
import Derived.Test.YtkhkmgblgonfoaaQFieldA
namespace Go.Proofs.Ytkhkmgblgonfoaa
open Go.RowKit
set_option maxRecDepth 100000

theorem concat_own (w W : World) (g m : Nat) (ps : List Piece) (h : Pieces W g ps) (hm : ps.length = m) (m1 : m ≤ 100) (l1 : total ps ≤ 500000) (B : Below w.heap.size w W) : Calls Try.prog 68 #[.slice (some ⟨g, 0, none⟩) m m] W (OwnOut (pieces ps) w) :=
  (concat_any W g m ps h hm m1 l1).mono fun _ _ ⟨v, he, ho, hb⟩ => ⟨v, he, ho.base B.size, below_keep hb B⟩

set_option maxHeartbeats 1600000 in
theorem fputO_4l (A : Option Addr) (bn cap : Nat) (zs : List Int) (n : Int) (w : World) (h : Sl w A bn cap zs) (hn : bn ≤ 100000) : Calls Try.prog 67 #[.slice A bn cap, .int .i64 n, .int .i64 4, .bool true] w (OwnOut (zs ++ S5.le4 n) w) := by
  have hd := Lib.hid (S5.num4_range true n)
  replace h := Lib.hid h
  go_enter Try.func67, Try.ntmps67
  go_wp2_with (fail)
  refine wp_loop_rounds 5 ?_
  rw [rounds_succ]
  go_wp2_with ((go_at_call 89; refine (fplace_l _ _ _).mono ?_; rintro e w' ⟨rfl, rfl⟩))
  rw [rounds_succ]
  go_wp2_with ((go_at_call 89; refine (fplace_l _ _ _).mono ?_; rintro e w' ⟨rfl, rfl⟩))
  rw [rounds_succ]
  go_wp2_with ((go_at_call 89; refine (fplace_l _ _ _).mono ?_; rintro e w' ⟨rfl, rfl⟩))
  rw [rounds_succ]
  go_wp2_with ((go_at_call 89; refine (fplace_l _ _ _).mono ?_; rintro e w' ⟨rfl, rfl⟩))
  rw [rounds_succ]
  go_wp2_with (fail)
  have he : pieces [⟨A, bn, cap, zs⟩, ⟨some ⟨w.heap.size, 0, none⟩, (S5.le4 n).length, 4, S5.le4 n⟩] = zs ++ S5.le4 n := by simp [pieces]
  rw [← he]
  refine (concat_own w _ _ 2 [⟨A, bn, cap, zs⟩, ⟨some ⟨w.heap.size, 0, none⟩, (S5.le4 n).length, 4, S5.le4 n⟩] (Pieces.two (by simp [go_sem]) (by simp [go_sem, S5.le4]) (h.out.keep (((Below.refl _ _).alloc (Nat.le_refl _) _).alloc (by simp) _)).row (RowK.within hd.out ?_)) rfl (by decide) (by simp [total, S5.le4]; omega) (((Below.refl _ _).alloc (Nat.le_refl _) _).alloc (by simp) _)).mono ?_
  · intro i hi
    match i, hi with
    | 0, _ => simp [go_sem, S5.le4]; try omega
    | 1, _ => simp [go_sem, S5.le4]; try omega
    | 2, _ => simp [go_sem, S5.le4]; try omega
    | 3, _ => simp [go_sem, S5.le4]; try omega
  · rintro e w1 ⟨v1, rfl, ho1, hb1⟩
    go_wp2_with (fail)
    go_ret
    exact ⟨v1, rfl, ho1, hb1⟩

set_option maxHeartbeats 1600000 in
theorem fputO_4b (A : Option Addr) (bn cap : Nat) (zs : List Int) (n : Int) (w : World) (h : Sl w A bn cap zs) (hn : bn ≤ 100000) : Calls Try.prog 67 #[.slice A bn cap, .int .i64 n, .int .i64 4, .bool false] w (OwnOut (zs ++ S5.be4 n) w) := by
  have hd := Lib.hid (S5.num4_range false n)
  replace h := Lib.hid h
  go_enter Try.func67, Try.ntmps67
  go_wp2_with (fail)
  refine wp_loop_rounds 5 ?_
  rw [rounds_succ]
  go_wp2_with ((go_at_call 89; refine (fplace_b _ _ _ (by omega) (by omega) (by omega)).mono ?_; rintro e w' ⟨rfl, rfl⟩))
  rw [rounds_succ]
  go_wp2_with ((go_at_call 89; refine (fplace_b _ _ _ (by omega) (by omega) (by omega)).mono ?_; rintro e w' ⟨rfl, rfl⟩))
  rw [rounds_succ]
  go_wp2_with ((go_at_call 89; refine (fplace_b _ _ _ (by omega) (by omega) (by omega)).mono ?_; rintro e w' ⟨rfl, rfl⟩))
  rw [rounds_succ]
  go_wp2_with ((go_at_call 89; refine (fplace_b _ _ _ (by omega) (by omega) (by omega)).mono ?_; rintro e w' ⟨rfl, rfl⟩))
  rw [rounds_succ]
  go_wp2_with (fail)
  have he : pieces [⟨A, bn, cap, zs⟩, ⟨some ⟨w.heap.size, 0, none⟩, (S5.be4 n).length, 4, S5.be4 n⟩] = zs ++ S5.be4 n := by simp [pieces]
  rw [← he]
  refine (concat_own w _ _ 2 [⟨A, bn, cap, zs⟩, ⟨some ⟨w.heap.size, 0, none⟩, (S5.be4 n).length, 4, S5.be4 n⟩] (Pieces.two (by simp [go_sem]) (by simp [go_sem, S5.be4]) (h.out.keep (((Below.refl _ _).alloc (Nat.le_refl _) _).alloc (by simp) _)).row (RowK.within hd.out ?_)) rfl (by decide) (by simp [total, S5.be4]; omega) (((Below.refl _ _).alloc (Nat.le_refl _) _).alloc (by simp) _)).mono ?_
  · intro i hi
    match i, hi with
    | 0, _ => simp [go_sem, S5.be4]; try omega
    | 1, _ => simp [go_sem, S5.be4]; try omega
    | 2, _ => simp [go_sem, S5.be4]; try omega
    | 3, _ => simp [go_sem, S5.be4]; try omega
  · rintro e w1 ⟨v1, rfl, ho1, hb1⟩
    go_wp2_with (fail)
    go_ret
    exact ⟨v1, rfl, ho1, hb1⟩

theorem fputNumberO_any (A : Option Addr) (bn cap : Nat) (zs : List Int) (n : Int) (l : Bool) (w : World) (h : Sl w A bn cap zs) (hn : bn ≤ 100000) : Calls Try.prog 27 #[.slice A bn cap, .int .i64 n, .bool l] w (OwnOut (zs ++ S5.num4 l n) w) := by
  cases l
  · go_enter Try.func27, Try.ntmps27
    go_wp2_with (fail)
    refine (fputO_4b _ _ _ zs n _ h hn).mono ?_
    rintro e w1 ⟨v1, rfl, ho1, hb1⟩
    go_wp2_with (fail)
    go_ret
    exact ⟨v1, rfl, ho1, hb1⟩
  · go_enter Try.func27, Try.ntmps27
    go_wp2_with (fail)
    refine (fputO_4l _ _ _ zs n _ h hn).mono ?_
    rintro e w1 ⟨v1, rfl, ho1, hb1⟩
    go_wp2_with (fail)
    go_ret
    exact ⟨v1, rfl, ho1, hb1⟩

end Go.Proofs.Ytkhkmgblgonfoaa
