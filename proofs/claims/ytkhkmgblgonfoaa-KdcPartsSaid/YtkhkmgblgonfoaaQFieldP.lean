/-
  PutOctet and PutShort of package field: what they return is a row of the call's own.
-/
import Derived.Test.YtkhkmgblgonfoaaQFieldO
namespace Go.Proofs.Ytkhkmgblgonfoaa
open Go.RowKit
set_option maxRecDepth 100000

set_option maxHeartbeats 1600000 in
theorem fputO_2l (A : Option Addr) (bn cap : Nat) (zs : List Int) (n : Int) (w : World) (h : Sl w A bn cap zs) (hn : bn ≤ 100000) : Calls Try.prog 67 #[.slice A bn cap, .int .i64 n, .int .i64 2, .bool true] w (OwnOut (zs ++ S5.le2 n) w) := by
  have hd := Lib.hid (S5.num2_range true n)
  replace h := Lib.hid h
  go_enter Try.func67, Try.ntmps67
  go_wp2_with (fail)
  refine wp_loop_rounds 3 ?_
  rw [rounds_succ]
  go_wp2_with ((go_at_call 89; refine (fplace_l _ _ _).mono ?_; rintro e w' ⟨rfl, rfl⟩))
  rw [rounds_succ]
  go_wp2_with ((go_at_call 89; refine (fplace_l _ _ _).mono ?_; rintro e w' ⟨rfl, rfl⟩))
  rw [rounds_succ]
  go_wp2_with (fail)
  have he : pieces [⟨A, bn, cap, zs⟩, ⟨some ⟨w.heap.size, 0, none⟩, (S5.le2 n).length, 4, S5.le2 n⟩] = zs ++ S5.le2 n := by simp [pieces]
  rw [← he]
  refine (concat_own w _ _ 2 [⟨A, bn, cap, zs⟩, ⟨some ⟨w.heap.size, 0, none⟩, (S5.le2 n).length, 4, S5.le2 n⟩] (Pieces.two (by simp [go_sem]) (by simp [go_sem, S5.le2]) (h.out.keep (((Below.refl _ _).alloc (Nat.le_refl _) _).alloc (by simp) _)).row (RowK.within hd.out ?_)) rfl (by decide) (by simp [total, S5.le2]; omega) (((Below.refl _ _).alloc (Nat.le_refl _) _).alloc (by simp) _)).mono ?_
  · intro i hi
    match i, hi with
    | 0, _ => simp [go_sem, S5.le2]; try omega
    | 1, _ => simp [go_sem, S5.le2]; try omega
  · rintro e w1 ⟨v1, rfl, ho1, hb1⟩
    go_wp2_with (fail)
    go_ret
    exact ⟨v1, rfl, ho1, hb1⟩

set_option maxHeartbeats 1600000 in
theorem fputO_2b (A : Option Addr) (bn cap : Nat) (zs : List Int) (n : Int) (w : World) (h : Sl w A bn cap zs) (hn : bn ≤ 100000) : Calls Try.prog 67 #[.slice A bn cap, .int .i64 n, .int .i64 2, .bool false] w (OwnOut (zs ++ S5.be2 n) w) := by
  have hd := Lib.hid (S5.num2_range false n)
  replace h := Lib.hid h
  go_enter Try.func67, Try.ntmps67
  go_wp2_with (fail)
  refine wp_loop_rounds 3 ?_
  rw [rounds_succ]
  go_wp2_with ((go_at_call 89; refine (fplace_b _ _ _ (by omega) (by omega) (by omega)).mono ?_; rintro e w' ⟨rfl, rfl⟩))
  rw [rounds_succ]
  go_wp2_with ((go_at_call 89; refine (fplace_b _ _ _ (by omega) (by omega) (by omega)).mono ?_; rintro e w' ⟨rfl, rfl⟩))
  rw [rounds_succ]
  go_wp2_with (fail)
  have he : pieces [⟨A, bn, cap, zs⟩, ⟨some ⟨w.heap.size, 0, none⟩, (S5.be2 n).length, 4, S5.be2 n⟩] = zs ++ S5.be2 n := by simp [pieces]
  rw [← he]
  refine (concat_own w _ _ 2 [⟨A, bn, cap, zs⟩, ⟨some ⟨w.heap.size, 0, none⟩, (S5.be2 n).length, 4, S5.be2 n⟩] (Pieces.two (by simp [go_sem]) (by simp [go_sem, S5.be2]) (h.out.keep (((Below.refl _ _).alloc (Nat.le_refl _) _).alloc (by simp) _)).row (RowK.within hd.out ?_)) rfl (by decide) (by simp [total, S5.be2]; omega) (((Below.refl _ _).alloc (Nat.le_refl _) _).alloc (by simp) _)).mono ?_
  · intro i hi
    match i, hi with
    | 0, _ => simp [go_sem, S5.be2]; try omega
    | 1, _ => simp [go_sem, S5.be2]; try omega
  · rintro e w1 ⟨v1, rfl, ho1, hb1⟩
    go_wp2_with (fail)
    go_ret
    exact ⟨v1, rfl, ho1, hb1⟩

set_option maxHeartbeats 1600000 in
theorem fputO_1b (A : Option Addr) (bn cap : Nat) (zs : List Int) (n : Int) (w : World) (h : Sl w A bn cap zs) (hn : bn ≤ 100000) : Calls Try.prog 67 #[.slice A bn cap, .int .i64 n, .int .i64 1, .bool false] w (OwnOut (zs ++ S5.num1 n) w) := by
  have hd := Lib.hid (S5.num1_range n)
  replace h := Lib.hid h
  go_enter Try.func67, Try.ntmps67
  go_wp2_with (fail)
  refine wp_loop_rounds 2 ?_
  rw [rounds_succ]
  go_wp2_with ((go_at_call 89; refine (fplace_b _ _ _ (by omega) (by omega) (by omega)).mono ?_; rintro e w' ⟨rfl, rfl⟩))
  rw [rounds_succ]
  go_wp2_with (fail)
  have he : pieces [⟨A, bn, cap, zs⟩, ⟨some ⟨w.heap.size, 0, none⟩, (S5.num1 n).length, 4, S5.num1 n⟩] = zs ++ S5.num1 n := by simp [pieces]
  rw [← he]
  refine (concat_own w _ _ 2 [⟨A, bn, cap, zs⟩, ⟨some ⟨w.heap.size, 0, none⟩, (S5.num1 n).length, 4, S5.num1 n⟩] (Pieces.two (by simp [go_sem]) (by simp [go_sem, S5.num1]) (h.out.keep (((Below.refl _ _).alloc (Nat.le_refl _) _).alloc (by simp) _)).row (RowK.within hd.out ?_)) rfl (by decide) (by simp [total, S5.num1]; omega) (((Below.refl _ _).alloc (Nat.le_refl _) _).alloc (by simp) _)).mono ?_
  · intro i hi
    match i, hi with
    | 0, _ => simp [go_sem, S5.num1]; try omega
  · rintro e w1 ⟨v1, rfl, ho1, hb1⟩
    go_wp2_with (fail)
    go_ret
    exact ⟨v1, rfl, ho1, hb1⟩

theorem fputShortO_any (A : Option Addr) (bn cap : Nat) (zs : List Int) (n : Int) (l : Bool) (w : World) (h : Sl w A bn cap zs) (hn : bn ≤ 100000) : Calls Try.prog 53 #[.slice A bn cap, .int .i64 n, .bool l] w (OwnOut (zs ++ S5.num2 l n) w) := by
  cases l
  · go_enter Try.func53, Try.ntmps53
    go_wp2_with (fail)
    refine (fputO_2b _ _ _ zs n _ h hn).mono ?_
    rintro e w1 ⟨v1, rfl, ho1, hb1⟩
    go_wp2_with (fail)
    go_ret
    exact ⟨v1, rfl, ho1, hb1⟩
  · go_enter Try.func53, Try.ntmps53
    go_wp2_with (fail)
    refine (fputO_2l _ _ _ zs n _ h hn).mono ?_
    rintro e w1 ⟨v1, rfl, ho1, hb1⟩
    go_wp2_with (fail)
    go_ret
    exact ⟨v1, rfl, ho1, hb1⟩

theorem fputOctetO_any (A : Option Addr) (bn cap : Nat) (zs : List Int) (n : Int) (w : World) (h : Sl w A bn cap zs) (hn : bn ≤ 100000) : Calls Try.prog 28 #[.slice A bn cap, .int .i64 n] w (OwnOut (zs ++ S5.num1 n) w) := by
  go_enter Try.func28, Try.ntmps28
  go_wp2_with (fail)
  refine (fputO_1b _ _ _ zs n _ h hn).mono ?_
  rintro e w1 ⟨v1, rfl, ho1, hb1⟩
  go_wp2_with (fail)
  go_ret
  exact ⟨v1, rfl, ho1, hb1⟩

end Go.Proofs.Ytkhkmgblgonfoaa
