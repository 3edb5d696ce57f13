/-
  What place and put of package field return.
-/
import Derived.Test.YtkhkmgblgonfoaaQConcat
import Derived.Test.YtkhkmgblgonfoaaQFieldPlain
import Derived.Test.YtkhkmgblgonfoaaQFieldR
import Derived.Lib.ConvBytes
import Derived.Deep.RegionHeld3
namespace Go.Proofs.Ytkhkmgblgonfoaa
open Go.RowKit

theorem fplace_l (i n : Int) (w : World) : Calls Try.prog 89 #[.int .i64 i, .int .i64 n, .bool true] w fun e w' => e = .returned (.int .i64 i) ∧ w = w' := by
  go_enter Try.func89, Try.ntmps89
  go_wp2
  go_ret
  exact ⟨rfl, rfl⟩
theorem fplace_b (i n : Int) (w : World) (h0 : 0 ≤ i) (h1 : i < n) (h2 : n ≤ 100) : Calls Try.prog 89 #[.int .i64 i, .int .i64 n, .bool false] w fun e w' => e = .returned (.int .i64 (n - 1 - i)) ∧ w = w' := by
  go_enter Try.func89, Try.ntmps89
  go_wp2
  go_ret
  exact ⟨rfl, rfl⟩

set_option maxHeartbeats 1600000 in
theorem fput_4l (A : Option Addr) (bn cap : Nat) (zs : List Int) (n : Int) (w : World) (h : Sl w A bn cap zs) (hn : bn ≤ 100000) : Calls Try.prog 67 #[.slice A bn cap, .int .i64 n, .int .i64 4, .bool true] w (BytesOut (zs ++ S5.le4 n) w) := by
  have hd := Lib.hid (S5.num4_range true n)
  replace h := Lib.hid h
  go_enter Try.func67, Try.ntmps67
  go_wp2_with (fail)
  refine wp_loop_rounds 5 ?_
  rw [rounds_succ]
  go_wp2_with ((go_at_call 89; refine (fplace_l _ _ _).mono ?_; rintro e w' ⟨rfl, rfl⟩))
  rw [rounds_succ]
  go_wp2_with ((go_at_call 89; refine (fplace_l _ _ _).mono ?_; rintro e w' ⟨rfl, rfl⟩))
  rw [rounds_succ]
  go_wp2_with ((go_at_call 89; refine (fplace_l _ _ _).mono ?_; rintro e w' ⟨rfl, rfl⟩))
  rw [rounds_succ]
  go_wp2_with ((go_at_call 89; refine (fplace_l _ _ _).mono ?_; rintro e w' ⟨rfl, rfl⟩))
  rw [rounds_succ]
  go_wp2_with (fail)
  have he : pieces [⟨A, bn, cap, zs⟩, ⟨some ⟨w.heap.size, 0, none⟩, (S5.le4 n).length, 4, S5.le4 n⟩] = zs ++ S5.le4 n := by simp [pieces]
  rw [← he]
  refine (concat_out w _ _ 2 [⟨A, bn, cap, zs⟩, ⟨some ⟨w.heap.size, 0, none⟩, (S5.le4 n).length, 4, S5.le4 n⟩] (Pieces.two (by simp [go_sem]) (by simp [go_sem, S5.le4]) (h.out.keep (((Below.refl _ _).alloc (Nat.le_refl _) _).alloc (by simp) _)).row (RowK.within hd.out ?_)) rfl (by decide) (by simp [total, S5.le4]; omega) (((Below.refl _ _).alloc (Nat.le_refl _) _).alloc (by simp) _)).mono ?_
  · intro i hi
    match i, hi with
    | 0, _ => simp [go_sem, S5.le4]; try omega
    | 1, _ => simp [go_sem, S5.le4]; try omega
    | 2, _ => simp [go_sem, S5.le4]; try omega
    | 3, _ => simp [go_sem, S5.le4]; try omega
  · rintro e w1 ⟨A1, n1, c1, rfl, hs1, hb1, hf1⟩
    go_wp2_with (fail)
    go_ret
    exact ⟨A1, n1, c1, rfl, hs1, hb1, hf1⟩

set_option maxHeartbeats 1600000 in
theorem fput_4b (A : Option Addr) (bn cap : Nat) (zs : List Int) (n : Int) (w : World) (h : Sl w A bn cap zs) (hn : bn ≤ 100000) : Calls Try.prog 67 #[.slice A bn cap, .int .i64 n, .int .i64 4, .bool false] w (BytesOut (zs ++ S5.be4 n) w) := by
  have hd := Lib.hid (S5.num4_range false n)
  replace h := Lib.hid h
  go_enter Try.func67, Try.ntmps67
  go_wp2_with (fail)
  refine wp_loop_rounds 5 ?_
  rw [rounds_succ]
  go_wp2_with ((go_at_call 89; refine (fplace_b _ _ _ (by omega) (by omega) (by omega)).mono ?_; rintro e w' ⟨rfl, rfl⟩))
  rw [rounds_succ]
  go_wp2_with ((go_at_call 89; refine (fplace_b _ _ _ (by omega) (by omega) (by omega)).mono ?_; rintro e w' ⟨rfl, rfl⟩))
  rw [rounds_succ]
  go_wp2_with ((go_at_call 89; refine (fplace_b _ _ _ (by omega) (by omega) (by omega)).mono ?_; rintro e w' ⟨rfl, rfl⟩))
  rw [rounds_succ]
  go_wp2_with ((go_at_call 89; refine (fplace_b _ _ _ (by omega) (by omega) (by omega)).mono ?_; rintro e w' ⟨rfl, rfl⟩))
  rw [rounds_succ]
  go_wp2_with (fail)
  have he : pieces [⟨A, bn, cap, zs⟩, ⟨some ⟨w.heap.size, 0, none⟩, (S5.be4 n).length, 4, S5.be4 n⟩] = zs ++ S5.be4 n := by simp [pieces]
  rw [← he]
  refine (concat_out w _ _ 2 [⟨A, bn, cap, zs⟩, ⟨some ⟨w.heap.size, 0, none⟩, (S5.be4 n).length, 4, S5.be4 n⟩] (Pieces.two (by simp [go_sem]) (by simp [go_sem, S5.be4]) (h.out.keep (((Below.refl _ _).alloc (Nat.le_refl _) _).alloc (by simp) _)).row (RowK.within hd.out ?_)) rfl (by decide) (by simp [total, S5.be4]; omega) (((Below.refl _ _).alloc (Nat.le_refl _) _).alloc (by simp) _)).mono ?_
  · intro i hi
    match i, hi with
    | 0, _ => simp [go_sem, S5.be4]; try omega
    | 1, _ => simp [go_sem, S5.be4]; try omega
    | 2, _ => simp [go_sem, S5.be4]; try omega
    | 3, _ => simp [go_sem, S5.be4]; try omega
  · rintro e w1 ⟨A1, n1, c1, rfl, hs1, hb1, hf1⟩
    go_wp2_with (fail)
    go_ret
    exact ⟨A1, n1, c1, rfl, hs1, hb1, hf1⟩

set_option maxHeartbeats 1600000 in
theorem fput_2l (A : Option Addr) (bn cap : Nat) (zs : List Int) (n : Int) (w : World) (h : Sl w A bn cap zs) (hn : bn ≤ 100000) : Calls Try.prog 67 #[.slice A bn cap, .int .i64 n, .int .i64 2, .bool true] w (BytesOut (zs ++ S5.le2 n) w) := by
  have hd := Lib.hid (S5.num2_range true n)
  replace h := Lib.hid h
  go_enter Try.func67, Try.ntmps67
  go_wp2_with (fail)
  refine wp_loop_rounds 3 ?_
  rw [rounds_succ]
  go_wp2_with ((go_at_call 89; refine (fplace_l _ _ _).mono ?_; rintro e w' ⟨rfl, rfl⟩))
  rw [rounds_succ]
  go_wp2_with ((go_at_call 89; refine (fplace_l _ _ _).mono ?_; rintro e w' ⟨rfl, rfl⟩))
  rw [rounds_succ]
  go_wp2_with (fail)
  have he : pieces [⟨A, bn, cap, zs⟩, ⟨some ⟨w.heap.size, 0, none⟩, (S5.le2 n).length, 4, S5.le2 n⟩] = zs ++ S5.le2 n := by simp [pieces]
  rw [← he]
  refine (concat_out w _ _ 2 [⟨A, bn, cap, zs⟩, ⟨some ⟨w.heap.size, 0, none⟩, (S5.le2 n).length, 4, S5.le2 n⟩] (Pieces.two (by simp [go_sem]) (by simp [go_sem, S5.le2]) (h.out.keep (((Below.refl _ _).alloc (Nat.le_refl _) _).alloc (by simp) _)).row (RowK.within hd.out ?_)) rfl (by decide) (by simp [total, S5.le2]; omega) (((Below.refl _ _).alloc (Nat.le_refl _) _).alloc (by simp) _)).mono ?_
  · intro i hi
    match i, hi with
    | 0, _ => simp [go_sem, S5.le2]; try omega
    | 1, _ => simp [go_sem, S5.le2]; try omega
  · rintro e w1 ⟨A1, n1, c1, rfl, hs1, hb1, hf1⟩
    go_wp2_with (fail)
    go_ret
    exact ⟨A1, n1, c1, rfl, hs1, hb1, hf1⟩

set_option maxHeartbeats 1600000 in
theorem fput_2b (A : Option Addr) (bn cap : Nat) (zs : List Int) (n : Int) (w : World) (h : Sl w A bn cap zs) (hn : bn ≤ 100000) : Calls Try.prog 67 #[.slice A bn cap, .int .i64 n, .int .i64 2, .bool false] w (BytesOut (zs ++ S5.be2 n) w) := by
  have hd := Lib.hid (S5.num2_range false n)
  replace h := Lib.hid h
  go_enter Try.func67, Try.ntmps67
  go_wp2_with (fail)
  refine wp_loop_rounds 3 ?_
  rw [rounds_succ]
  go_wp2_with ((go_at_call 89; refine (fplace_b _ _ _ (by omega) (by omega) (by omega)).mono ?_; rintro e w' ⟨rfl, rfl⟩))
  rw [rounds_succ]
  go_wp2_with ((go_at_call 89; refine (fplace_b _ _ _ (by omega) (by omega) (by omega)).mono ?_; rintro e w' ⟨rfl, rfl⟩))
  rw [rounds_succ]
  go_wp2_with (fail)
  have he : pieces [⟨A, bn, cap, zs⟩, ⟨some ⟨w.heap.size, 0, none⟩, (S5.be2 n).length, 4, S5.be2 n⟩] = zs ++ S5.be2 n := by simp [pieces]
  rw [← he]
  refine (concat_out w _ _ 2 [⟨A, bn, cap, zs⟩, ⟨some ⟨w.heap.size, 0, none⟩, (S5.be2 n).length, 4, S5.be2 n⟩] (Pieces.two (by simp [go_sem]) (by simp [go_sem, S5.be2]) (h.out.keep (((Below.refl _ _).alloc (Nat.le_refl _) _).alloc (by simp) _)).row (RowK.within hd.out ?_)) rfl (by decide) (by simp [total, S5.be2]; omega) (((Below.refl _ _).alloc (Nat.le_refl _) _).alloc (by simp) _)).mono ?_
  · intro i hi
    match i, hi with
    | 0, _ => simp [go_sem, S5.be2]; try omega
    | 1, _ => simp [go_sem, S5.be2]; try omega
  · rintro e w1 ⟨A1, n1, c1, rfl, hs1, hb1, hf1⟩
    go_wp2_with (fail)
    go_ret
    exact ⟨A1, n1, c1, rfl, hs1, hb1, hf1⟩

set_option maxHeartbeats 1600000 in
theorem fput_1b (A : Option Addr) (bn cap : Nat) (zs : List Int) (n : Int) (w : World) (h : Sl w A bn cap zs) (hn : bn ≤ 100000) : Calls Try.prog 67 #[.slice A bn cap, .int .i64 n, .int .i64 1, .bool false] w (BytesOut (zs ++ S5.num1 n) w) := by
  have hd := Lib.hid (S5.num1_range n)
  replace h := Lib.hid h
  go_enter Try.func67, Try.ntmps67
  go_wp2_with (fail)
  refine wp_loop_rounds 2 ?_
  rw [rounds_succ]
  go_wp2_with ((go_at_call 89; refine (fplace_b _ _ _ (by omega) (by omega) (by omega)).mono ?_; rintro e w' ⟨rfl, rfl⟩))
  rw [rounds_succ]
  go_wp2_with (fail)
  have he : pieces [⟨A, bn, cap, zs⟩, ⟨some ⟨w.heap.size, 0, none⟩, (S5.num1 n).length, 4, S5.num1 n⟩] = zs ++ S5.num1 n := by simp [pieces]
  rw [← he]
  refine (concat_out w _ _ 2 [⟨A, bn, cap, zs⟩, ⟨some ⟨w.heap.size, 0, none⟩, (S5.num1 n).length, 4, S5.num1 n⟩] (Pieces.two (by simp [go_sem]) (by simp [go_sem, S5.num1]) (h.out.keep (((Below.refl _ _).alloc (Nat.le_refl _) _).alloc (by simp) _)).row (RowK.within hd.out ?_)) rfl (by decide) (by simp [total, S5.num1]; omega) (((Below.refl _ _).alloc (Nat.le_refl _) _).alloc (by simp) _)).mono ?_
  · intro i hi
    match i, hi with
    | 0, _ => simp [go_sem, S5.num1]; try omega
  · rintro e w1 ⟨A1, n1, c1, rfl, hs1, hb1, hf1⟩
    go_wp2_with (fail)
    go_ret
    exact ⟨A1, n1, c1, rfl, hs1, hb1, hf1⟩

theorem fputNumber_any (A : Option Addr) (bn cap : Nat) (zs : List Int) (n : Int) (l : Bool) (w : World) (h : Sl w A bn cap zs) (hn : bn ≤ 100000) : Calls Try.prog 27 #[.slice A bn cap, .int .i64 n, .bool l] w (BytesOut (zs ++ S5.num4 l n) w) := by
  cases l
  · go_enter Try.func27, Try.ntmps27
    go_wp2_with (fail)
    refine (fput_4b _ _ _ zs n _ h hn).mono ?_
    rintro e w1 ⟨A1, n1, c1, rfl, hs1, hb1, hf1⟩
    go_wp2_with (fail)
    go_ret
    exact ⟨A1, n1, c1, rfl, hs1, hb1, hf1⟩
  · go_enter Try.func27, Try.ntmps27
    go_wp2_with (fail)
    refine (fput_4l _ _ _ zs n _ h hn).mono ?_
    rintro e w1 ⟨A1, n1, c1, rfl, hs1, hb1, hf1⟩
    go_wp2_with (fail)
    go_ret
    exact ⟨A1, n1, c1, rfl, hs1, hb1, hf1⟩

theorem fputShort_any (A : Option Addr) (bn cap : Nat) (zs : List Int) (n : Int) (l : Bool) (w : World) (h : Sl w A bn cap zs) (hn : bn ≤ 100000) : Calls Try.prog 53 #[.slice A bn cap, .int .i64 n, .bool l] w (BytesOut (zs ++ S5.num2 l n) w) := by
  cases l
  · go_enter Try.func53, Try.ntmps53
    go_wp2_with (fail)
    refine (fput_2b _ _ _ zs n _ h hn).mono ?_
    rintro e w1 ⟨A1, n1, c1, rfl, hs1, hb1, hf1⟩
    go_wp2_with (fail)
    go_ret
    exact ⟨A1, n1, c1, rfl, hs1, hb1, hf1⟩
  · go_enter Try.func53, Try.ntmps53
    go_wp2_with (fail)
    refine (fput_2l _ _ _ zs n _ h hn).mono ?_
    rintro e w1 ⟨A1, n1, c1, rfl, hs1, hb1, hf1⟩
    go_wp2_with (fail)
    go_ret
    exact ⟨A1, n1, c1, rfl, hs1, hb1, hf1⟩

theorem fputOctet_any (A : Option Addr) (bn cap : Nat) (zs : List Int) (n : Int) (w : World) (h : Sl w A bn cap zs) (hn : bn ≤ 100000) : Calls Try.prog 28 #[.slice A bn cap, .int .i64 n] w (BytesOut (zs ++ S5.num1 n) w) := by
  go_enter Try.func28, Try.ntmps28
  go_wp2_with (fail)
  refine (fput_1b _ _ _ zs n _ h hn).mono ?_
  rintro e w1 ⟨A1, n1, c1, rfl, hs1, hb1, hf1⟩
  go_wp2_with (fail)
  go_ret
  exact ⟨A1, n1, c1, rfl, hs1, hb1, hf1⟩


/-- A text as new bytes: what stands there, and that all else stays. -/
theorem conv_bytes (w : World) (s : ByteArray) (hs : s.size ≤ 1000000) : ∃ w1 c, (convert 9 26 (.string s)).run Try.prog w = .ok (.slice (some ⟨w.heap.size, 0, none⟩) s.size c) w1 ∧ Sl w1 (some ⟨w.heap.size, 0, none⟩) s.size c (nums s) ∧ Below w.heap.size w w1 ∧ w1.heap.size = w.heap.size + 1 := by
  have hge := grownCap_ge w s.size 0 5
  have hmx := grownCap_le_maxLen w s.size 0 5 (by unfold maxLen; omega)
  refine ⟨_, _, Lib.run_convert_string_bytes w _ _ 5 s Try.underlying9 Try.underlying26 Try.underlying5, ⟨⟨nums_len s, nums_range s, fun _ => ⟨_, _, rfl, fun i hi => ?_⟩⟩, hge, hmx, .inr ⟨_, _, rfl⟩⟩, ⟨rfl, rfl, rfl, ?_, fun b hb => Lib.bytesWorld_at_old w _ s b hb⟩, Lib.bytesWorld_size w _ s⟩
  · rw [nums_len] at hi
    rw [Nat.zero_add, Lib.bytesWorld_cell w _ s i hi]
    have hi' : i < s.data.toList.length := by rw [Array.length_toList]; exact hi
    have e : s.data.toList.getD i 0 = s.data.toList[i] := by rw [List.getD_eq_getElem?_getD, List.getElem?_eq_getElem hi']; rfl
    rw [e]
    simp [nums]
  · rw [Lib.bytesWorld_size]; omega

set_option maxHeartbeats 1600000 in
theorem fputText_any (A : Option Addr) (bn cap : Nat) (zs : List Int) (s : ByteArray) (w : World) (h : Sl w A bn cap zs) (hn : bn ≤ 100000) (hsz : s.size ≤ 100000) : Calls Try.prog 29 #[.slice A bn cap, .string s] w (BytesOut (zs ++ S5.text (nums s)) w) := by
  obtain ⟨w1, c, hcv, hs1, B1, z1⟩ := conv_bytes w s (by omega)
  have hr := Lib.hid (h.keep B1).row
  have hr2 := Lib.hid hs1.row
  have he : pieces [⟨A, bn, cap, zs⟩, ⟨some ⟨w.heap.size, 0, none⟩, s.size, c, nums s⟩, ⟨some ⟨w1.heap.size, 0, none⟩, 1, 1, [0]⟩] = zs ++ S5.text (nums s) := by simp [pieces, S5.text]
  replace he := Lib.hid he
  replace B1 := Lib.hid B1
  replace z1 := Lib.hid z1
  clear h hs1
  go_enter Try.func29, Try.ntmps29
  go_wp2_with (fail)
  have q1 : w.heap.size < w1.heap.size := by rw [z1.out]; omega
  have B2 : Below w1.heap.size w1 ((w1.alloc (.cells #[.int .u8 0] 5)).alloc (.cells #[.slice A bn cap, .slice (some ⟨w.heap.size, 0, none⟩) s.size c, .slice (some ⟨w1.heap.size, 0, none⟩) 1 1] 26)) := ((Below.refl _ _).alloc (Nat.le_refl _) _).alloc (by simp) _
  rw [← he.out]
  refine (concat_out w _ _ 3 [⟨A, bn, cap, zs⟩, ⟨some ⟨w.heap.size, 0, none⟩, s.size, c, nums s⟩, ⟨some ⟨w1.heap.size, 0, none⟩, 1, 1, [0]⟩] (Pieces.three (by simp [go_sem]) (by simp [go_sem]) (by simp [go_sem]) (hr.out.keep B2) (hr2.out.keep B2) ⟨rfl, by intro n hn; simp at hn; subst hn; decide, fun _ => ⟨_, _, rfl, fun i hi => by simp at hi; subst hi; simp [go_sem]⟩⟩) rfl (by decide) (by simp [total]; omega) (below_keep B2 B1.out)).mono ?_
  rintro e w2 ⟨A1, n1, c1, rfl, hs1, hb1, hf1⟩
  go_wp2_with (fail)
  go_ret
  exact ⟨A1, n1, c1, rfl, hs1, hb1, hf1⟩

set_option maxHeartbeats 1600000 in
theorem fputPrincipal_any (A : Option Addr) (bn cap : Nat) (zs : List Int) (a b c : ByteArray) (w : World) (h : Sl w A bn cap zs) (hn : bn ≤ 10000) (ha : a.size ≤ 10000) (hb : b.size ≤ 10000) (hc : c.size ≤ 10000) :
    Calls Try.prog 26 #[.slice A bn cap, .agg #[.string a, .string b, .string c]] w (BytesOut (zs ++ S5.three (nums a) (nums b) (nums c)) w) := by
  have hl := Lib.hid h.len
  have B1 : Below w.heap.size w (w.alloc (.cells #[.string a, .string b, .string c] 23)) := (Below.refl _ _).alloc (Nat.le_refl _) _
  have c0 : (w.alloc (.cells #[.string a, .string b, .string c] 23)).cell? ⟨w.heap.size, 0, none⟩ = some (.string a) := by simp [go_sem]
  have c1 : (w.alloc (.cells #[.string a, .string b, .string c] 23)).cell? ⟨w.heap.size, 1, none⟩ = some (.string b) := by simp [go_sem]
  have c2 : (w.alloc (.cells #[.string a, .string b, .string c] 23)).cell? ⟨w.heap.size, 2, none⟩ = some (.string c) := by simp [go_sem]
  have h1 := Lib.hid (h.keep B1)
  go_enter Try.func26, Try.ntmps26
  go_wp2_with (fail)
  generalize (w.alloc (.cells #[.string a, .string b, .string c] 23)) = w1 at *
  have P1 := Lib.hid (fun (W : World) (hb : Below w1.heap.size w1 W) => fputText_any A bn cap zs a W (h1.out.keep hb) (by omega) (by omega))
  go_region_held3 (fun W => Below w1.heap.size w1 W ∧ W.cell? ⟨w.heap.size, 0, none⟩ = some (.string a) ∧ W.cell? ⟨w.heap.size, 1, none⟩ = some (.string b) ∧ W.cell? ⟨w.heap.size, 2, none⟩ = some (.string c))
    (first | (go_keep; done) | ((repeat' apply And.intro) <;> first | (go_keep; done) | exact (Below.refl _ _).drew | exact below_keep hb6 (by go_keep) | exact cell_keep hb6 (by go_keep) | exact below_keep hb5 (by go_keep) | exact cell_keep hb5 (by go_keep) | exact below_keep hb4 (by go_keep) | exact cell_keep hb4 (by go_keep)))
    (first
      | (go_at_call 29; refine (fputText_any _ _ _ _ c _ hs5 (by have := hs5.len; simp [S5.text, nums_len, hl.out] at this; omega) (by omega)).mono ?_; rintro e w6 ⟨A6, n6, c6, rfl, hs6, hb6, hf6⟩)
      | (go_at_call 29; refine (fputText_any _ _ _ _ b _ hs4 (by have := hs4.len; simp [S5.text, nums_len, hl.out] at this; omega) (by omega)).mono ?_; rintro e w5 ⟨A5, n5, c5, rfl, hs5, hb5, hf5⟩)
      | (go_at_call 29; refine (P1.out _ ?_).mono ?_; exact And.left ‹Below w1.heap.size w1 _ ∧ _›; rintro e w4 ⟨A4, n4, c4, rfl, hs4, hb4, hf4⟩))
  have hS := And.left ‹Below w1.heap.size w1 w6 ∧ _›
  have he : zs ++ S5.text (nums a) ++ S5.text (nums b) ++ S5.text (nums c) = zs ++ S5.three (nums a) (nums b) (nums c) := by simp [S5.three]
  rw [he] at hs6
  have hfr := hf6.le (Nat.le_trans B1.size (Nat.le_trans hb4.size hb5.size))
  replace hs6 := Lib.hid hs6
  clear c0 c1 c2 hs4 hs5 hb4 hb5 hb6
  go_wp2_with (fail)
  go_ret
  exact ⟨A6, n6, c6, rfl, hs6.out, below_keep hS B1, hfr⟩

set_option maxHeartbeats 1600000 in
theorem fpad_0 (A : Option Addr) (bn cap : Nat) (zs : List Int) (w : World) (h : Sl w A bn cap zs) (hn : bn ≤ 100000) (hr : (bn : Int) % 8 = 0) : Calls Try.prog 44 #[.slice A bn cap] w (BytesOut (S5.pad zs) w) := by
  have hp : S5.pad zs = zs := by
    unfold S5.pad S5.padN
    rw [h.len, show (8 - bn % 8) % 8 = 0 by omega]; simp
  rw [hp]
  clear hp
  have hmk : ∀ w, (Instr.makeSlice 26 (.int .i64 0) (.int .i64 0)).run Try.prog w = .ok (.slice (some ⟨w.heap.size, 0, none⟩) 0 0) (w.alloc (.cells #[] 5)) := fun _ => by kernel_rfl
  replace h := Lib.hid h
  go_enter Try.func44, Try.ntmps44
  go_wp2_with (fail)
  have he : pieces [⟨A, bn, cap, zs⟩, ⟨some ⟨w.heap.size, 0, none⟩, 0, 0, []⟩] = zs := by simp [pieces]
  rw [← he]
  refine (concat_out w _ _ 2 [⟨A, bn, cap, zs⟩, ⟨some ⟨w.heap.size, 0, none⟩, 0, 0, []⟩] (Pieces.two (by simp [go_sem]) (by simp [go_sem]) (h.out.keep (((Below.refl _ _).alloc (Nat.le_refl _) _).alloc (by simp) _)).row (RowK.within (by intro n hn; simp at hn; try (subst hn; decide)) ?_)) rfl (by decide) (by simp [total]; omega) (((Below.refl _ _).alloc (Nat.le_refl _) _).alloc (by simp) _)).mono ?_
  · intro i hi
    match i, hi with
    | i, hi => simp at hi
  · rintro e w1 ⟨A1, n1, c1, rfl, hs1, hb1, hf1⟩
    go_wp2_with (fail)
    go_ret
    rw [he] at hs1
    exact ⟨A1, n1, c1, rfl, hs1, hb1, hf1⟩

set_option maxHeartbeats 1600000 in
theorem fpad_1 (A : Option Addr) (bn cap : Nat) (zs : List Int) (w : World) (h : Sl w A bn cap zs) (hn : bn ≤ 100000) (hr : (bn : Int) % 8 = 1) : Calls Try.prog 44 #[.slice A bn cap] w (BytesOut (S5.pad zs) w) := by
  have hp : S5.pad zs = zs ++ [0, 0, 0, 0, 0, 0, 0] := by
    unfold S5.pad S5.padN
    rw [h.len, show (8 - bn % 8) % 8 = 7 by omega]; rfl
  rw [hp]
  clear hp
  have hmk : ∀ w, (Instr.makeSlice 26 (.int .i64 7) (.int .i64 7)).run Try.prog w = .ok (.slice (some ⟨w.heap.size, 0, none⟩) 7 7) (w.alloc (.cells #[.int .u8 0, .int .u8 0, .int .u8 0, .int .u8 0, .int .u8 0, .int .u8 0, .int .u8 0] 5)) := fun _ => by kernel_rfl
  replace h := Lib.hid h
  go_enter Try.func44, Try.ntmps44
  go_wp2_with (fail)
  have he : pieces [⟨A, bn, cap, zs⟩, ⟨some ⟨w.heap.size, 0, none⟩, 7, 7, [0, 0, 0, 0, 0, 0, 0]⟩] = zs ++ [0, 0, 0, 0, 0, 0, 0] := by simp [pieces]
  rw [← he]
  refine (concat_out w _ _ 2 [⟨A, bn, cap, zs⟩, ⟨some ⟨w.heap.size, 0, none⟩, 7, 7, [0, 0, 0, 0, 0, 0, 0]⟩] (Pieces.two (by simp [go_sem]) (by simp [go_sem]) (h.out.keep (((Below.refl _ _).alloc (Nat.le_refl _) _).alloc (by simp) _)).row (RowK.within (by intro n hn; simp at hn; try (subst hn; decide)) ?_)) rfl (by decide) (by simp [total]; omega) (((Below.refl _ _).alloc (Nat.le_refl _) _).alloc (by simp) _)).mono ?_
  · intro i hi
    match i, hi with
    | 0, _ => simp [go_sem]
    | 1, _ => simp [go_sem]
    | 2, _ => simp [go_sem]
    | 3, _ => simp [go_sem]
    | 4, _ => simp [go_sem]
    | 5, _ => simp [go_sem]
    | 6, _ => simp [go_sem]
  · rintro e w1 ⟨A1, n1, c1, rfl, hs1, hb1, hf1⟩
    go_wp2_with (fail)
    go_ret
    exact ⟨A1, n1, c1, rfl, hs1, hb1, hf1⟩

set_option maxHeartbeats 1600000 in
theorem fpad_2 (A : Option Addr) (bn cap : Nat) (zs : List Int) (w : World) (h : Sl w A bn cap zs) (hn : bn ≤ 100000) (hr : (bn : Int) % 8 = 2) : Calls Try.prog 44 #[.slice A bn cap] w (BytesOut (S5.pad zs) w) := by
  have hp : S5.pad zs = zs ++ [0, 0, 0, 0, 0, 0] := by
    unfold S5.pad S5.padN
    rw [h.len, show (8 - bn % 8) % 8 = 6 by omega]; rfl
  rw [hp]
  clear hp
  have hmk : ∀ w, (Instr.makeSlice 26 (.int .i64 6) (.int .i64 6)).run Try.prog w = .ok (.slice (some ⟨w.heap.size, 0, none⟩) 6 6) (w.alloc (.cells #[.int .u8 0, .int .u8 0, .int .u8 0, .int .u8 0, .int .u8 0, .int .u8 0] 5)) := fun _ => by kernel_rfl
  replace h := Lib.hid h
  go_enter Try.func44, Try.ntmps44
  go_wp2_with (fail)
  have he : pieces [⟨A, bn, cap, zs⟩, ⟨some ⟨w.heap.size, 0, none⟩, 6, 6, [0, 0, 0, 0, 0, 0]⟩] = zs ++ [0, 0, 0, 0, 0, 0] := by simp [pieces]
  rw [← he]
  refine (concat_out w _ _ 2 [⟨A, bn, cap, zs⟩, ⟨some ⟨w.heap.size, 0, none⟩, 6, 6, [0, 0, 0, 0, 0, 0]⟩] (Pieces.two (by simp [go_sem]) (by simp [go_sem]) (h.out.keep (((Below.refl _ _).alloc (Nat.le_refl _) _).alloc (by simp) _)).row (RowK.within (by intro n hn; simp at hn; try (subst hn; decide)) ?_)) rfl (by decide) (by simp [total]; omega) (((Below.refl _ _).alloc (Nat.le_refl _) _).alloc (by simp) _)).mono ?_
  · intro i hi
    match i, hi with
    | 0, _ => simp [go_sem]
    | 1, _ => simp [go_sem]
    | 2, _ => simp [go_sem]
    | 3, _ => simp [go_sem]
    | 4, _ => simp [go_sem]
    | 5, _ => simp [go_sem]
  · rintro e w1 ⟨A1, n1, c1, rfl, hs1, hb1, hf1⟩
    go_wp2_with (fail)
    go_ret
    exact ⟨A1, n1, c1, rfl, hs1, hb1, hf1⟩

set_option maxHeartbeats 1600000 in
theorem fpad_3 (A : Option Addr) (bn cap : Nat) (zs : List Int) (w : World) (h : Sl w A bn cap zs) (hn : bn ≤ 100000) (hr : (bn : Int) % 8 = 3) : Calls Try.prog 44 #[.slice A bn cap] w (BytesOut (S5.pad zs) w) := by
  have hp : S5.pad zs = zs ++ [0, 0, 0, 0, 0] := by
    unfold S5.pad S5.padN
    rw [h.len, show (8 - bn % 8) % 8 = 5 by omega]; rfl
  rw [hp]
  clear hp
  have hmk : ∀ w, (Instr.makeSlice 26 (.int .i64 5) (.int .i64 5)).run Try.prog w = .ok (.slice (some ⟨w.heap.size, 0, none⟩) 5 5) (w.alloc (.cells #[.int .u8 0, .int .u8 0, .int .u8 0, .int .u8 0, .int .u8 0] 5)) := fun _ => by kernel_rfl
  replace h := Lib.hid h
  go_enter Try.func44, Try.ntmps44
  go_wp2_with (fail)
  have he : pieces [⟨A, bn, cap, zs⟩, ⟨some ⟨w.heap.size, 0, none⟩, 5, 5, [0, 0, 0, 0, 0]⟩] = zs ++ [0, 0, 0, 0, 0] := by simp [pieces]
  rw [← he]
  refine (concat_out w _ _ 2 [⟨A, bn, cap, zs⟩, ⟨some ⟨w.heap.size, 0, none⟩, 5, 5, [0, 0, 0, 0, 0]⟩] (Pieces.two (by simp [go_sem]) (by simp [go_sem]) (h.out.keep (((Below.refl _ _).alloc (Nat.le_refl _) _).alloc (by simp) _)).row (RowK.within (by intro n hn; simp at hn; try (subst hn; decide)) ?_)) rfl (by decide) (by simp [total]; omega) (((Below.refl _ _).alloc (Nat.le_refl _) _).alloc (by simp) _)).mono ?_
  · intro i hi
    match i, hi with
    | 0, _ => simp [go_sem]
    | 1, _ => simp [go_sem]
    | 2, _ => simp [go_sem]
    | 3, _ => simp [go_sem]
    | 4, _ => simp [go_sem]
  · rintro e w1 ⟨A1, n1, c1, rfl, hs1, hb1, hf1⟩
    go_wp2_with (fail)
    go_ret
    exact ⟨A1, n1, c1, rfl, hs1, hb1, hf1⟩

set_option maxHeartbeats 1600000 in
theorem fpad_4 (A : Option Addr) (bn cap : Nat) (zs : List Int) (w : World) (h : Sl w A bn cap zs) (hn : bn ≤ 100000) (hr : (bn : Int) % 8 = 4) : Calls Try.prog 44 #[.slice A bn cap] w (BytesOut (S5.pad zs) w) := by
  have hp : S5.pad zs = zs ++ [0, 0, 0, 0] := by
    unfold S5.pad S5.padN
    rw [h.len, show (8 - bn % 8) % 8 = 4 by omega]; rfl
  rw [hp]
  clear hp
  have hmk : ∀ w, (Instr.makeSlice 26 (.int .i64 4) (.int .i64 4)).run Try.prog w = .ok (.slice (some ⟨w.heap.size, 0, none⟩) 4 4) (w.alloc (.cells #[.int .u8 0, .int .u8 0, .int .u8 0, .int .u8 0] 5)) := fun _ => by kernel_rfl
  replace h := Lib.hid h
  go_enter Try.func44, Try.ntmps44
  go_wp2_with (fail)
  have he : pieces [⟨A, bn, cap, zs⟩, ⟨some ⟨w.heap.size, 0, none⟩, 4, 4, [0, 0, 0, 0]⟩] = zs ++ [0, 0, 0, 0] := by simp [pieces]
  rw [← he]
  refine (concat_out w _ _ 2 [⟨A, bn, cap, zs⟩, ⟨some ⟨w.heap.size, 0, none⟩, 4, 4, [0, 0, 0, 0]⟩] (Pieces.two (by simp [go_sem]) (by simp [go_sem]) (h.out.keep (((Below.refl _ _).alloc (Nat.le_refl _) _).alloc (by simp) _)).row (RowK.within (by intro n hn; simp at hn; try (subst hn; decide)) ?_)) rfl (by decide) (by simp [total]; omega) (((Below.refl _ _).alloc (Nat.le_refl _) _).alloc (by simp) _)).mono ?_
  · intro i hi
    match i, hi with
    | 0, _ => simp [go_sem]
    | 1, _ => simp [go_sem]
    | 2, _ => simp [go_sem]
    | 3, _ => simp [go_sem]
  · rintro e w1 ⟨A1, n1, c1, rfl, hs1, hb1, hf1⟩
    go_wp2_with (fail)
    go_ret
    exact ⟨A1, n1, c1, rfl, hs1, hb1, hf1⟩

set_option maxHeartbeats 1600000 in
theorem fpad_5 (A : Option Addr) (bn cap : Nat) (zs : List Int) (w : World) (h : Sl w A bn cap zs) (hn : bn ≤ 100000) (hr : (bn : Int) % 8 = 5) : Calls Try.prog 44 #[.slice A bn cap] w (BytesOut (S5.pad zs) w) := by
  have hp : S5.pad zs = zs ++ [0, 0, 0] := by
    unfold S5.pad S5.padN
    rw [h.len, show (8 - bn % 8) % 8 = 3 by omega]; rfl
  rw [hp]
  clear hp
  have hmk : ∀ w, (Instr.makeSlice 26 (.int .i64 3) (.int .i64 3)).run Try.prog w = .ok (.slice (some ⟨w.heap.size, 0, none⟩) 3 3) (w.alloc (.cells #[.int .u8 0, .int .u8 0, .int .u8 0] 5)) := fun _ => by kernel_rfl
  replace h := Lib.hid h
  go_enter Try.func44, Try.ntmps44
  go_wp2_with (fail)
  have he : pieces [⟨A, bn, cap, zs⟩, ⟨some ⟨w.heap.size, 0, none⟩, 3, 3, [0, 0, 0]⟩] = zs ++ [0, 0, 0] := by simp [pieces]
  rw [← he]
  refine (concat_out w _ _ 2 [⟨A, bn, cap, zs⟩, ⟨some ⟨w.heap.size, 0, none⟩, 3, 3, [0, 0, 0]⟩] (Pieces.two (by simp [go_sem]) (by simp [go_sem]) (h.out.keep (((Below.refl _ _).alloc (Nat.le_refl _) _).alloc (by simp) _)).row (RowK.within (by intro n hn; simp at hn; try (subst hn; decide)) ?_)) rfl (by decide) (by simp [total]; omega) (((Below.refl _ _).alloc (Nat.le_refl _) _).alloc (by simp) _)).mono ?_
  · intro i hi
    match i, hi with
    | 0, _ => simp [go_sem]
    | 1, _ => simp [go_sem]
    | 2, _ => simp [go_sem]
  · rintro e w1 ⟨A1, n1, c1, rfl, hs1, hb1, hf1⟩
    go_wp2_with (fail)
    go_ret
    exact ⟨A1, n1, c1, rfl, hs1, hb1, hf1⟩

set_option maxHeartbeats 1600000 in
theorem fpad_6 (A : Option Addr) (bn cap : Nat) (zs : List Int) (w : World) (h : Sl w A bn cap zs) (hn : bn ≤ 100000) (hr : (bn : Int) % 8 = 6) : Calls Try.prog 44 #[.slice A bn cap] w (BytesOut (S5.pad zs) w) := by
  have hp : S5.pad zs = zs ++ [0, 0] := by
    unfold S5.pad S5.padN
    rw [h.len, show (8 - bn % 8) % 8 = 2 by omega]; rfl
  rw [hp]
  clear hp
  have hmk : ∀ w, (Instr.makeSlice 26 (.int .i64 2) (.int .i64 2)).run Try.prog w = .ok (.slice (some ⟨w.heap.size, 0, none⟩) 2 2) (w.alloc (.cells #[.int .u8 0, .int .u8 0] 5)) := fun _ => by kernel_rfl
  replace h := Lib.hid h
  go_enter Try.func44, Try.ntmps44
  go_wp2_with (fail)
  have he : pieces [⟨A, bn, cap, zs⟩, ⟨some ⟨w.heap.size, 0, none⟩, 2, 2, [0, 0]⟩] = zs ++ [0, 0] := by simp [pieces]
  rw [← he]
  refine (concat_out w _ _ 2 [⟨A, bn, cap, zs⟩, ⟨some ⟨w.heap.size, 0, none⟩, 2, 2, [0, 0]⟩] (Pieces.two (by simp [go_sem]) (by simp [go_sem]) (h.out.keep (((Below.refl _ _).alloc (Nat.le_refl _) _).alloc (by simp) _)).row (RowK.within (by intro n hn; simp at hn; try (subst hn; decide)) ?_)) rfl (by decide) (by simp [total]; omega) (((Below.refl _ _).alloc (Nat.le_refl _) _).alloc (by simp) _)).mono ?_
  · intro i hi
    match i, hi with
    | 0, _ => simp [go_sem]
    | 1, _ => simp [go_sem]
  · rintro e w1 ⟨A1, n1, c1, rfl, hs1, hb1, hf1⟩
    go_wp2_with (fail)
    go_ret
    exact ⟨A1, n1, c1, rfl, hs1, hb1, hf1⟩

set_option maxHeartbeats 1600000 in
theorem fpad_7 (A : Option Addr) (bn cap : Nat) (zs : List Int) (w : World) (h : Sl w A bn cap zs) (hn : bn ≤ 100000) (hr : (bn : Int) % 8 = 7) : Calls Try.prog 44 #[.slice A bn cap] w (BytesOut (S5.pad zs) w) := by
  have hp : S5.pad zs = zs ++ [0] := by
    unfold S5.pad S5.padN
    rw [h.len, show (8 - bn % 8) % 8 = 1 by omega]; rfl
  rw [hp]
  clear hp
  have hmk : ∀ w, (Instr.makeSlice 26 (.int .i64 1) (.int .i64 1)).run Try.prog w = .ok (.slice (some ⟨w.heap.size, 0, none⟩) 1 1) (w.alloc (.cells #[.int .u8 0] 5)) := fun _ => by kernel_rfl
  replace h := Lib.hid h
  go_enter Try.func44, Try.ntmps44
  go_wp2_with (fail)
  have he : pieces [⟨A, bn, cap, zs⟩, ⟨some ⟨w.heap.size, 0, none⟩, 1, 1, [0]⟩] = zs ++ [0] := by simp [pieces]
  rw [← he]
  refine (concat_out w _ _ 2 [⟨A, bn, cap, zs⟩, ⟨some ⟨w.heap.size, 0, none⟩, 1, 1, [0]⟩] (Pieces.two (by simp [go_sem]) (by simp [go_sem]) (h.out.keep (((Below.refl _ _).alloc (Nat.le_refl _) _).alloc (by simp) _)).row (RowK.within (by intro n hn; simp at hn; try (subst hn; decide)) ?_)) rfl (by decide) (by simp [total]; omega) (((Below.refl _ _).alloc (Nat.le_refl _) _).alloc (by simp) _)).mono ?_
  · intro i hi
    match i, hi with
    | 0, _ => simp [go_sem]
  · rintro e w1 ⟨A1, n1, c1, rfl, hs1, hb1, hf1⟩
    go_wp2_with (fail)
    go_ret
    exact ⟨A1, n1, c1, rfl, hs1, hb1, hf1⟩

theorem fpad_any (A : Option Addr) (bn cap : Nat) (zs : List Int)  (w : World) (h : Sl w A bn cap zs) (hn : bn ≤ 100000) : Calls Try.prog 44 #[.slice A bn cap] w (BytesOut (S5.pad zs) w) := by
  have : (bn : Int) % 8 = 0 ∨ (bn : Int) % 8 = 1 ∨ (bn : Int) % 8 = 2 ∨ (bn : Int) % 8 = 3 ∨ (bn : Int) % 8 = 4 ∨ (bn : Int) % 8 = 5 ∨ (bn : Int) % 8 = 6 ∨ (bn : Int) % 8 = 7 := by omega
  rcases this with e | e | e | e | e | e | e | e
  · exact fpad_0 A bn cap zs w h hn e
  · exact fpad_1 A bn cap zs w h hn e
  · exact fpad_2 A bn cap zs w h hn e
  · exact fpad_3 A bn cap zs w h hn e
  · exact fpad_4 A bn cap zs w h hn e
  · exact fpad_5 A bn cap zs w h hn e
  · exact fpad_6 A bn cap zs w h hn e
  · exact fpad_7 A bn cap zs w h hn e

end Go.Proofs.Ytkhkmgblgonfoaa
