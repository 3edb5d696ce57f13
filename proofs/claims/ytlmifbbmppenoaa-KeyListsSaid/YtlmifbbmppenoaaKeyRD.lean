/-
  What Has and Draw of the document's answer for keys return.
-/
import Derived.Test.YtlmifbbmppenoaaKeyR
import Derived.Test.YtlmifbbmppenoaaDrawPlain
namespace Go.Proofs.Ytlmifbbmppenoaa
open Go.RowKit

set_option maxHeartbeats 400000 in
theorem r3has_any (k : Int) (a : Option Addr) (len cap : Nat) (zs : List Int) (w : World) (h : RowK .u64 w a len zs) (hl : len ≤ maxLen) :
    Calls Try.prog 23 #[.slice a len cap, .int .u64 k] w fun e w' => e = .returned (.bool (S3.has k zs)) ∧ w = w' := by
  unfold maxLen at hl
  have hlen := h.len
  go_enter Try.func23, Try.ntmps23
  go_wp2
  go_loop [5] (fun i => ∃ j : Nat, j ≤ len ∧ i = .int .i64 j ∧ S3.has k (zs.take j) = false) (fun i => len - (intOf i).toNat)
  case atStart => exact ⟨0, Nat.zero_le _, rfl, rfl⟩
  case round =>
    obtain ⟨j, hj, rfl, hn⟩ := hrel
    by_cases hlt : j < len
    · obtain ⟨b, off, z, rfl, hz, hz1, hz2, hc⟩ := h.at hlt
      by_cases e : z = k
      · subst e
        have H := Lib.hid (S3.has_take_hit hz)
        clear hz hn hlen
        go_wp2
        all_goals
          go_ret
          exact ⟨ret_bool H.out.symm, rfl⟩
      · have H := S3.has_take_succ (k := k) hz
        rw [hn] at H
        have H := Lib.hid H
        clear hz hn hlen
        go_wp2
        all_goals
          go_round
          case rel => exact ⟨j + 1, by omega, by go_num, by rw [H.out]; simp; omega⟩
          case measure => simp [intOf]; omega
    · have e : zs.take j = zs := List.take_of_length_le (by omega)
      rw [e] at hn
      have H := Lib.hid hn
      clear e hn hlen
      go_wp2
      go_ret
      exact ⟨ret_bool H.out.symm, rfl⟩

set_option maxHeartbeats 400000 in
theorem r3free_any (a : Option Addr) (len cap : Nat) (zs : List Int) (c n : Int) (w : World) (h : RowK .u64 w a len zs) (hl : len ≤ maxLen) (n0 : 1 ≤ n) (n1 : n ≤ 4294967296) :
    Calls Try.prog 36 #[.slice a len cap, .int .i64 c, .int .i64 n] w fun e w' => e = .returned (.int .i64 (S3.free (S3.used zs c) n (S3.span n 4294967295))) ∧ w = w' := by
  have e1 := S3.span_val (n := n) (l := 4294967295) (by omega)
  obtain ⟨m, hm⟩ : ∃ m, m = S3.span n 4294967295 := ⟨_, rfl⟩
  rw [← hm] at e1 ⊢
  clear hm
  go_enter Try.func36, Try.ntmps36
  go_wp2
  go_loop [2] (fun i => ∃ j r : Nat, (j : Int) + r = m ∧ i = .int .i64 (n + j) ∧ S3.free (S3.used zs c) n m = S3.free (S3.used zs c) (n + j) r) (fun i => (4294967296 - intOf i).toNat)
  case atStart => exact ⟨0, m, by omega, by simp, by simp⟩
  case round =>
    obtain ⟨j, r, hj, rfl, hr⟩ := hrel
    rcases r with _ | r
    · rw [S3.free_zero] at hr
      have H := Lib.hid hr
      clear hr
      have e2 : 4294967295 < n + j := by omega
      clear e1 hj
      go_wp2
      go_ret
      exact ⟨ret_int H.out.symm, rfl⟩
    · have e2 : n + j ≤ 4294967295 := by omega
      rcases ht : S3.used zs c (n + j)
      · rw [S3.free_stop ht] at hr
        have H := Lib.hid hr
        have hno : S3.has (S3.mk c (n + j)) zs = false := ht
        clear hr ht e1 hj
        go_wp2_with (first | (go_at_call 10; refine (r3make_any _ _ _).mono ?_; rintro e w' ⟨rfl, rfl⟩) | (go_at_call 23; refine (r3has_any _ _ _ _ zs _ h hl).mono ?_; rintro e w' ⟨rfl, rfl⟩))
        go_ret
        exact ⟨ret_int H.out.symm, rfl⟩
      · rw [S3.free_go ht] at hr
        have H := Lib.hid hr
        have hno : S3.has (S3.mk c (n + j)) zs = true := ht
        have E1 := Lib.hid hj
        have E2 := Lib.hid e1
        clear hr ht hj e1
        go_wp2_with (first | (go_at_call 10; refine (r3make_any _ _ _).mono ?_; rintro e w' ⟨rfl, rfl⟩) | (go_at_call 23; refine (r3has_any _ _ _ _ zs _ h hl).mono ?_; rintro e w' ⟨rfl, rfl⟩))
        go_round
        case rel =>
          have := E1.out; have := E2.out
          exact ⟨j + 1, r, by omega, by go_num, by rw [H.out]; congr 1; omega⟩
        case measure => simp [intOf]; omega

set_option maxHeartbeats 800000 in
theorem r3draw_any (a : Option Addr) (len cap : Nat) (zs : List Int) (c want : Int) (w : World) (h : RowK .u64 w a len zs) (hl : len ≤ maxLen) :
    Calls Try.prog 28 #[.slice a len cap, .int .i64 c, .int .i64 want] w fun e w' => e = .returned (.tuple #[.int .u64 (S3.mk c (S3.drawS zs c want)), .bool (S3.isC c)]) ∧ w = w' := by
  rcases hc : S3.isC c
  · have H := Lib.hid (S3.mk_noC (s := S3.drawS zs c want) hc)
    have h1 : (c != 1) = true := by rcases S3.isC_cases c with ⟨h, _⟩ | ⟨h, _⟩ | ⟨_, h, _⟩ <;> simp_all
    have h2 : (c != 2) = true := by rcases S3.isC_cases c with ⟨h, _⟩ | ⟨h, _⟩ | ⟨_, _, h⟩ <;> simp_all
    clear hc
    go_enter Try.func28, Try.ntmps28
    go_wp2
    go_ret2
    exact ⟨ret_two (ival H.out.symm) rfl, rfl⟩
  · have HD := S3.drawS_ref (zs := zs) (want := want) hc
    obtain ⟨v, hv⟩ : ∃ v, v = S3.wantV want := ⟨_, rfl⟩
    obtain ⟨v0, v1⟩ := S3.wantV_range want
    rw [← hv] at v0 v1 HD
    have K1 := r3free_any a len cap zs c v w h hl v0 (by omega)
    have K2 := r3free_any a len cap zs c 1 w h hl (by omega) (by omega)
    obtain ⟨x, hx⟩ : ∃ x, x = S3.free (S3.used zs c) v (S3.span v 4294967295) := ⟨_, rfl⟩
    obtain ⟨y, hy⟩ : ∃ y, y = S3.free (S3.used zs c) 1 (S3.span 1 4294967295) := ⟨_, rfl⟩
    rw [← hx, ← hy] at HD
    rw [← hx] at K1
    rw [← hy] at K2
    clear hx hy
    have hs1 : S3.isS want = true ∧ want = v ∧ 1 ≤ want ∧ want ≤ 4294967295 ∨ 1 = v ∧ want < 1 ∨ 1 = v ∧ 1 ≤ want ∧ 4294967295 < want := by
      rcases S3.isS_cases want with ⟨g, g1, g2⟩ | ⟨g, g1⟩ | ⟨g, g1, g2⟩
      · left; exact ⟨g, by rw [hv, S3.wantV_yes g], g1, g2⟩
      · right; left; exact ⟨by rw [hv, S3.wantV_no g], g1⟩
      · right; right; exact ⟨by rw [hv, S3.wantV_no g], g1, g2⟩
    have hc1 : (c != 1) = false ∨ (c != 1) = true ∧ (c != 2) = false := by rcases S3.isC_cases c with ⟨_, rfl⟩ | ⟨_, rfl⟩ | ⟨h, _⟩ <;> simp_all
    clear hv hc
    have K1 := Lib.hid K1
    have K2 := Lib.hid K2
    have hx : (x = 0 ∧ S3.drawS zs c want = y) ∨ ((x == 0) = false ∧ S3.drawS zs c want = x) := by
      by_cases g : x = 0
      · left; rw [if_pos g] at HD; exact ⟨g, HD⟩
      · right; rw [if_neg g] at HD; exact ⟨by simpa using g, HD⟩
    clear HD
    obtain ⟨d, hd⟩ : ∃ d, d = S3.drawS zs c want := ⟨_, rfl⟩
    rw [← hd] at hx ⊢
    clear hd
    rcases hx with ⟨rfl, rfl⟩ | ⟨hx, rfl⟩
    all_goals
      rcases hs1 with ⟨g, rfl, g1, g2⟩ | ⟨rfl, g1⟩ | ⟨rfl, g1, g2⟩
      all_goals
        rcases hc1 with hc1 | ⟨hc1, hc2⟩
        all_goals
          go_enter Try.func28, Try.ntmps28
          go_wp2_with (fail)
          refine K1.out.mono ?_
          rintro e w' ⟨rfl, rfl⟩
          go_wp2_with (first | (go_at_call 36; refine (K2.out).mono ?_; rintro e w' ⟨rfl, rfl⟩) | (go_at_call 10; refine (r3make_any _ _ _).mono ?_; rintro e w' ⟨rfl, rfl⟩))
          go_ret2
          exact ⟨rfl, rfl⟩

end Go.Proofs.Ytlmifbbmppenoaa
