/-
  What Has of package key returns.
-/
import Derived.Test.YtlmifbbmppenoaaBase
import Derived.Test.YtlmifbbmppenoaaListPlain
namespace Go.Proofs.Ytlmifbbmppenoaa
open Go.RowKit

set_option maxHeartbeats 400000 in
theorem kindex_any (k : Int) (a : Option Addr) (len cap : Nat) (zs : List Int) (w : World) (h : RowK .u64 w a len zs) (hl : len ≤ maxLen) :
    Calls Try.prog 37 #[.slice a len cap, .int .u64 k] w fun e w' => e = .returned (.int .i64 (S3.idx k zs)) ∧ w = w' := by
  unfold maxLen at hl
  have hlen := h.len
  go_enter Try.func37, Try.ntmps37
  go_wp2
  go_loop [8] (fun i => ∃ j : Nat, j ≤ len ∧ i = .int .i64 j ∧ S3.has k (zs.take j) = false) (fun i => len - (intOf i).toNat)
  case atStart => exact ⟨0, Nat.zero_le _, rfl, rfl⟩
  case round =>
    obtain ⟨j, hj, rfl, hn⟩ := hrel
    by_cases hlt : j < len
    · obtain ⟨b, off, z, rfl, hz, hz1, hz2, hc⟩ := h.at hlt
      by_cases e : k = z
      · subst e
        have H := Lib.hid (S3.idx_hit hz hn)
        clear hz hn hlen
        go_wp2
        all_goals
          go_ret
          exact ⟨ret_int H.out.symm, rfl⟩
      · have H := S3.has_take_succ (k := k) hz
        rw [hn] at H
        have H := Lib.hid H
        clear hz hn hlen
        go_wp2
        all_goals
          go_round
          case rel => exact ⟨j + 1, by omega, by go_num, by rw [H.out]; simp [e]⟩
          case measure => simp [intOf]; omega
    · have e : zs.take j = zs := List.take_of_length_le (by omega)
      rw [e] at hn
      have H := Lib.hid (S3.idx_no hn)
      clear e hn hlen
      go_wp2
      go_ret
      exact ⟨ret_int H.out.symm, rfl⟩

theorem kcontains_any (k : Int) (a : Option Addr) (len cap : Nat) (zs : List Int) (w : World) (h : RowK .u64 w a len zs) (hl : len ≤ maxLen) :
    Calls Try.prog 31 #[.slice a len cap, .int .u64 k] w fun e w' => e = .returned (.bool (S3.has k zs)) ∧ w = w' := by
  have H := Lib.hid (S3.idx_ge k zs)
  go_enter Try.func31, Try.ntmps31
  go_wp2_with (first | (go_at_call 37; refine (kindex_any _ _ _ _ zs _ h hl).mono ?_; rintro e w' ⟨rfl, rfl⟩))
  go_ret
  exact ⟨ret_bool (by rw [← H.out]), rfl⟩

theorem khas_any (k : Int) (a : Option Addr) (len cap : Nat) (zs : List Int) (w : World) (h : RowK .u64 w a len zs) (hl : len ≤ maxLen) :
    Calls Try.prog 22 #[.slice a len cap, .int .u64 k] w fun e w' => e = .returned (.bool (S3.has k zs)) ∧ w = w' := by
  go_enter Try.func22, Try.ntmps22
  go_wp2_with (first | (go_at_call 31; refine (kcontains_any _ _ _ _ zs _ h hl).mono ?_; rintro e w' ⟨rfl, rfl⟩))
  go_ret
  exact ⟨rfl, rfl⟩

end Go.Proofs.Ytlmifbbmppenoaa
