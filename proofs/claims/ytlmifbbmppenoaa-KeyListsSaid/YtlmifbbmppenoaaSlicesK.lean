/-
  What the functions of Go's package slices that package key calls do with keys.
-/
import Derived.Test.YtlmifbbmppenoaaPush
import Derived.Test.YtlmifbbmppenoaaAscPlain
namespace Go.Proofs.Ytlmifbbmppenoaa
open Go.RowKit

theorem knanC_any (x : Int) (w : World) : Calls Try.prog 41 #[.int .u64 x] w fun e w' => e = .returned (.bool false) ∧ w = w' := by
  go_enter Try.func41, Try.ntmps41
  go_wp2
  go_ret
  exact ⟨ret_bool (by simp), rfl⟩

theorem knanS_any (x : Int) (w : World) : Calls Try.prog 39 #[.int .u64 x] w fun e w' => e = .returned (.bool false) ∧ w = w' := by
  go_enter Try.func39, Try.ntmps39
  go_wp2
  go_ret
  exact ⟨ret_bool (by simp), rfl⟩

theorem kless_any (x y : Int) (w : World) : Calls Try.prog 38 #[.int .u64 x, .int .u64 y] w fun e w' => e = .returned (.bool (decide (x < y))) ∧ w = w' := by
  go_enter Try.func38, Try.ntmps38
  go_wp2_with (first | (go_at_call 41; refine (knanC_any _ _).mono ?_; rintro e w' ⟨rfl, rfl⟩))
  go_ret
  exact ⟨ret_bool (by simp), rfl⟩

/-- Where the number belongs. -/
def Found (k : Int) (zs : List Int) (w : World) (e : Ending) (w' : World) : Prop := ∃ (i : Nat) (b : Bool), e = .returned (.tuple #[.int .i64 i, .bool b]) ∧ i ≤ zs.length ∧ S3.AllLess k (zs.take i) ∧ S3.AllFrom k (zs.drop i) ∧ w = w'

set_option maxHeartbeats 800000 in
theorem ksearch_any (k : Int) (a : Option Addr) (len cap : Nat) (zs : List Int) (w : World) (h : RowK .u64 w a len zs) (hl : len ≤ 4611686018427387903) (hs : S3.Asc zs) :
    Calls Try.prog 32 #[.slice a len cap, .int .u64 k] w (Found k zs w) := by
  have hlen := Lib.hid h.len
  have HS := Lib.hid hs
  clear hs
  go_enter Try.func32, Try.ntmps32
  go_wp2
  go_loop [7, 8] (fun i j => ∃ lo hi : Nat, lo ≤ hi ∧ hi ≤ len ∧ i = .int .i64 lo ∧ j = .int .i64 hi ∧ S3.AllLess k (zs.take lo) ∧ S3.AllFrom k (zs.drop hi)) (fun i j => (intOf j - intOf i).toNat)
  case atStart => exact ⟨0, len, Nat.zero_le _, Nat.le_refl _, rfl, rfl, fun z hz => by simp at hz, fun z hz => by rw [List.drop_of_length_le (by have := hlen.out; omega)] at hz; cases hz⟩
  case round =>
    obtain ⟨lo, hi, hlh, hhl, rfl, rfl, h1, h2⟩ := hrel
    by_cases hlt : lo < hi
    · obtain ⟨m, hm⟩ : ∃ m, m = (lo + hi) / 2 := ⟨_, rfl⟩
      have hm1 : lo ≤ m := by omega
      have hm2 : m < hi := by omega
      have hmi : ((lo : Int) + (hi : Int)) / 2 = (m : Int) := by omega
      obtain ⟨b, off, z, rfl, hz, hz1, hz2, hc⟩ := h.at (i := m) (by omega)
      replace h1 := Lib.hid h1
      replace h2 := Lib.hid h2
      clear hm
      rcases hzk : decide (z < k)
      · have H := Lib.hid (S3.asc_from HS.out hz (by simpa using hzk))
        clear hz
        go_wp2_with (first | (go_at_call 38; refine (kless_any _ _ _).mono ?_; rintro e w' ⟨rfl, rfl⟩))
        all_goals
          go_round
          case rel => exact ⟨lo, m, hm1, by omega, rfl, rfl, h1.out, H.out⟩
          case measure => simp [intOf]; omega
      · have H := Lib.hid (S3.asc_less HS.out hz (by simpa using hzk))
        clear hz
        go_wp2_with (first | (go_at_call 38; refine (kless_any _ _ _).mono ?_; rintro e w' ⟨rfl, rfl⟩))
        all_goals
          go_round
          case rel => exact ⟨m + 1, hi, by omega, hhl, by go_num, rfl, H.out, h2.out⟩
          case measure => simp [intOf]; omega
    · have e : lo = hi := by omega
      subst e
      have HZ := Lib.hid (show lo ≤ zs.length by have := hlen.out; omega)
      replace h1 := Lib.hid h1
      replace h2 := Lib.hid h2
      by_cases hll : lo < len
      · obtain ⟨b, off, z, rfl, hz, hz1, hz2, hc⟩ := h.at hll
        clear hz
        by_cases e : z = k
        · subst e
          go_wp2_with (first | (go_at_call 39; refine (knanS_any _ _).mono ?_; rintro e w' ⟨rfl, rfl⟩))
          go_ret2
          exact ⟨lo, _, rfl, HZ.out, h1.out, h2.out, rfl⟩
        · have e' : (z == k) = false := by simpa using e
          go_wp2_with (first | (go_at_call 39; refine (knanS_any _ _).mono ?_; rintro e w' ⟨rfl, rfl⟩))
          go_ret2
          exact ⟨lo, _, rfl, HZ.out, h1.out, h2.out, rfl⟩
      · go_wp2_with (first | (go_at_call 39; refine (knanS_any _ _).mono ?_; rintro e w' ⟨rfl, rfl⟩))
        go_ret2
        exact ⟨lo, _, rfl, HZ.out, h1.out, h2.out, rfl⟩

end Go.Proofs.Ytlmifbbmppenoaa
