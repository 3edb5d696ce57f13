/-
  What the functions of package lifetime return.
-/
import Derived.Test.YtfllenakphcfgaaBase
import Derived.Test.YtfllenakphcfgaaLifePlain
import Derived.WalkLawsBesides
namespace Go.Proofs.Ytfllenakphcfgaa
open Go.RowKit

theorem isTime_any (n : Int) (w : World) : Calls Try.prog 21 #[.int .i64 n] w fun e w' => e = .returned (.bool (S2.isT n)) ∧ w = w' := by
  rcases S2.isT_cases3 n with ⟨h, h0, h1⟩ | ⟨h, h0⟩ | ⟨h, h0, h1⟩
  all_goals
    have H := Lib.hid h
    clear h
    go_enter Try.func21, Try.ntmps21
    go_wp2
    go_ret
    exact ⟨ret_bool (by rw [H.out] <;> simp <;> omega), rfl⟩

theorem isLife_any (n : Int) (w : World) : Calls Try.prog 22 #[.int .i64 n] w fun e w' => e = .returned (.bool (S2.isL n)) ∧ w = w' := by
  rcases S2.isL_cases n with ⟨h, h0, h1⟩ | ⟨h, h0⟩ | ⟨h, h0, h1⟩
  all_goals
    have H := Lib.hid h
    clear h
    go_enter Try.func22, Try.ntmps22
    go_wp2
    go_ret
    exact ⟨ret_bool (by rw [H.out] <;> simp <;> omega), rfl⟩

theorem end_any (i l : Int) (w : World) : Calls Try.prog 11 #[.int .i64 i, .int .i64 l] w fun e w' => e = .returned (.int .i64 (S2.endV i l)) ∧ w = w' := by
  rcases S2.isT_cases i with ⟨h, h0, h1⟩ | h
  · rcases S2.isL_cases l with ⟨g, g0, g1⟩ | ⟨g, g0⟩ | ⟨g, g0, g1⟩
    all_goals
      go_enter Try.func11, Try.ntmps11
      go_wp2_with (first | (go_at_call 21; refine (isTime_any _ _).mono ?_; rintro e w' ⟨rfl, rfl⟩) | (go_at_call 22; refine (isLife_any _ _).mono ?_; rintro e w' ⟨rfl, rfl⟩))
      go_ret
      first
        | exact ⟨ret_int (S2.endV_yes h g).symm, rfl⟩
        | exact ⟨ret_int (S2.endV_noL g).symm, rfl⟩
  · go_enter Try.func11, Try.ntmps11
    go_wp2_with (first | (go_at_call 21; refine (isTime_any _ _).mono ?_; rintro e w' ⟨rfl, rfl⟩) | (go_at_call 22; refine (isLife_any _ _).mono ?_; rintro e w' ⟨rfl, rfl⟩))
    go_ret
    exact ⟨ret_int (S2.endV_noT h).symm, rfl⟩

set_option maxHeartbeats 400000 in
theorem least_any (f : Int) (a : Option Addr) (len cap : Nat) (zs : List Int) (w : World) (h : RowK .i64 w a len zs) (hl : len ≤ maxLen) :
    Calls Try.prog 24 #[.int .i64 f, .slice a len cap] w fun e w' => e = .returned (.int .i64 (S2.least f zs)) ∧ w = w' := by
  unfold maxLen at hl
  have hlen := h.len
  go_enter Try.func24, Try.ntmps24
  go_wp2
  go_loop [0, 9] (fun m i => ∃ k : Nat, k ≤ len ∧ i = .int .i64 k ∧ m = .int .i64 (S2.least f (zs.take k))) (fun _ i => len - (intOf i).toNat)
  case atStart => exact ⟨0, Nat.zero_le _, rfl, rfl⟩
  case round =>
    obtain ⟨k, hk, rfl, rfl⟩ := hrel
    by_cases hlt : k < len
    · obtain ⟨b, off, z, rfl, hz, hz1, hz2, hc⟩ := h.at hlt
      have HS : Hid (S2.least f (zs.take (k + 1)) = min (S2.least f (zs.take k)) z) := by
        rw [List.take_add_one, hz]; exact S2.least_snoc _ _ _
      clear hz hlen
      go_wp2
      all_goals
        go_round
        case rel => exact ⟨k + 1, by omega, by go_num, by rw [HS.out]; first | done | rfl | (congr 1; omega)⟩
        case measure => simp [intOf]; omega
    · have : zs.take k = zs := List.take_of_length_le (by omega)
      have H := Lib.hid this
      clear this hlen
      go_wp2
      go_ret
      exact ⟨ret_int (by rw [H.out]), rfl⟩

end Go.Proofs.Ytfllenakphcfgaa
