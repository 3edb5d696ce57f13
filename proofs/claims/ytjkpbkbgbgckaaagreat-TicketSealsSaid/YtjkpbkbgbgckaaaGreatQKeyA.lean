/-
  What Make, Class, Serial and Valid of package key return.
-/
import Derived.Test.YtjkpbkbgbgckaaaGreatQBase
import Derived.Test.YtjkpbkbgbgckaaaGreatQKeyPlain
namespace Go.Proofs.YtjkpbkbgbgckaaaGreat
open Go.RowKit

theorem kisClass_any (n : Int) (w : World) : Calls Tryz.prog 61 #[.int .i64 n] w fun e w' => e = .returned (.bool (S3.isC n)) ∧ w = w' := by
  rcases S3.isC_cases n with ⟨h, rfl⟩ | ⟨h, rfl⟩ | ⟨h, h1, h2⟩
  all_goals
    have H := Lib.hid h
    clear h
    go_enter Tryz.func61, Tryz.ntmps61
    go_wp2
    go_ret
    exact ⟨ret_bool (by rw [H.out] <;> simp <;> omega), rfl⟩

theorem kisSerial_any (n : Int) (w : World) : Calls Tryz.prog 62 #[.int .i64 n] w fun e w' => e = .returned (.bool (S3.isS n)) ∧ w = w' := by
  rcases S3.isS_cases n with ⟨h, h1, h2⟩ | ⟨h, h1⟩ | ⟨h, h1, h2⟩
  all_goals
    have H := Lib.hid h
    clear h
    go_enter Tryz.func62, Tryz.ntmps62
    go_wp2
    go_ret
    exact ⟨ret_bool (by rw [H.out] <;> simp <;> omega), rfl⟩


theorem kvalid_any (k : Int) (w : World) (k0 : 0 ≤ k) (k1 : k ≤ 18446744073709551615) : Calls Tryz.prog 36 #[.int .u64 k] w fun e w' => e = .returned (.bool (S3.vk k)) ∧ w = w' := by
  rcases hc : S3.isC (k / 72057594037927936)
  all_goals
    go_enter Tryz.func36, Tryz.ntmps36
    go_wp2_with (first | (go_at_call 61; refine (kisClass_any _ _).mono ?_; rintro e w' ⟨rfl, rfl⟩) | (go_at_call 62; refine (kisSerial_any _ _).mono ?_; rintro e w' ⟨rfl, rfl⟩))
    go_ret
    exact ⟨ret_bool (by simp [S3.vk, hc]), rfl⟩

theorem kclass_any (k : Int) (w : World) (k0 : 0 ≤ k) (k1 : k ≤ 18446744073709551615) : Calls Tryz.prog 57 #[.int .u64 k] w fun e w' => e = .returned (.int .i64 (S3.ck k)) ∧ w = w' := by
  rcases h : S3.vk k
  all_goals
    go_enter Tryz.func57, Tryz.ntmps57
    go_wp2_with (first | (go_at_call 36; refine (kvalid_any _ _ k0 k1).mono ?_; rintro e w' ⟨rfl, rfl⟩))
    go_ret
    exact ⟨ret_int (by simp [S3.ck, h]), rfl⟩


end Go.Proofs.YtjkpbkbgbgckaaaGreat
