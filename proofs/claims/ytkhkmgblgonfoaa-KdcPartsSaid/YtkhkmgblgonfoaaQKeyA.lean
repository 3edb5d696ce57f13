/-
  What Make, Class, Serial and Valid of package key return.
-/
import Derived.Test.YtkhkmgblgonfoaaQBase
import Derived.Test.YtkhkmgblgonfoaaQKeyPlain
namespace Go.Proofs.Ytkhkmgblgonfoaa
open Go.RowKit

theorem kisClass_any (n : Int) (w : World) : Calls Try.prog 96 #[.int .i64 n] w fun e w' => e = .returned (.bool (S3.isC n)) ∧ w = w' := by
  rcases S3.isC_cases n with ⟨h, rfl⟩ | ⟨h, rfl⟩ | ⟨h, h1, h2⟩
  all_goals
    have H := Lib.hid h
    clear h
    go_enter Try.func96, Try.ntmps96
    go_wp2
    go_ret
    exact ⟨ret_bool (by rw [H.out] <;> simp <;> omega), rfl⟩

theorem kisSerial_any (n : Int) (w : World) : Calls Try.prog 97 #[.int .i64 n] w fun e w' => e = .returned (.bool (S3.isS n)) ∧ w = w' := by
  rcases S3.isS_cases n with ⟨h, h1, h2⟩ | ⟨h, h1⟩ | ⟨h, h1, h2⟩
  all_goals
    have H := Lib.hid h
    clear h
    go_enter Try.func97, Try.ntmps97
    go_wp2
    go_ret
    exact ⟨ret_bool (by rw [H.out] <;> simp <;> omega), rfl⟩


theorem kvalid_any (k : Int) (w : World) (k0 : 0 ≤ k) (k1 : k ≤ 18446744073709551615) : Calls Try.prog 78 #[.int .u64 k] w fun e w' => e = .returned (.bool (S3.vk k)) ∧ w = w' := by
  rcases hc : S3.isC (k / 72057594037927936)
  all_goals
    go_enter Try.func78, Try.ntmps78
    go_wp2_with (first | (go_at_call 96; refine (kisClass_any _ _).mono ?_; rintro e w' ⟨rfl, rfl⟩) | (go_at_call 97; refine (kisSerial_any _ _).mono ?_; rintro e w' ⟨rfl, rfl⟩))
    go_ret
    exact ⟨ret_bool (by simp [S3.vk, hc]), rfl⟩



end Go.Proofs.Ytkhkmgblgonfoaa
