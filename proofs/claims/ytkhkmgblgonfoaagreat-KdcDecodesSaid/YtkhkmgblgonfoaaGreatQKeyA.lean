/-
  What Make, Class, Serial and Valid of package key return.
-/
import Derived.Test.YtkhkmgblgonfoaaGreatQBase
import Derived.Test.YtkhkmgblgonfoaaGreatQKeyPlain
namespace Go.Proofs.YtkhkmgblgonfoaaGreat
open Go.RowKit

theorem kisClass_any (n : Int) (w : World) : Calls Tryz.prog 124 #[.int .i64 n] w fun e w' => e = .returned (.bool (S3.isC n)) ∧ w = w' := by
  rcases S3.isC_cases n with ⟨h, rfl⟩ | ⟨h, rfl⟩ | ⟨h, h1, h2⟩
  all_goals
    have H := Lib.hid h
    clear h
    go_enter Tryz.func124, Tryz.ntmps124
    go_wp2
    go_ret
    exact ⟨ret_bool (by rw [H.out] <;> simp <;> omega), rfl⟩

theorem kisSerial_any (n : Int) (w : World) : Calls Tryz.prog 125 #[.int .i64 n] w fun e w' => e = .returned (.bool (S3.isS n)) ∧ w = w' := by
  rcases S3.isS_cases n with ⟨h, h1, h2⟩ | ⟨h, h1⟩ | ⟨h, h1, h2⟩
  all_goals
    have H := Lib.hid h
    clear h
    go_enter Tryz.func125, Tryz.ntmps125
    go_wp2
    go_ret
    exact ⟨ret_bool (by rw [H.out] <;> simp <;> omega), rfl⟩


theorem kvalid_any (k : Int) (w : World) (k0 : 0 ≤ k) (k1 : k ≤ 18446744073709551615) : Calls Tryz.prog 117 #[.int .u64 k] w fun e w' => e = .returned (.bool (S3.vk k)) ∧ w = w' := by
  rcases hc : S3.isC (k / 72057594037927936)
  all_goals
    go_enter Tryz.func117, Tryz.ntmps117
    go_wp2_with (first | (go_at_call 124; refine (kisClass_any _ _).mono ?_; rintro e w' ⟨rfl, rfl⟩) | (go_at_call 125; refine (kisSerial_any _ _).mono ?_; rintro e w' ⟨rfl, rfl⟩))
    go_ret
    exact ⟨ret_bool (by simp [S3.vk, hc]), rfl⟩



end Go.Proofs.YtkhkmgblgonfoaaGreat
