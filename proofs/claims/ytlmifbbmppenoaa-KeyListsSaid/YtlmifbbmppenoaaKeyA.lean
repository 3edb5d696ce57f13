/-
  What Make, Class, Serial and Valid of package key return.
-/
import Derived.Test.YtlmifbbmppenoaaBase
import Derived.Test.YtlmifbbmppenoaaKeyPlain
namespace Go.Proofs.Ytlmifbbmppenoaa
open Go.RowKit

theorem kisClass_any (n : Int) (w : World) : Calls Try.prog 29 #[.int .i64 n] w fun e w' => e = .returned (.bool (S3.isC n)) ∧ w = w' := by
  rcases S3.isC_cases n with ⟨h, rfl⟩ | ⟨h, rfl⟩ | ⟨h, h1, h2⟩
  all_goals
    have H := Lib.hid h
    clear h
    go_enter Try.func29, Try.ntmps29
    go_wp2
    go_ret
    exact ⟨ret_bool (by rw [H.out] <;> simp <;> omega), rfl⟩

theorem kisSerial_any (n : Int) (w : World) : Calls Try.prog 30 #[.int .i64 n] w fun e w' => e = .returned (.bool (S3.isS n)) ∧ w = w' := by
  rcases S3.isS_cases n with ⟨h, h1, h2⟩ | ⟨h, h1⟩ | ⟨h, h1, h2⟩
  all_goals
    have H := Lib.hid h
    clear h
    go_enter Try.func30, Try.ntmps30
    go_wp2
    go_ret
    exact ⟨ret_bool (by rw [H.out] <;> simp <;> omega), rfl⟩

theorem kmake_any (c s : Int) (w : World) : Calls Try.prog 9 #[.int .i64 c, .int .i64 s] w fun e w' => e = .returned (.int .u64 (S3.mk c s)) ∧ w = w' := by
  rcases hc : S3.isC c
  · go_enter Try.func9, Try.ntmps9
    go_wp2_with (first | (go_at_call 29; refine (kisClass_any _ _).mono ?_; rintro e w' ⟨rfl, rfl⟩) | (go_at_call 30; refine (kisSerial_any _ _).mono ?_; rintro e w' ⟨rfl, rfl⟩))
    go_ret
    exact ⟨ret_int (S3.mk_noC hc).symm, rfl⟩
  · rcases hs : S3.isS s
    · go_enter Try.func9, Try.ntmps9
      go_wp2_with (first | (go_at_call 29; refine (kisClass_any _ _).mono ?_; rintro e w' ⟨rfl, rfl⟩) | (go_at_call 30; refine (kisSerial_any _ _).mono ?_; rintro e w' ⟨rfl, rfl⟩))
      go_ret
      exact ⟨ret_int (S3.mk_noS hs).symm, rfl⟩
    · have e := Lib.hid (S3.mk_yes hc hs)
      obtain ⟨s1, s2⟩ := S3.isS_iff.1 hs
      rcases S3.isC_iff.1 hc with rfl | rfl
      all_goals
        go_enter Try.func9, Try.ntmps9
        go_wp2_with (first | (go_at_call 29; refine (kisClass_any _ _).mono ?_; rintro e w' ⟨rfl, rfl⟩) | (go_at_call 30; refine (kisSerial_any _ _).mono ?_; rintro e w' ⟨rfl, rfl⟩))
        go_ret
        exact ⟨ret_int (by rw [e.out]; first | rfl | omega), rfl⟩

theorem kvalid_any (k : Int) (w : World) (k0 : 0 ≤ k) (k1 : k ≤ 18446744073709551615) : Calls Try.prog 11 #[.int .u64 k] w fun e w' => e = .returned (.bool (S3.vk k)) ∧ w = w' := by
  rcases hc : S3.isC (k / 72057594037927936)
  all_goals
    go_enter Try.func11, Try.ntmps11
    go_wp2_with (first | (go_at_call 29; refine (kisClass_any _ _).mono ?_; rintro e w' ⟨rfl, rfl⟩) | (go_at_call 30; refine (kisSerial_any _ _).mono ?_; rintro e w' ⟨rfl, rfl⟩))
    go_ret
    exact ⟨ret_bool (by simp [S3.vk, hc]), rfl⟩

theorem kclass_any (k : Int) (w : World) (k0 : 0 ≤ k) (k1 : k ≤ 18446744073709551615) : Calls Try.prog 12 #[.int .u64 k] w fun e w' => e = .returned (.int .i64 (S3.ck k)) ∧ w = w' := by
  rcases h : S3.vk k
  all_goals
    go_enter Try.func12, Try.ntmps12
    go_wp2_with (first | (go_at_call 11; refine (kvalid_any _ _ k0 k1).mono ?_; rintro e w' ⟨rfl, rfl⟩))
    go_ret
    exact ⟨ret_int (by simp [S3.ck, h]), rfl⟩

theorem kserial_any (k : Int) (w : World) (k0 : 0 ≤ k) (k1 : k ≤ 18446744073709551615) : Calls Try.prog 13 #[.int .u64 k] w fun e w' => e = .returned (.int .i64 (S3.sk k)) ∧ w = w' := by
  rcases h : S3.vk k
  all_goals
    go_enter Try.func13, Try.ntmps13
    go_wp2_with (first | (go_at_call 11; refine (kvalid_any _ _ k0 k1).mono ?_; rintro e w' ⟨rfl, rfl⟩))
    go_ret
    exact ⟨ret_int (by simp [S3.sk, h]), rfl⟩

end Go.Proofs.Ytlmifbbmppenoaa
