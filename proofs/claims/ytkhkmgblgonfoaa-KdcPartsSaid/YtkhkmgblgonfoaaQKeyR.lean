/-
  What Make, Class, Serial and Valid of the document's answer for keys return: the same as the code's.
-/
import Derived.Test.YtkhkmgblgonfoaaQKeyPlain
namespace Go.Proofs.Ytkhkmgblgonfoaa
open Go.RowKit

theorem r3make_any (c s : Int) (w : World) : Calls Try.prog 79 #[.int .i64 c, .int .i64 s] w fun e w' => e = .returned (.int .u64 (S3.mk c s)) ∧ w = w' := by
  rcases S3.isC_cases c with ⟨hc, rfl⟩ | ⟨hc, rfl⟩ | ⟨hc, h1, h2⟩
  · rcases S3.isS_cases s with ⟨hs, s1, s2⟩ | ⟨hs, s1⟩ | ⟨hs, s1, s2⟩
    · have e := Lib.hid (S3.mk_yes hc hs)
      clear hc hs
      go_enter Try.func79, Try.ntmps79
      go_wp2
      go_ret
      exact ⟨ret_int (by rw [e.out]; exact or64 56 1 s (by omega) (by omega) (by omega) (by omega)), rfl⟩
    all_goals
      have e := Lib.hid (S3.mk_noS (c := 1) hs)
      clear hc hs
      go_enter Try.func79, Try.ntmps79
      go_wp2
      go_ret
      exact ⟨ret_int e.out.symm, rfl⟩
  · rcases S3.isS_cases s with ⟨hs, s1, s2⟩ | ⟨hs, s1⟩ | ⟨hs, s1, s2⟩
    · have e := Lib.hid (S3.mk_yes hc hs)
      clear hc hs
      go_enter Try.func79, Try.ntmps79
      go_wp2
      go_ret
      exact ⟨ret_int (by rw [e.out]; exact or64 56 2 s (by omega) (by omega) (by omega) (by omega)), rfl⟩
    all_goals
      have e := Lib.hid (S3.mk_noS (c := 2) hs)
      clear hc hs
      go_enter Try.func79, Try.ntmps79
      go_wp2
      go_ret
      exact ⟨ret_int e.out.symm, rfl⟩
  · have e := Lib.hid (S3.mk_noC (s := s) hc)
    clear hc
    go_enter Try.func79, Try.ntmps79
    go_wp2
    go_ret
    exact ⟨ret_int e.out.symm, rfl⟩

theorem r3valid_any (k : Int) (w : World) (k0 : 0 ≤ k) (k1 : k ≤ 18446744073709551615) : Calls Try.prog 45 #[.int .u64 k] w fun e w' => e = .returned (.bool (S3.vk k)) ∧ w = w' := by
  by_cases hk : k = 0
  · subst hk
    go_enter Try.func45, Try.ntmps45
    go_wp2
    go_ret
    exact ⟨rfl, rfl⟩
  · have ha : bits .and .u64 k 72057594037927935 = k % 72057594037927936 := and64 56 k k0 k1 _ rfl (by decide)
    have hv := Lib.hid (S3.vk_ref k)
    by_cases he : S3.mk (k / 72057594037927936) (k % 72057594037927936) = k
    all_goals
      go_enter Try.func45, Try.ntmps45
      go_wp2_with (first | (go_at_call 79; refine (r3make_any _ _ _).mono ?_; rintro e w' ⟨rfl, rfl⟩))
      go_ret
      exact ⟨ret_bool (by rw [hv.out]; simp [hk, he]), rfl⟩



end Go.Proofs.Ytkhkmgblgonfoaa
