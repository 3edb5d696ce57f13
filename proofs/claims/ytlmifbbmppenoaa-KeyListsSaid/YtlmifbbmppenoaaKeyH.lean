/-
  The example of chapter 3, that the laws try first.
-/
import Derived.Test.YtlmifbbmppenoaaKeyDraw
namespace Go.Proofs.Ytlmifbbmppenoaa
open Go.RowKit

theorem draw_awake : S3.drawS [S3.mk 2 5, S3.mk 2 6] 2 5 = 7 := by
  have hw : S3.wantV 5 = 5 := by decide
  have hf : S3.free (S3.used [S3.mk 2 5, S3.mk 2 6] 2) 5 (S3.span 5 4294967295) = 7 := by
    rw [show S3.span 5 4294967295 = 4294967288 + 1 + 1 + 1 by decide, S3.free_go (by decide), S3.free_go (by decide), S3.free_stop (by decide)]; rfl
  rw [S3.drawS_one (by decide) (by rw [hw, hf]; decide), hw, hf]

set_option maxHeartbeats 400000 in
theorem awake3_any (w : World) : Calls Try.prog 8 #[] w fun e w' => e = .returned (.bool true) ∧ Below w.heap.size w w' := by
  have e1 := Lib.hid (S3.mk_range 2 5)
  have e2 := Lib.hid (S3.mk_range 2 6)
  have e3 := S3.mk_range 2 7
  have e4 := Lib.hid draw_awake
  have e5 := Lib.hid (show S3.sk (S3.mk 2 7) = 7 by decide)
  have e6 := Lib.hid (show S3.ck (S3.mk 2 7) = 2 by decide)
  have e7 := Lib.hid (show S3.vk (S3.mk 2 7) = true by decide)
  go_enter Try.func8, Try.ntmps8
  go_wp2_with (first | (go_at_call 9; refine (kmake_any _ _ _).mono ?_; rintro e w' ⟨rfl, rfl⟩))
  refine (kdraw_any _ _ _ [S3.mk 2 5, S3.mk 2 6] _ _ _ (RowK.new .u64 w [S3.mk 2 5, S3.mk 2 6] _ (by
    intro n hn
    simp only [List.mem_cons, List.not_mem_nil, or_false] at hn
    rcases hn with rfl | rfl
    · exact e1.out
    · exact e2.out)) (by decide)).mono ?_
  rintro e w1 ⟨rfl, hb⟩
  rw [e4.out]
  go_wp2_with (fail)
  refine (kserial_any _ _ e3.1 e3.2).mono ?_
  rintro e w' ⟨rfl, rfl⟩
  rw [e5.out]
  go_wp2_with (fail)
  refine (kclass_any _ _ e3.1 e3.2).mono ?_
  rintro e w' ⟨rfl, rfl⟩
  rw [e6.out]
  go_wp2_with (fail)
  refine (kvalid_any _ _ e3.1 e3.2).mono ?_
  rintro e w' ⟨rfl, rfl⟩
  rw [e7.out]
  go_wp2_with (fail)
  go_ret
  exact ⟨rfl, below_keep hb ((Below.refl _ _).alloc (Nat.le_refl _) _)⟩

end Go.Proofs.Ytlmifbbmppenoaa
