/-
  The examples of chapter 5, that the laws try first.
-/
import Derived.Test.YtnipccnfdgdknaaFieldC
import Derived.Test.YtnipccnfdgdknaaFieldTrip
namespace Go.Proofs.Ytnipccnfdgdknaa
open Go.RowKit

set_option maxHeartbeats 800000 in
theorem awake5_any (w : World) : Calls Try.prog 7 #[] w fun e w' => e = .returned (.bool true) ∧ Below w.heap.size w w' := by
  have P := Lib.hid (fputNumber_any none 0 0 [] 1 true w (Sl.nil w) (by decide))
  have s0 := Lib.hid (show strOfNums ([] ++ S5.num4 true 1) = ⟨#[1, 0, 0, 0]⟩ by decide)
  have s1 := Lib.hid (show strOfNums (S5.txS [97, 0, 98] 0) = ⟨#[97]⟩ by decide)
  have s2 := Lib.hid (show S5.txN [97, 0, 98] 0 = 2 by decide)
  have s3 := Lib.hid (show S5.txE [97, 0, 98] 0 = 0 by decide)
  go_enter Try.func7, Try.ntmps7
  go_wp2_with (fail)
  refine P.out.mono ?_
  rintro e w1 ⟨A1, n1, c1, rfl, hs1, hb1, _⟩
  replace hs1 := Lib.hid hs1
  have T := ftext_any _ _ _ [97, 0, 98] 0 _ (Sl.new w1 [97, 0, 98] 5 (by decide) (by decide)) (by decide)
  rw [s1.out, s2.out, s3.out] at T
  replace T := Lib.hid T
  go_wp2_with (fail)
  refine T.out.mono ?_
  rintro e w2 ⟨rfl, hb2⟩
  have Ba : Below w1.heap.size w1 (w1.alloc (.cells #[.int .u8 97, .int .u8 0, .int .u8 98] 5)) := (Below.refl _ _).alloc (Nat.le_refl _) _
  have f1 := conv_sl ((hs1.out.keep Ba).keep hb2)
  rw [s0.out] at f1
  have B2 := below_keep hb2 (below_keep Ba hb1)
  clear hb2 hb1 Ba
  go_wp2_with (fail)
  go_ret
  exact ⟨rfl, B2⟩

end Go.Proofs.Ytnipccnfdgdknaa
