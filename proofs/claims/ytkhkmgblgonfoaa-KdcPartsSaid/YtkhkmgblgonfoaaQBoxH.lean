/-
  The keys, bodies and spoilt bytes that the laws of chapter 4 make; the example that they try first.
-/
import Derived.Test.YtkhkmgblgonfoaaQBoxA
import Derived.Deep.RegionLaw
namespace Go.Proofs.Ytkhkmgblgonfoaa
open Go.RowKit

/-- The key of a class and a byte. -/
def keyOf (c n : Int) : Int := c * 72057594037927936 + (1 + n)
theorem keyOf_facts {c n : Int} (hc : c = 1 ∨ c = 2) (n0 : 0 ≤ n) (n1 : n ≤ 255) : S3.vk (keyOf c n) = true ∧ 0 ≤ keyOf c n ∧ keyOf c n ≤ 18446744073709551615 := S4.key_of hc n0 n1


theorem session_any (n : Int) (w : World) (n0 : 0 ≤ n) (n1 : n ≤ 255) : Calls Try.prog 59 #[.int .i64 n] w fun e w' => e = .returned (.int .u64 (keyOf 2 n)) ∧ w = w' := by
  have ho := or64 56 2 (1 + n) (by omega) (by omega) (by show 1 + n < 72057594037927936; omega) (by show 2 * 72057594037927936 + (1 + n) ≤ _; omega)
  go_enter Try.func59, Try.ntmps59
  go_wp2
  go_ret
  exact ⟨ret_int (by unfold keyOf; exact ho), rfl⟩



end Go.Proofs.Ytkhkmgblgonfoaa
