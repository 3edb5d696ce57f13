/-
  What the proof wants: MsgR, KdU.
-/
import Derived.Test.YtkhkmgblgonfoaaDoorQBase
import Derived.Test.YtkhkmgblgonfoaaDoorQDataP

/-
  The texts of codes: what Message of the document's answer for chapter 9 returns.
-/
namespace Go.Proofs.YtkhkmgblgonfoaaDoor
open Go.RowKit
set_option maxRecDepth 100000

def msgL : List ByteArray := [⟨#[]⟩, "client expired".toUTF8, "service expired".toUTF8, "no lifetime left".toUTF8, "protocol version".toUTF8, "not a client".toUTF8, "not a service".toUTF8, "byte order".toUTF8, "principal unknown".toUTF8, "principal not unique".toUTF8, "no key".toUTF8]
def msgS (n : Int) : ByteArray := if n < 1 ∨ 10 < n then "request refused".toUTF8 else msgL.getD n.toNat ⟨#[]⟩

set_option maxHeartbeats 1600000 in
theorem r9msg_any (n : Int) (w : World) (h0 : -9223372036854775808 ≤ n) (h1 : n ≤ 9223372036854775807) : Calls Tryd.prog 11 #[.int .i64 n] w fun e w' => e = .returned (.string (msgS n)) ∧ Below w.heap.size w w' := by
  have hways : n < 1 ∨ 10 < n ∨ n = 1 ∨ n = 2 ∨ n = 3 ∨ n = 4 ∨ n = 5 ∨ n = 6 ∨ n = 7 ∨ n = 8 ∨ n = 9 ∨ n = 10 := by omega
  rcases hways with h | h | rfl | rfl | rfl | rfl | rfl | rfl | rfl | rfl | rfl | rfl
  · have hm : msgS n = "request refused".toUTF8 := by unfold msgS; rw [if_pos (.inl h)]
    rw [hm]
    go_enter Tryd.func11, Tryd.ntmps11
    go_wp2_with (fail)
    go_ret
    exact ⟨by congr 1, by first | exact Below.refl _ _ | exact (Below.refl _ _).alloc (Nat.le_refl _) _⟩
  · have hm : msgS n = "request refused".toUTF8 := by unfold msgS; rw [if_pos (.inr h)]
    rw [hm]
    have h' : 1 ≤ n := by omega
    go_enter Tryd.func11, Tryd.ntmps11
    go_wp2_with (fail)
    go_ret
    exact ⟨by congr 1, by first | exact Below.refl _ _ | exact (Below.refl _ _).alloc (Nat.le_refl _) _⟩
  all_goals
    go_enter Tryd.func11, Tryd.ntmps11
    go_wp2_with (fail)
    go_ret
    exact ⟨by congr 1, by first | exact Below.refl _ _ | exact (Below.refl _ _).alloc (Nat.le_refl _) _⟩

end Go.Proofs.YtkhkmgblgonfoaaDoor

/-
  Users and realms of plain data are short.
-/
namespace Go.Proofs.YtkhkmgblgonfoaaDoor
open Go.RowKit

theorem userS_size (n : Int) : (userS n).size ≤ maxLen := by rcases user_cases n with h | h | h <;> rw [h] <;> decide
theorem realmS_size (n : Int) : (realmS n).size ≤ maxLen := by rcases realm_cases n with h | h | h <;> rw [h] <;> decide

end Go.Proofs.YtkhkmgblgonfoaaDoor
