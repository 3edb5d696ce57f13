/-
  The law LifetimeSeconds: FromSeconds is the greatest lifetime that fits.
-/
import Derived.Test.YtfllenakphcfgaaLifeH
namespace Go.Proofs.Ytfllenakphcfgaa
open Go.RowKit

set_option maxHeartbeats 400000 in
theorem secondsLaw_walk (n : Int) (w : World) (n0 : 0 ≤ n) (n1 : n ≤ 4294967295) :
    Calls Try.prog 4 #[.int .u32 n] w fun e w' => e = .returned (.bool true) ∧ Below w.heap.size w w' := by
  by_cases h : n % 100000 < 300
  · obtain ⟨e1, e2⟩ := S2.from_no h
    have E1 := Lib.hid e1
    have E2 := Lib.hid e2
    clear e1 e2
    go_enter Try.func4, Try.ntmps4
    go_wp2_with (fail)
    refine (awake2_any _).mono ?_
    rintro e w1 ⟨rfl, hb1⟩
    go_wp2_with (fail)
    refine (fromSeconds_any _ _ (by omega)).mono ?_
    rintro e w2 ⟨rfl, hb2⟩
    rw [E1.out, E2.out]
    go_wp2_with (fail)
    go_ret
    exact ⟨ret_bool (by simp <;> omega), below_keep hb2 hb1⟩
  · obtain ⟨e1, e2⟩ := S2.from_yes (n := n % 100000) (by omega)
    obtain ⟨m, hm⟩ : ∃ m, m = min (n % 100000 / 300 - 1) 255 := ⟨_, rfl⟩
    have m0 : 0 ≤ m := by omega
    have m1 : m ≤ 255 := by omega
    rw [← hm] at e1
    have hE1 := S2.endV_yes (i := 0) (l := m) (by decide) (S2.isL_yes m0 m1)
    have E1 := Lib.hid e1
    have E2 := Lib.hid e2
    have E3 := Lib.hid hE1
    have HM := Lib.hid hm
    have c1 : 0 + 300 * (m + 1) ≤ n % 100000 := by omega
    clear e1 e2 hE1
    by_cases h2 : m = 255
    · clear hm
      subst h2
      go_enter Try.func4, Try.ntmps4
      go_wp2_with (fail)
      refine (awake2_any _).mono ?_
      rintro e w1 ⟨rfl, hb1⟩
      go_wp2_with (fail)
      refine (fromSeconds_any _ _ (by omega)).mono ?_
      rintro e w2 ⟨rfl, hb2⟩
      rw [E1.out, E2.out]
      go_wp2_with (go_at_call 11; refine (end_any _ _ _).mono ?_; rintro e w' ⟨rfl, rfl⟩; rw [E3.out])
      go_ret
      exact ⟨ret_bool (by simp <;> omega), below_keep hb2 hb1⟩
    · have hb : (m == 255) = false := by simpa using h2
      have c2 : n % 100000 < 0 + 300 * (m + 1 + 1) := by omega
      have hE2 := S2.endV_yes (i := 0) (l := m + 1) (by decide) (S2.isL_yes (by omega) (by omega))
      have E4 := Lib.hid hE2
      clear hE2 h2 hm
      go_enter Try.func4, Try.ntmps4
      go_wp2_with (fail)
      refine (awake2_any _).mono ?_
      rintro e w1 ⟨rfl, hb1⟩
      go_wp2_with (fail)
      refine (fromSeconds_any _ _ (by omega)).mono ?_
      rintro e w2 ⟨rfl, hb2⟩
      rw [E1.out, E2.out]
      go_wp2_with (fail)
      refine (end_any _ _ _).mono ?_
      rintro e w' ⟨rfl, rfl⟩
      rw [E3.out]
      go_wp2_with (fail)
      refine (end_any _ _ _).mono ?_
      rintro e w' ⟨rfl, rfl⟩
      rw [E4.out]
      go_wp2_with (fail)
      go_ret
      exact ⟨ret_bool (by simp <;> omega), below_keep hb2 hb1⟩

end Go.Proofs.Ytfllenakphcfgaa
