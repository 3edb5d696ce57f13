/-
  The law LifetimeStates: whether a ticket is valid at a time, and that a valid one lies within its limits.
-/
import Derived.Test.YtfllenakphcfgaaLifeH
import Derived.Test.YtfllenakphcfgaaLifeS
namespace Go.Proofs.Ytfllenakphcfgaa
open Go.RowKit

theorem state_ok {i l n s : Int} (h : S2.stateV i l n s = 0) : i - s ≤ n ∧ n ≤ S2.endV i l + s := by
  unfold S2.stateV at h
  split at h
  · cases h
  · split at h
    · cases h
    · split at h
      · cases h
      · omega

set_option maxHeartbeats 800000 in
theorem statesLaw_walk (i l n s a b c d : Int) (w : World) (_ : -9223372036854775808 ≤ i) (_ : i ≤ 9223372036854775807) (_ : -9223372036854775808 ≤ l) (_ : l ≤ 9223372036854775807) (_ : -9223372036854775808 ≤ n) (_ : n ≤ 9223372036854775807) (_ : -9223372036854775808 ≤ s) (_ : s ≤ 9223372036854775807) (a0 : 0 ≤ a) (a1 : a ≤ 65535) (b0 : 0 ≤ b) (b1 : b ≤ 65535) (c0 : 0 ≤ c) (c1 : c ≤ 65535) (d0 : 0 ≤ d) (d1 : d ≤ 65535) :
    Calls Try.prog 8 #[.int .i64 i, .int .i64 l, .int .i64 n, .int .i64 s, .int .u16 a, .int .u16 b, .int .u16 c, .int .u16 d] w fun e w' => e = .returned (.bool true) ∧ Below w.heap.size w w' := by
  obtain ⟨v, hv⟩ : ∃ v, v = S2.stateV i l n s := ⟨_, rfl⟩
  obtain ⟨u, hu⟩ : ∃ u, u = S2.stateV a (b % 270) (a + c - 20000) (d % 900) := ⟨_, rfl⟩
  obtain ⟨t, ht⟩ : ∃ t, t = S2.endV a (b % 270) := ⟨_, rfl⟩
  have t0 : 0 ≤ t ∧ t ≤ 200000 := by
    rw [ht]; unfold S2.endV
    split
    · omega
    · omega
  obtain ⟨t0, t1⟩ := t0
  have HV := Lib.hid hv
  have HU := Lib.hid hu
  have HT := Lib.hid ht
  clear hv
  by_cases h0 : u = 0
  · obtain ⟨k1, k2⟩ := state_ok (hu.symm.trans h0)
    rw [← ht] at k2
    clear hu ht
    subst h0
    go_enter Try.func8, Try.ntmps8
    go_wp2_with (fail)
    refine (awake2_any _).mono ?_
    rintro e w1 ⟨rfl, B⟩
    go_wp2_with (fail)
    refine (state_any _ _ _ _ _).mono ?_
    rintro e w' ⟨rfl, rfl⟩
    rw [← HV.out]
    go_wp2_with (fail)
    refine (r2state_any _ _ _ _ _).mono ?_
    rintro e w' ⟨rfl, rfl⟩
    rw [← HV.out]
    go_wp2_with (fail)
    refine (state_any _ _ _ _ _).mono ?_
    rintro e w' ⟨rfl, rfl⟩
    rw [← HU.out]
    go_wp2_with (fail)
    refine (r2state_any _ _ _ _ _).mono ?_
    rintro e w' ⟨rfl, rfl⟩
    rw [← HU.out]
    go_wp2_with (fail)
    refine (end_any _ _ _).mono ?_
    rintro e w' ⟨rfl, rfl⟩
    rw [← HT.out]
    go_wp2_with (fail)
    go_ret
    exact ⟨ret_bool (by simp <;> omega), B⟩
  · have hb : (u == 0) = false := by simpa using h0
    have hb2 : (u != 0) = true := by simpa using h0
    clear hu ht h0
    go_enter Try.func8, Try.ntmps8
    go_wp2_with (fail)
    refine (awake2_any _).mono ?_
    rintro e w1 ⟨rfl, B⟩
    go_wp2_with (fail)
    refine (state_any _ _ _ _ _).mono ?_
    rintro e w' ⟨rfl, rfl⟩
    rw [← HV.out]
    go_wp2_with (fail)
    refine (r2state_any _ _ _ _ _).mono ?_
    rintro e w' ⟨rfl, rfl⟩
    rw [← HV.out]
    go_wp2_with (fail)
    refine (state_any _ _ _ _ _).mono ?_
    rintro e w' ⟨rfl, rfl⟩
    rw [← HU.out]
    go_wp2_with (fail)
    refine (r2state_any _ _ _ _ _).mono ?_
    rintro e w' ⟨rfl, rfl⟩
    rw [← HU.out]
    go_wp2_with (fail)
    go_ret
    exact ⟨rfl, B⟩

end Go.Proofs.Ytfllenakphcfgaa
