/-
  What Near and State of the document's own answers return.
-/
import Derived.Test.YtfllenakphcfgaaLifeR
namespace Go.Proofs.Ytfllenakphcfgaa
open Go.RowKit

theorem r2near_any (a b s : Int) (w : World) : Calls Try.prog 18 #[.int .i64 a, .int .i64 b, .int .i64 s] w fun e w' => e = .returned (.bool (S2.near a b s)) ∧ w = w' := by
  rcases S2.isT_cases a with ⟨ha, a0, a1⟩ | ha
  · rcases S2.isT_cases b with ⟨hb, b0, b1⟩ | hb
    · rcases S2.isT_cases3 s with ⟨hs, s0, s1⟩ | ⟨hs, s0⟩ | ⟨hs, s0, s1⟩
      · have hab : S2.near a b s = decide (a - b ≤ s ∧ b - a ≤ s) := by simp [S2.near, ha, hb, hs]
        have H := Lib.hid hab
        clear hab
        go_enter Try.func18, Try.ntmps18
        go_wp2_with ((go_at_call 23; refine (r2time_any _ _).mono ?_; rintro e w' ⟨rfl, rfl⟩))
        all_goals
          go_ret
          exact ⟨ret_bool (by rw [H.out]; first | (rw [decide_eq_decide]; omega) | (symm; simp; omega)), rfl⟩
      all_goals
        have hv : S2.near a b s = false := by simp [S2.near, hs]
        rw [hv]
        clear hv
        go_enter Try.func18, Try.ntmps18
        go_wp2_with ((go_at_call 23; refine (r2time_any _ _).mono ?_; rintro e w' ⟨rfl, rfl⟩))
        go_ret
        exact ⟨rfl, rfl⟩
    · go_enter Try.func18, Try.ntmps18
      go_wp2_with ((go_at_call 23; refine (r2time_any _ _).mono ?_; rintro e w' ⟨rfl, rfl⟩))
      go_ret
      exact ⟨ret_bool (by simp [S2.near, hb]), rfl⟩
  · go_enter Try.func18, Try.ntmps18
    go_wp2_with ((go_at_call 23; refine (r2time_any _ _).mono ?_; rintro e w' ⟨rfl, rfl⟩))
    go_ret
    exact ⟨ret_bool (by simp [S2.near, ha]), rfl⟩

theorem r2state_any (i l n s : Int) (w : World) : Calls Try.prog 20 #[.int .i64 i, .int .i64 l, .int .i64 n, .int .i64 s] w fun e w' => e = .returned (.int .i64 (S2.stateV i l n s)) ∧ w = w' := by
  rcases h : (S2.isT i && S2.isT n && S2.isL l && S2.isT s)
  · have hv : S2.stateV i l n s = 104 := by unfold S2.stateV; rw [if_pos h]
    rw [hv]
    clear hv
    rcases hi : S2.isT i
    · clear h
      go_enter Try.func20, Try.ntmps20
      go_wp2_with ((go_at_call 23; refine (r2time_any _ _).mono ?_; rintro e w' ⟨rfl, rfl⟩))
      go_ret
      exact ⟨rfl, rfl⟩
    rcases hn : S2.isT n
    · clear h
      go_enter Try.func20, Try.ntmps20
      go_wp2_with ((go_at_call 23; refine (r2time_any _ _).mono ?_; rintro e w' ⟨rfl, rfl⟩))
      go_ret
      exact ⟨rfl, rfl⟩
    rcases S2.isL_cases l with ⟨hl, l0, l1⟩ | ⟨hl, l0⟩ | ⟨hl, l0, l1⟩
    · have hs : S2.isT s = false := by simpa [hi, hn, hl] using h
      clear h
      rcases S2.isT_cases3 s with ⟨hs, s0, s1⟩ | ⟨hs, s0⟩ | ⟨hs, s0, s1⟩
      · simp_all
      all_goals
        go_enter Try.func20, Try.ntmps20
        go_wp2_with ((go_at_call 23; refine (r2time_any _ _).mono ?_; rintro e w' ⟨rfl, rfl⟩))
        go_ret
        exact ⟨rfl, rfl⟩
    all_goals
      clear h
      go_enter Try.func20, Try.ntmps20
      go_wp2_with ((go_at_call 23; refine (r2time_any _ _).mono ?_; rintro e w' ⟨rfl, rfl⟩))
      go_ret
      exact ⟨rfl, rfl⟩
  · have hd := h
    simp only [Bool.and_eq_true] at hd
    obtain ⟨⟨⟨hi, hn⟩, hl⟩, hs⟩ := hd
    obtain ⟨i0, i1⟩ : 0 ≤ i ∧ i ≤ 4294967295 := by simpa [S2.isT] using hi
    obtain ⟨n0, n1⟩ : 0 ≤ n ∧ n ≤ 4294967295 := by simpa [S2.isT] using hn
    obtain ⟨l0, l1⟩ : 0 ≤ l ∧ l ≤ 255 := by simpa [S2.isL] using hl
    obtain ⟨s0, s1⟩ : 0 ≤ s ∧ s ≤ 4294967295 := by simpa [S2.isT] using hs
    have hv : S2.stateV i l n s = if n + s < i then 33 else if S2.endV i l + s < n then 32 else 0 := by unfold S2.stateV; rw [if_neg (by rw [h]; decide)]
    have hE := S2.endV_yes hi hl
    clear h
    by_cases h1 : n + s < i
    · rw [if_pos h1] at hv
      rw [hv]
      clear hv hE
      go_enter Try.func20, Try.ntmps20
      go_wp2_with ((go_at_call 23; refine (r2time_any _ _).mono ?_; rintro e w' ⟨rfl, rfl⟩))
      go_ret
      exact ⟨rfl, rfl⟩
    · rw [if_neg h1, hE] at hv
      have HE := Lib.hid hE
      clear hE
      by_cases h2 : i + 300 * (l + 1) + s < n
      · rw [if_pos h2] at hv
        rw [hv]
        clear hv
        go_enter Try.func20, Try.ntmps20
        go_wp2_with (first | (go_at_call 23; refine (r2time_any _ _).mono ?_; rintro e w' ⟨rfl, rfl⟩) | (go_at_call 12; refine (r2end_any _ _ _).mono ?_; rintro e w' ⟨rfl, rfl⟩; rw [HE.out]))
        go_ret
        exact ⟨rfl, rfl⟩
      · rw [if_neg h2] at hv
        rw [hv]
        clear hv
        go_enter Try.func20, Try.ntmps20
        go_wp2_with (first | (go_at_call 23; refine (r2time_any _ _).mono ?_; rintro e w' ⟨rfl, rfl⟩) | (go_at_call 12; refine (r2end_any _ _ _).mono ?_; rintro e w' ⟨rfl, rfl⟩; rw [HE.out]))
        go_ret
        exact ⟨rfl, rfl⟩

end Go.Proofs.Ytfllenakphcfgaa
