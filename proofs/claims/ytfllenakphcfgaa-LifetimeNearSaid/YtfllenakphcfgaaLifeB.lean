/-
  What FromSeconds, Grant, Near and State of package lifetime return.
-/
import Derived.Test.YtfllenakphcfgaaLifeA
namespace Go.Proofs.Ytfllenakphcfgaa
open Go.RowKit

theorem RowK.one (w : World) (n : Int) (t : TypeId) (h : IntKind.i64.min ≤ n ∧ n ≤ IntKind.i64.max) : RowK .i64 (w.alloc (.cells #[.int .i64 n] t)) (some ⟨w.heap.size, 0, none⟩) 1 [n] :=
  ⟨rfl, by simpa using h, fun _ => ⟨_, _, rfl, fun i hi => by
    have : i = 0 := by simpa using hi
    subst this; simp [go_sem]⟩⟩

theorem fromSeconds_any (n : Int) (w : World) (hn : n ≤ 9223372036854775807) :
    Calls Try.prog 13 #[.int .i64 n] w fun e w' => e = .returned (.tuple #[.int .i64 (S2.fromN n), .bool (S2.fromOk n)]) ∧ Below w.heap.size w w' := by
  by_cases h : n < 300
  · obtain ⟨e1, e2⟩ := S2.from_no h
    rw [e1, e2]
    clear e1 e2
    go_enter Try.func13, Try.ntmps13
    go_wp2
    go_ret2
    exact ⟨rfl, Below.refl _ _⟩
  · have h' : 300 ≤ n := by omega
    obtain ⟨e1, e2⟩ := S2.from_yes h'
    have E1 := Lib.hid e1
    have E2 := Lib.hid e2
    clear e1 e2
    go_enter Try.func13, Try.ntmps13
    go_wp2_with (go_at_call 24; refine (least_any _ _ _ _ [255] _ (RowK.one w 255 _ (by decide)) (by decide)).mono ?_; rintro e w' ⟨rfl, rfl⟩)
    go_ret2
    refine ⟨?_, (Below.refl _ _).alloc (Nat.le_refl _) _⟩
    rw [E1.out, E2.out]
    rfl

set_option maxHeartbeats 400000 in
theorem grant_any (now want : Int) (a : Option Addr) (len cap : Nat) (zs : List Int) (w : World) (h : RowK .i64 w a len zs) (hl : len ≤ maxLen) (hw1 : want ≤ 9223372036854775807) (hw0 : -9223372036854775808 ≤ want) :
    Calls Try.prog 15 #[.int .i64 now, .int .i64 want, .slice a len cap] w fun e w' => e = .returned (.tuple #[.int .i64 (S2.grantN now want zs), .bool (S2.grantOk now want zs)]) ∧ Below w.heap.size w w' := by
  rcases S2.isT_cases now with ⟨ht, h0, h1⟩ | ht
  · by_cases hw : want < 0
    · obtain ⟨e1, e2⟩ := S2.grant_noW (now := now) (l := zs) hw
      rw [e1, e2]
      clear e1 e2
      go_enter Try.func15, Try.ntmps15
      go_wp2_with ((go_at_call 21; refine (isTime_any _ _).mono ?_; rintro e w' ⟨rfl, rfl⟩))
      go_ret2
      exact ⟨rfl, Below.refl _ _⟩
    · have hw' : 0 ≤ want := by omega
      have hend : S2.endV now 255 = now + 76800 := S2.endV_yes ht rfl
      have HE := Lib.hid hend
      clear hend
      obtain ⟨m, hm⟩ : ∃ m, m = S2.least (now + 76800) zs := ⟨_, rfl⟩
      have hm1 : m ≤ now + 76800 := by rw [hm]; exact S2.least_le _ _
      by_cases hp : m < now + 300
      · obtain ⟨e1, e2⟩ := S2.grant_past (now := now) (want := want) (l := zs) (by rw [← hm]; exact hp)
        rw [e1, e2]
        clear e1 e2
        have HM := Lib.hid hm
        clear hm
        by_cases hq : m < now
        · go_enter Try.func15, Try.ntmps15
          go_wp2_with (first | (go_at_call 21; refine (isTime_any _ _).mono ?_; rintro e w' ⟨rfl, rfl⟩) | (go_at_call 11; refine (end_any _ _ _).mono ?_; rintro e w' ⟨rfl, rfl⟩) | (go_at_call 24; rw [HE.out]; refine (least_any _ _ _ _ zs _ h hl).mono ?_; rintro e w' ⟨rfl, rfl⟩; rw [← HM.out]))
          go_ret2
          exact ⟨rfl, Below.refl _ _⟩
        · obtain ⟨e3, e4⟩ := S2.from_no (n := m - now) (by omega)
          have E3 := Lib.hid e3
          have E4 := Lib.hid e4
          clear e3 e4
          go_enter Try.func15, Try.ntmps15
          go_wp2_with (fail)
          refine (isTime_any _ _).mono ?_
          rintro e w' ⟨rfl, rfl⟩
          go_wp2_with (fail)
          refine (end_any _ _ _).mono ?_
          rintro e w' ⟨rfl, rfl⟩
          rw [HE.out]
          go_wp2_with (fail)
          refine (least_any _ _ _ _ zs _ h hl).mono ?_
          rintro e w' ⟨rfl, rfl⟩
          rw [← HM.out]
          go_wp2_with (fail)
          refine (fromSeconds_any _ _ (by omega)).mono ?_
          rintro e w1 ⟨rfl, hb⟩
          rw [E3.out, E4.out]
          go_wp2_with (fail)
          refine (least_any _ _ _ _ [want] _ (RowK.one _ want _ ⟨hw0, hw1⟩) (by decide)).mono ?_
          rintro e w' ⟨rfl, rfl⟩
          go_wp2_with (fail)
          go_ret2
          refine ⟨?_, hb.alloc hb.size _⟩
          rw [show S2.least 0 [want] = 0 from by show min 0 want = 0; omega]
          rfl
      · obtain ⟨e1, e2⟩ := S2.grant_room (now := now) (want := want) (l := zs) ht hw' (by rw [← hm]; omega)
        rw [← hm] at e2
        have E1 := Lib.hid e1
        have E2 := Lib.hid e2
        obtain ⟨e3, e4⟩ := S2.from_yes (n := m - now) (by omega)
        have E3 := Lib.hid e3
        have E4 := Lib.hid e4
        have HM := Lib.hid hm
        clear e1 e2 e3 e4 hm
        go_enter Try.func15, Try.ntmps15
        go_wp2_with (fail)
        refine (isTime_any _ _).mono ?_
        rintro e w' ⟨rfl, rfl⟩
        go_wp2_with (fail)
        refine (end_any _ _ _).mono ?_
        rintro e w' ⟨rfl, rfl⟩
        rw [HE.out]
        go_wp2_with (fail)
        refine (least_any _ _ _ _ zs _ h hl).mono ?_
        rintro e w' ⟨rfl, rfl⟩
        rw [← HM.out]
        go_wp2_with (fail)
        refine (fromSeconds_any _ _ (by omega)).mono ?_
        rintro e w1 ⟨rfl, hb⟩
        rw [E3.out, E4.out]
        go_wp2_with (fail)
        refine (least_any _ _ _ _ [want] _ (RowK.one _ want _ ⟨hw0, hw1⟩) (by decide)).mono ?_
        rintro e w' ⟨rfl, rfl⟩
        go_wp2_with (fail)
        go_ret2
        refine ⟨?_, hb.alloc hb.size _⟩
        rw [E1.out, E2.out]
        rfl
  · obtain ⟨e1, e2⟩ := S2.grant_noT (want := want) (l := zs) ht
    rw [e1, e2]
    clear e1 e2
    go_enter Try.func15, Try.ntmps15
    go_wp2_with ((go_at_call 21; refine (isTime_any _ _).mono ?_; rintro e w' ⟨rfl, rfl⟩))
    go_ret2
    exact ⟨rfl, Below.refl _ _⟩

theorem near_any (a b s : Int) (w : World) : Calls Try.prog 17 #[.int .i64 a, .int .i64 b, .int .i64 s] w fun e w' => e = .returned (.bool (S2.near a b s)) ∧ w = w' := by
  rcases S2.isT_cases a with ⟨ha, a0, a1⟩ | ha
  · rcases S2.isT_cases b with ⟨hb, b0, b1⟩ | hb
    · rcases S2.isT_cases s with ⟨hs, s0, s1⟩ | hs
      · have hab : S2.near a b s = decide (a - b ≤ s ∧ b - a ≤ s) := by simp [S2.near, ha, hb, hs]
        have H := Lib.hid hab
        clear hab
        go_enter Try.func17, Try.ntmps17
        go_wp2_with ((go_at_call 21; refine (isTime_any _ _).mono ?_; rintro e w' ⟨rfl, rfl⟩))
        all_goals
          go_ret
          exact ⟨ret_bool (by rw [H.out]; first | (rw [decide_eq_decide]; omega) | (symm; simp; omega)), rfl⟩
      · go_enter Try.func17, Try.ntmps17
        go_wp2_with ((go_at_call 21; refine (isTime_any _ _).mono ?_; rintro e w' ⟨rfl, rfl⟩))
        go_ret
        exact ⟨ret_bool (by simp [S2.near, hs]), rfl⟩
    · go_enter Try.func17, Try.ntmps17
      go_wp2_with ((go_at_call 21; refine (isTime_any _ _).mono ?_; rintro e w' ⟨rfl, rfl⟩))
      go_ret
      exact ⟨ret_bool (by simp [S2.near, hb]), rfl⟩
  · go_enter Try.func17, Try.ntmps17
    go_wp2_with ((go_at_call 21; refine (isTime_any _ _).mono ?_; rintro e w' ⟨rfl, rfl⟩))
    go_ret
    exact ⟨ret_bool (by simp [S2.near, ha]), rfl⟩

theorem state_any (i l n s : Int) (w : World) : Calls Try.prog 19 #[.int .i64 i, .int .i64 l, .int .i64 n, .int .i64 s] w fun e w' => e = .returned (.int .i64 (S2.stateV i l n s)) ∧ w = w' := by
  rcases h : (S2.isT i && S2.isT n && S2.isL l && S2.isT s)
  · have hv : S2.stateV i l n s = 104 := by unfold S2.stateV; rw [if_pos h]
    rw [hv]
    clear hv
    rcases hi : S2.isT i
    · clear h
      go_enter Try.func19, Try.ntmps19
      go_wp2_with (first | (go_at_call 21; refine (isTime_any _ _).mono ?_; rintro e w' ⟨rfl, rfl⟩) | (go_at_call 22; refine (isLife_any _ _).mono ?_; rintro e w' ⟨rfl, rfl⟩))
      go_ret
      exact ⟨rfl, rfl⟩
    rcases hn : S2.isT n
    · clear h
      go_enter Try.func19, Try.ntmps19
      go_wp2_with (first | (go_at_call 21; refine (isTime_any _ _).mono ?_; rintro e w' ⟨rfl, rfl⟩) | (go_at_call 22; refine (isLife_any _ _).mono ?_; rintro e w' ⟨rfl, rfl⟩))
      go_ret
      exact ⟨rfl, rfl⟩
    rcases hl : S2.isL l
    · clear h
      go_enter Try.func19, Try.ntmps19
      go_wp2_with (first | (go_at_call 21; refine (isTime_any _ _).mono ?_; rintro e w' ⟨rfl, rfl⟩) | (go_at_call 22; refine (isLife_any _ _).mono ?_; rintro e w' ⟨rfl, rfl⟩))
      go_ret
      exact ⟨rfl, rfl⟩
    have hs : S2.isT s = false := by simpa [hi, hn, hl] using h
    clear h
    go_enter Try.func19, Try.ntmps19
    go_wp2_with (first | (go_at_call 21; refine (isTime_any _ _).mono ?_; rintro e w' ⟨rfl, rfl⟩) | (go_at_call 22; refine (isLife_any _ _).mono ?_; rintro e w' ⟨rfl, rfl⟩))
    go_ret
    exact ⟨rfl, rfl⟩
  · have hd := h
    simp only [Bool.and_eq_true] at hd
    obtain ⟨⟨⟨hi, hn⟩, hl⟩, hs⟩ := hd
    obtain ⟨i0, i1⟩ : 0 ≤ i ∧ i ≤ 4294967295 := by simpa [S2.isT] using hi
    obtain ⟨n0, n1⟩ : 0 ≤ n ∧ n ≤ 4294967295 := by simpa [S2.isT] using hn
    obtain ⟨l0, l1⟩ : 0 ≤ l ∧ l ≤ 255 := by simpa [S2.isL] using hl
    obtain ⟨s0, s1⟩ : 0 ≤ s ∧ s ≤ 4294967295 := by simpa [S2.isT] using hs
    have hv : S2.stateV i l n s = if n + s < i then 33 else if S2.endV i l + s < n then 32 else 0 := by unfold S2.stateV; rw [if_neg (by rw [h]; decide)]
    have hE := S2.endV_yes hi hl
    clear h
    by_cases h1 : n + s < i
    · rw [if_pos h1] at hv
      rw [hv]
      clear hv hE
      go_enter Try.func19, Try.ntmps19
      go_wp2_with (first | (go_at_call 21; refine (isTime_any _ _).mono ?_; rintro e w' ⟨rfl, rfl⟩) | (go_at_call 22; refine (isLife_any _ _).mono ?_; rintro e w' ⟨rfl, rfl⟩))
      go_ret
      exact ⟨rfl, rfl⟩
    · rw [if_neg h1, hE] at hv
      have HE := Lib.hid hE
      clear hE
      by_cases h2 : i + 300 * (l + 1) + s < n
      · rw [if_pos h2] at hv
        rw [hv]
        clear hv
        go_enter Try.func19, Try.ntmps19
        go_wp2_with (first | (go_at_call 21; refine (isTime_any _ _).mono ?_; rintro e w' ⟨rfl, rfl⟩) | (go_at_call 22; refine (isLife_any _ _).mono ?_; rintro e w' ⟨rfl, rfl⟩) | (go_at_call 11; refine (end_any _ _ _).mono ?_; rintro e w' ⟨rfl, rfl⟩; rw [HE.out]))
        go_ret
        exact ⟨rfl, rfl⟩
      · rw [if_neg h2] at hv
        rw [hv]
        clear hv
        go_enter Try.func19, Try.ntmps19
        go_wp2_with (first | (go_at_call 21; refine (isTime_any _ _).mono ?_; rintro e w' ⟨rfl, rfl⟩) | (go_at_call 22; refine (isLife_any _ _).mono ?_; rintro e w' ⟨rfl, rfl⟩) | (go_at_call 11; refine (end_any _ _ _).mono ?_; rintro e w' ⟨rfl, rfl⟩; rw [HE.out]))
        go_ret
        exact ⟨rfl, rfl⟩

end Go.Proofs.Ytfllenakphcfgaa
