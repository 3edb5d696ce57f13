/-
  The example that the laws of chapter 6 try first; their helpers.
-/
import Derived.Test.YtjkpbkbgbgckaaaQTkCode
import Derived.Test.YtjkpbkbgbgckaaaQDataT
namespace Go.Proofs.Ytjkpbkbgbgckaaa
open Go.RowKit
set_option linter.unusedVariables false

def T0 : S6.Tk := ⟨false, ⟨#[97]⟩, ⟨#[98]⟩, ⟨#[99]⟩, 0, keyOf 2 1, 0, 0, ⟨#[115]⟩, ⟨#[]⟩⟩
theorem T0_gd : Gd T0 := ⟨by decide, by decide, by decide, by decide, by decide, session_ok (by decide) (by decide), by decide, by decide, by decide⟩

set_option maxHeartbeats 1600000 in
theorem awake6_any (w : World) : Calls Try.prog 7 #[] w fun e w' => e = .returned (.bool true) ∧ Below w.heap.size w w' := by
  have hc := T0_gd.chk
  have K := tencode_any T0 T0_gd.fit w
  unfold EncOut at K
  rw [hc, show S6.encB T0 = S6.enc T0 by unfold S6.encB; rw [if_pos hc]] at K
  replace K := Lib.hid K
  have hl := Lib.hid (show (S6.enc T0).length = 32 by decide)
  have h0 := Lib.hid (show (S6.enc T0)[0]? = some 0 by decide)
  have h1 := Lib.hid (show (S6.enc T0)[1]? = some 97 by decide)
  unfold S6.Tk.val S6.Tk.cells T0 at K
  clear hc
  go_enter Try.func7, Try.ntmps7
  go_wp2_with (first | (go_at_call 22; refine (session_any _ _ (by decide) (by decide)).mono ?_; rintro e w' ⟨rfl, rfl⟩))
  refine K.out.mono ?_
  rintro e w1 ⟨A, n, cap, rfl, hs, hb, _⟩
  have hn : n = 32 := hs.len.symm.trans hl.out
  subst hn
  obtain ⟨b, off, z, rfl, hz, _, _, d0⟩ := hs.row.at (i := 0) (by decide)
  obtain ⟨b', off', z', e', hz', _, _, d1⟩ := hs.row.at (i := 1) (by decide)
  cases e'
  have ez : (0 : Int) = z := Option.some.inj (h0.out.symm.trans hz)
  have ez' : (97 : Int) = z' := Option.some.inj (h1.out.symm.trans hz')
  subst ez ez'
  rw [Nat.add_zero] at d0
  clear hz hz' hs
  go_wp2_with (fail)
  go_ret
  exact ⟨rfl, hb⟩

/-- Some truth value. -/
def SomeBool (w : World) (e : Ending) (w' : World) : Prop := ∃ q, e = .returned (.bool q) ∧ Below w.heap.size w w'
set_option maxHeartbeats 1600000 in
theorem long6_any (t : S6.Tk) (f : t.Fit) (w : World) : Calls Try.prog 8 #[t.val] w (SomeBool w) := by
  have ha := f.a; have hb := f.b; have hc := f.c; have hs := f.s; have hi := f.i
  unfold maxLen at ha hb hc hs hi
  unfold S6.Tk.val S6.Tk.cells
  have cs : 100 < (t.a.size : Int) ∨ (t.a.size : Int) ≤ 100 ∧ 100 < (t.b.size : Int) ∨ (t.a.size : Int) ≤ 100 ∧ (t.b.size : Int) ≤ 100 ∧ 100 < (t.c.size : Int) ∨ (t.a.size : Int) ≤ 100 ∧ (t.b.size : Int) ≤ 100 ∧ (t.c.size : Int) ≤ 100 ∧ 100 < (t.s.size : Int) ∨ (t.a.size : Int) ≤ 100 ∧ (t.b.size : Int) ≤ 100 ∧ (t.c.size : Int) ≤ 100 ∧ (t.s.size : Int) ≤ 100 := by omega
  rcases cs with c | ⟨c, d1⟩ | ⟨c, d1, d2⟩ | ⟨c, d1, d2, d3⟩ | ⟨c, d1, d2, d3⟩
  all_goals
    go_enter Try.func8, Try.ntmps8
    go_wp2_with (fail)
    go_ret
    exact ⟨_, rfl, (Below.refl _ _).alloc (Nat.le_refl _) _⟩

/-- Some ticket, of whatever numbers and texts. -/
def SomeTk (w : World) (e : Ending) (w' : World) : Prop := ∃ t : S6.Tk, e = .returned t.val ∧ t.Fit ∧ Below w.heap.size w w'
set_option maxRecDepth 100000 in
set_option maxHeartbeats 1600000 in
theorem changed_0 (t : S6.Tk) (f : t.Fit) (x n : Int) (s : ByteArray) (w : World) (x0 : 0 ≤ x) (x1 : x ≤ 255) (n0 : -9223372036854775808 ≤ n) (n1 : n ≤ 9223372036854775807) (hs : s.size ≤ maxLen) (hx : x % 10 = 0) : Calls Try.prog 10 #[t.val, .int .u8 x, .int .i64 n, .string s] w (SomeTk w) := by
  have hw : 0 ≤ IntKind.u64.wrap n ∧ IntKind.u64.wrap n ≤ 18446744073709551615 := by rw [IntKind.wrap_u64]; omega
  have hk := (keyOf_facts (c := 1) (n := 3) (.inl rfl) (by decide) (by decide)).2
  unfold S6.Tk.val S6.Tk.cells
  go_enter Try.func10, Try.ntmps10
  go_wp2_with (first | (go_at_call 18; refine (long_any _ _ (by decide) (by decide)).mono ?_; rintro e w' ⟨rfl, rfl⟩))
  refine bodyPost_ret (v := (S6.Tk.mk (t.l) (s) (t.b) (t.c) (t.ad) (t.k) (t.li) (t.is) (t.s) (t.i)).val) ?_ rfl ?_
  · simp [results, Try.results10, go_sem, S6.Tk.val, S6.Tk.cells]
  · refine ⟨⟨t.l, s, t.b, t.c, t.ad, t.k, t.li, t.is, t.s, t.i⟩, rfl, ⟨hs, f.b, f.c, f.s, f.i, f.ad, f.k, f.li, f.is⟩, ?_⟩
    repeat (first | exact Below.refl _ _ | refine Below.setCell ?_ (by simp) _ | refine Below.alloc ?_ (by simp) _)

set_option maxRecDepth 100000 in
set_option maxHeartbeats 1600000 in
theorem changed_1 (t : S6.Tk) (f : t.Fit) (x n : Int) (s : ByteArray) (w : World) (x0 : 0 ≤ x) (x1 : x ≤ 255) (n0 : -9223372036854775808 ≤ n) (n1 : n ≤ 9223372036854775807) (hs : s.size ≤ maxLen) (hx : x % 10 = 1) : Calls Try.prog 10 #[t.val, .int .u8 x, .int .i64 n, .string s] w (SomeTk w) := by
  have hw : 0 ≤ IntKind.u64.wrap n ∧ IntKind.u64.wrap n ≤ 18446744073709551615 := by rw [IntKind.wrap_u64]; omega
  have hk := (keyOf_facts (c := 1) (n := 3) (.inl rfl) (by decide) (by decide)).2
  unfold S6.Tk.val S6.Tk.cells
  go_enter Try.func10, Try.ntmps10
  go_wp2_with (first | (go_at_call 18; refine (long_any _ _ (by decide) (by decide)).mono ?_; rintro e w' ⟨rfl, rfl⟩))
  refine bodyPost_ret (v := (S6.Tk.mk (t.l) (t.a) (t.b) (s) (t.ad) (t.k) (t.li) (t.is) (t.s) (t.i)).val) ?_ rfl ?_
  · simp [results, Try.results10, go_sem, S6.Tk.val, S6.Tk.cells]
  · refine ⟨⟨t.l, t.a, t.b, s, t.ad, t.k, t.li, t.is, t.s, t.i⟩, rfl, ⟨f.a, f.b, hs, f.s, f.i, f.ad, f.k, f.li, f.is⟩, ?_⟩
    repeat (first | exact Below.refl _ _ | refine Below.setCell ?_ (by simp) _ | refine Below.alloc ?_ (by simp) _)

set_option maxRecDepth 100000 in
set_option maxHeartbeats 1600000 in
theorem changed_2 (t : S6.Tk) (f : t.Fit) (x n : Int) (s : ByteArray) (w : World) (x0 : 0 ≤ x) (x1 : x ≤ 255) (n0 : -9223372036854775808 ≤ n) (n1 : n ≤ 9223372036854775807) (hs : s.size ≤ maxLen) (hx : x % 10 = 2) : Calls Try.prog 10 #[t.val, .int .u8 x, .int .i64 n, .string s] w (SomeTk w) := by
  have hw : 0 ≤ IntKind.u64.wrap n ∧ IntKind.u64.wrap n ≤ 18446744073709551615 := by rw [IntKind.wrap_u64]; omega
  have hk := (keyOf_facts (c := 1) (n := 3) (.inl rfl) (by decide) (by decide)).2
  unfold S6.Tk.val S6.Tk.cells
  go_enter Try.func10, Try.ntmps10
  go_wp2_with (first | (go_at_call 18; refine (long_any _ _ (by decide) (by decide)).mono ?_; rintro e w' ⟨rfl, rfl⟩))
  refine bodyPost_ret (v := (S6.Tk.mk (t.l) (t.a) (t.b) (t.c) (n) (t.k) (t.li) (t.is) (t.s) (t.i)).val) ?_ rfl ?_
  · simp [results, Try.results10, go_sem, S6.Tk.val, S6.Tk.cells]
  · refine ⟨⟨t.l, t.a, t.b, t.c, n, t.k, t.li, t.is, t.s, t.i⟩, rfl, ⟨f.a, f.b, f.c, f.s, f.i, ⟨n0, n1⟩, f.k, f.li, f.is⟩, ?_⟩
    repeat (first | exact Below.refl _ _ | refine Below.setCell ?_ (by simp) _ | refine Below.alloc ?_ (by simp) _)

set_option maxRecDepth 100000 in
set_option maxHeartbeats 1600000 in
theorem changed_3 (t : S6.Tk) (f : t.Fit) (x n : Int) (s : ByteArray) (w : World) (x0 : 0 ≤ x) (x1 : x ≤ 255) (n0 : -9223372036854775808 ≤ n) (n1 : n ≤ 9223372036854775807) (hs : s.size ≤ maxLen) (hx : x % 10 = 3) : Calls Try.prog 10 #[t.val, .int .u8 x, .int .i64 n, .string s] w (SomeTk w) := by
  have hw : 0 ≤ IntKind.u64.wrap n ∧ IntKind.u64.wrap n ≤ 18446744073709551615 := by rw [IntKind.wrap_u64]; omega
  have hk := (keyOf_facts (c := 1) (n := 3) (.inl rfl) (by decide) (by decide)).2
  unfold S6.Tk.val S6.Tk.cells
  go_enter Try.func10, Try.ntmps10
  go_wp2_with (first | (go_at_call 18; refine (long_any _ _ (by decide) (by decide)).mono ?_; rintro e w' ⟨rfl, rfl⟩))
  refine bodyPost_ret (v := (S6.Tk.mk (t.l) (t.a) (t.b) (t.c) (t.ad) (IntKind.u64.wrap n) (t.li) (t.is) (t.s) (t.i)).val) ?_ rfl ?_
  · simp [results, Try.results10, go_sem, S6.Tk.val, S6.Tk.cells]
  · refine ⟨⟨t.l, t.a, t.b, t.c, t.ad, IntKind.u64.wrap n, t.li, t.is, t.s, t.i⟩, rfl, ⟨f.a, f.b, f.c, f.s, f.i, f.ad, hw, f.li, f.is⟩, ?_⟩
    repeat (first | exact Below.refl _ _ | refine Below.setCell ?_ (by simp) _ | refine Below.alloc ?_ (by simp) _)

set_option maxRecDepth 100000 in
set_option maxHeartbeats 1600000 in
theorem changed_4 (t : S6.Tk) (f : t.Fit) (x n : Int) (s : ByteArray) (w : World) (x0 : 0 ≤ x) (x1 : x ≤ 255) (n0 : -9223372036854775808 ≤ n) (n1 : n ≤ 9223372036854775807) (hs : s.size ≤ maxLen) (hx : x % 10 = 4) : Calls Try.prog 10 #[t.val, .int .u8 x, .int .i64 n, .string s] w (SomeTk w) := by
  have hw : 0 ≤ IntKind.u64.wrap n ∧ IntKind.u64.wrap n ≤ 18446744073709551615 := by rw [IntKind.wrap_u64]; omega
  have hk := (keyOf_facts (c := 1) (n := 3) (.inl rfl) (by decide) (by decide)).2
  unfold S6.Tk.val S6.Tk.cells
  go_enter Try.func10, Try.ntmps10
  go_wp2_with (first | (go_at_call 18; refine (long_any _ _ (by decide) (by decide)).mono ?_; rintro e w' ⟨rfl, rfl⟩))
  refine bodyPost_ret (v := (S6.Tk.mk (t.l) (t.a) (t.b) (t.c) (t.ad) (t.k) (n) (t.is) (t.s) (t.i)).val) ?_ rfl ?_
  · simp [results, Try.results10, go_sem, S6.Tk.val, S6.Tk.cells]
  · refine ⟨⟨t.l, t.a, t.b, t.c, t.ad, t.k, n, t.is, t.s, t.i⟩, rfl, ⟨f.a, f.b, f.c, f.s, f.i, f.ad, f.k, ⟨n0, n1⟩, f.is⟩, ?_⟩
    repeat (first | exact Below.refl _ _ | refine Below.setCell ?_ (by simp) _ | refine Below.alloc ?_ (by simp) _)

set_option maxRecDepth 100000 in
set_option maxHeartbeats 1600000 in
theorem changed_5 (t : S6.Tk) (f : t.Fit) (x n : Int) (s : ByteArray) (w : World) (x0 : 0 ≤ x) (x1 : x ≤ 255) (n0 : -9223372036854775808 ≤ n) (n1 : n ≤ 9223372036854775807) (hs : s.size ≤ maxLen) (hx : x % 10 = 5) : Calls Try.prog 10 #[t.val, .int .u8 x, .int .i64 n, .string s] w (SomeTk w) := by
  have hw : 0 ≤ IntKind.u64.wrap n ∧ IntKind.u64.wrap n ≤ 18446744073709551615 := by rw [IntKind.wrap_u64]; omega
  have hk := (keyOf_facts (c := 1) (n := 3) (.inl rfl) (by decide) (by decide)).2
  unfold S6.Tk.val S6.Tk.cells
  go_enter Try.func10, Try.ntmps10
  go_wp2_with (first | (go_at_call 18; refine (long_any _ _ (by decide) (by decide)).mono ?_; rintro e w' ⟨rfl, rfl⟩))
  refine bodyPost_ret (v := (S6.Tk.mk (t.l) (t.a) (t.b) (t.c) (t.ad) (t.k) (t.li) (n) (t.s) (t.i)).val) ?_ rfl ?_
  · simp [results, Try.results10, go_sem, S6.Tk.val, S6.Tk.cells]
  · refine ⟨⟨t.l, t.a, t.b, t.c, t.ad, t.k, t.li, n, t.s, t.i⟩, rfl, ⟨f.a, f.b, f.c, f.s, f.i, f.ad, f.k, f.li, ⟨n0, n1⟩⟩, ?_⟩
    repeat (first | exact Below.refl _ _ | refine Below.setCell ?_ (by simp) _ | refine Below.alloc ?_ (by simp) _)

set_option maxRecDepth 100000 in
set_option maxHeartbeats 1600000 in
theorem changed_6 (t : S6.Tk) (f : t.Fit) (x n : Int) (s : ByteArray) (w : World) (x0 : 0 ≤ x) (x1 : x ≤ 255) (n0 : -9223372036854775808 ≤ n) (n1 : n ≤ 9223372036854775807) (hs : s.size ≤ maxLen) (hx : x % 10 = 6) : Calls Try.prog 10 #[t.val, .int .u8 x, .int .i64 n, .string s] w (SomeTk w) := by
  have hw : 0 ≤ IntKind.u64.wrap n ∧ IntKind.u64.wrap n ≤ 18446744073709551615 := by rw [IntKind.wrap_u64]; omega
  have hk := (keyOf_facts (c := 1) (n := 3) (.inl rfl) (by decide) (by decide)).2
  unfold S6.Tk.val S6.Tk.cells
  go_enter Try.func10, Try.ntmps10
  go_wp2_with (first | (go_at_call 18; refine (long_any _ _ (by decide) (by decide)).mono ?_; rintro e w' ⟨rfl, rfl⟩))
  refine bodyPost_ret (v := (S6.Tk.mk (t.l) (t.a) (t.b) (t.c) (t.ad) (t.k) (t.li) (t.is) (s) (t.i)).val) ?_ rfl ?_
  · simp [results, Try.results10, go_sem, S6.Tk.val, S6.Tk.cells]
  · refine ⟨⟨t.l, t.a, t.b, t.c, t.ad, t.k, t.li, t.is, s, t.i⟩, rfl, ⟨f.a, f.b, f.c, hs, f.i, f.ad, f.k, f.li, f.is⟩, ?_⟩
    repeat (first | exact Below.refl _ _ | refine Below.setCell ?_ (by simp) _ | refine Below.alloc ?_ (by simp) _)

set_option maxRecDepth 100000 in
set_option maxHeartbeats 1600000 in
theorem changed_7 (t : S6.Tk) (f : t.Fit) (x n : Int) (s : ByteArray) (w : World) (x0 : 0 ≤ x) (x1 : x ≤ 255) (n0 : -9223372036854775808 ≤ n) (n1 : n ≤ 9223372036854775807) (hs : s.size ≤ maxLen) (hx : x % 10 = 7) : Calls Try.prog 10 #[t.val, .int .u8 x, .int .i64 n, .string s] w (SomeTk w) := by
  have hw : 0 ≤ IntKind.u64.wrap n ∧ IntKind.u64.wrap n ≤ 18446744073709551615 := by rw [IntKind.wrap_u64]; omega
  have hk := (keyOf_facts (c := 1) (n := 3) (.inl rfl) (by decide) (by decide)).2
  unfold S6.Tk.val S6.Tk.cells
  go_enter Try.func10, Try.ntmps10
  go_wp2_with (first | (go_at_call 18; refine (long_any _ _ (by decide) (by decide)).mono ?_; rintro e w' ⟨rfl, rfl⟩))
  refine bodyPost_ret (v := (S6.Tk.mk (t.l) (t.a) (t.b) (t.c) (t.ad) (t.k) (t.li) (t.is) (t.s) (s)).val) ?_ rfl ?_
  · simp [results, Try.results10, go_sem, S6.Tk.val, S6.Tk.cells]
  · refine ⟨⟨t.l, t.a, t.b, t.c, t.ad, t.k, t.li, t.is, t.s, s⟩, rfl, ⟨f.a, f.b, f.c, f.s, hs, f.ad, f.k, f.li, f.is⟩, ?_⟩
    repeat (first | exact Below.refl _ _ | refine Below.setCell ?_ (by simp) _ | refine Below.alloc ?_ (by simp) _)

set_option maxRecDepth 100000 in
set_option maxHeartbeats 1600000 in
theorem changed_8 (t : S6.Tk) (f : t.Fit) (x n : Int) (s : ByteArray) (w : World) (x0 : 0 ≤ x) (x1 : x ≤ 255) (n0 : -9223372036854775808 ≤ n) (n1 : n ≤ 9223372036854775807) (hs : s.size ≤ maxLen) (hx : x % 10 = 8) : Calls Try.prog 10 #[t.val, .int .u8 x, .int .i64 n, .string s] w (SomeTk w) := by
  have hw : 0 ≤ IntKind.u64.wrap n ∧ IntKind.u64.wrap n ≤ 18446744073709551615 := by rw [IntKind.wrap_u64]; omega
  have hk := (keyOf_facts (c := 1) (n := 3) (.inl rfl) (by decide) (by decide)).2
  unfold S6.Tk.val S6.Tk.cells
  go_enter Try.func10, Try.ntmps10
  go_wp2_with (first | (go_at_call 18; refine (long_any _ _ (by decide) (by decide)).mono ?_; rintro e w' ⟨rfl, rfl⟩))
  refine bodyPost_ret (v := (S6.Tk.mk (t.l) (t.a) (t.b) (t.c) (t.ad) (keyOf 1 3) (t.li) (t.is) (t.s) (t.i)).val) ?_ rfl ?_
  · simp [results, Try.results10, go_sem, S6.Tk.val, S6.Tk.cells]
  · refine ⟨⟨t.l, t.a, t.b, t.c, t.ad, keyOf 1 3, t.li, t.is, t.s, t.i⟩, rfl, ⟨f.a, f.b, f.c, f.s, f.i, f.ad, hk, f.li, f.is⟩, ?_⟩
    repeat (first | exact Below.refl _ _ | refine Below.setCell ?_ (by simp) _ | refine Below.alloc ?_ (by simp) _)

set_option maxRecDepth 100000 in
set_option maxHeartbeats 1600000 in
theorem changed_9 (t : S6.Tk) (f : t.Fit) (x n : Int) (s : ByteArray) (w : World) (x0 : 0 ≤ x) (x1 : x ≤ 255) (n0 : -9223372036854775808 ≤ n) (n1 : n ≤ 9223372036854775807) (hs : s.size ≤ maxLen) (hx : x % 10 = 9) : Calls Try.prog 10 #[t.val, .int .u8 x, .int .i64 n, .string s] w (SomeTk w) := by
  have hw : 0 ≤ IntKind.u64.wrap n ∧ IntKind.u64.wrap n ≤ 18446744073709551615 := by rw [IntKind.wrap_u64]; omega
  have hk := (keyOf_facts (c := 1) (n := 3) (.inl rfl) (by decide) (by decide)).2
  unfold S6.Tk.val S6.Tk.cells
  go_enter Try.func10, Try.ntmps10
  go_wp2_with (first | (go_at_call 18; refine (long_any _ _ (by decide) (by decide)).mono ?_; rintro e w' ⟨rfl, rfl⟩))
  refine bodyPost_ret (v := (S6.Tk.mk (t.l) (t.a) (t.b) (t.c) (t.ad) (t.k) (t.li) (t.is) (t.s) (t.i)).val) ?_ rfl ?_
  · simp [results, Try.results10, go_sem, S6.Tk.val, S6.Tk.cells]
  · refine ⟨⟨t.l, t.a, t.b, t.c, t.ad, t.k, t.li, t.is, t.s, t.i⟩, rfl, ⟨f.a, f.b, f.c, f.s, f.i, f.ad, f.k, f.li, f.is⟩, ?_⟩
    repeat (first | exact Below.refl _ _ | refine Below.setCell ?_ (by simp) _ | refine Below.alloc ?_ (by simp) _)

theorem changed_any (t : S6.Tk) (f : t.Fit) (x n : Int) (s : ByteArray) (w : World) (x0 : 0 ≤ x) (x1 : x ≤ 255) (n0 : -9223372036854775808 ≤ n) (n1 : n ≤ 9223372036854775807) (hs : s.size ≤ maxLen) : Calls Try.prog 10 #[t.val, .int .u8 x, .int .i64 n, .string s] w (SomeTk w) := by
  have c : x % 10 = 0 ∨ x % 10 = 1 ∨ x % 10 = 2 ∨ x % 10 = 3 ∨ x % 10 = 4 ∨ x % 10 = 5 ∨ x % 10 = 6 ∨ x % 10 = 7 ∨ x % 10 = 8 ∨ x % 10 = 9 := by omega
  rcases c with c | c | c | c | c | c | c | c | c | c
  · exact changed_0 t f x n s w x0 x1 n0 n1 hs c
  · exact changed_1 t f x n s w x0 x1 n0 n1 hs c
  · exact changed_2 t f x n s w x0 x1 n0 n1 hs c
  · exact changed_3 t f x n s w x0 x1 n0 n1 hs c
  · exact changed_4 t f x n s w x0 x1 n0 n1 hs c
  · exact changed_5 t f x n s w x0 x1 n0 n1 hs c
  · exact changed_6 t f x n s w x0 x1 n0 n1 hs c
  · exact changed_7 t f x n s w x0 x1 n0 n1 hs c
  · exact changed_8 t f x n s w x0 x1 n0 n1 hs c
  · exact changed_9 t f x n s w x0 x1 n0 n1 hs c

end Go.Proofs.Ytjkpbkbgbgckaaa
