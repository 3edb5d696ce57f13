/-
  The example that the laws of chapter 6 try first; their helpers.
-/
import Derived.Test.YtjkpbkbgbgckaaaGreatQTkCode
import Derived.Test.YtjkpbkbgbgckaaaGreatQDataT
namespace Go.Proofs.YtjkpbkbgbgckaaaGreat
open Go.RowKit
set_option linter.unusedVariables false

def T0 : S6.Tk := ⟨false, ⟨#[97]⟩, ⟨#[98]⟩, ⟨#[99]⟩, 0, keyOf 2 1, 0, 0, ⟨#[115]⟩, ⟨#[]⟩⟩
theorem T0_gd : Gd T0 := ⟨by decide, by decide, by decide, by decide, by decide, session_ok (by decide) (by decide), by decide, by decide, by decide⟩

set_option maxHeartbeats 1600000 in
theorem awake6_any (w : World) : Calls Tryz.prog 4 #[] w fun e w' => e = .returned (.bool true) ∧ Below w.heap.size w w' := by
  have hc := T0_gd.chk
  have K := tencode_any T0 T0_gd.fit w
  unfold EncOut at K
  rw [hc, show S6.encB T0 = S6.enc T0 by unfold S6.encB; rw [if_pos hc]] at K
  replace K := Lib.hid K
  have hl := Lib.hid (show (S6.enc T0).length = 32 by decide)
  have h0 := Lib.hid (show (S6.enc T0)[0]? = some 0 by decide)
  have h1 := Lib.hid (show (S6.enc T0)[1]? = some 97 by decide)
  unfold S6.Tk.val S6.Tk.cells T0 at K
  clear hc
  go_enter Tryz.func4, Tryz.ntmps4
  go_wp2_with (first | (go_at_call 14; refine (session_any _ _ (by decide) (by decide)).mono ?_; rintro e w' ⟨rfl, rfl⟩))
  refine K.out.mono ?_
  rintro e w1 ⟨A, n, cap, rfl, hs, hb, _⟩
  have hn : n = 32 := hs.len.symm.trans hl.out
  subst hn
  obtain ⟨b, off, z, rfl, hz, _, _, d0⟩ := hs.row.at (i := 0) (by decide)
  obtain ⟨b', off', z', e', hz', _, _, d1⟩ := hs.row.at (i := 1) (by decide)
  cases e'
  have ez : (0 : Int) = z := Option.some.inj (h0.out.symm.trans hz)
  have ez' : (97 : Int) = z' := Option.some.inj (h1.out.symm.trans hz')
  subst ez ez'
  rw [Nat.add_zero] at d0
  clear hz hz' hs
  go_wp2_with (fail)
  go_ret
  exact ⟨rfl, hb⟩

/-- Some truth value. -/
def SomeBool (w : World) (e : Ending) (w' : World) : Prop := ∃ q, e = .returned (.bool q) ∧ Below w.heap.size w w'
set_option maxHeartbeats 1600000 in
theorem long6_any (t : S6.Tk) (f : t.Fit) (w : World) : Calls Tryz.prog 5 #[t.val] w (SomeBool w) := by
  have ha := f.a; have hb := f.b; have hc := f.c; have hs := f.s; have hi := f.i
  unfold maxLen at ha hb hc hs hi
  unfold S6.Tk.val S6.Tk.cells
  have cs : 100 < (t.a.size : Int) ∨ (t.a.size : Int) ≤ 100 ∧ 100 < (t.b.size : Int) ∨ (t.a.size : Int) ≤ 100 ∧ (t.b.size : Int) ≤ 100 ∧ 100 < (t.c.size : Int) ∨ (t.a.size : Int) ≤ 100 ∧ (t.b.size : Int) ≤ 100 ∧ (t.c.size : Int) ≤ 100 ∧ 100 < (t.s.size : Int) ∨ (t.a.size : Int) ≤ 100 ∧ (t.b.size : Int) ≤ 100 ∧ (t.c.size : Int) ≤ 100 ∧ (t.s.size : Int) ≤ 100 := by omega
  rcases cs with c | ⟨c, d1⟩ | ⟨c, d1, d2⟩ | ⟨c, d1, d2, d3⟩ | ⟨c, d1, d2, d3⟩
  all_goals
    go_enter Tryz.func5, Tryz.ntmps5
    go_wp2_with (fail)
    go_ret
    exact ⟨_, rfl, (Below.refl _ _).alloc (Nat.le_refl _) _⟩












end Go.Proofs.YtjkpbkbgbgckaaaGreat
