/-
  The example that the laws of chapter 7 try first; their helper.
-/
import Derived.Test.YtihacmonohjmaaaQAuCode
import Derived.Test.YtihacmonohjmaaaQDataT
namespace Go.Proofs.Ytihacmonohjmaaa
open Go.RowKit
set_option linter.unusedVariables false

def A0 : S7.Au := ⟨⟨#[97]⟩, ⟨#[98]⟩, ⟨#[99]⟩, 0, 0, 1⟩
theorem A0_ok : S7.Ok A0 := ⟨by decide, by decide, by decide, by decide, by decide, by decide⟩

set_option maxHeartbeats 1600000 in
theorem awake7_any (w : World) : Calls Try.prog 8 #[] w fun e w' => e = .returned (.bool true) ∧ Below w.heap.size w w' := by
  have hc := A0_ok.chk
  have K := aencode_any true A0 A0_ok.fit w
  unfold EncOut7 at K
  rw [hc, show S7.encB true A0 = S7.enc true A0 by unfold S7.encB; rw [if_pos hc]] at K
  replace K := Lib.hid K
  have hl := Lib.hid (show (S7.enc true A0).length = 16 by decide)
  have h0 := Lib.hid (show (S7.enc true A0)[0]? = some 1 by decide)
  have h1 := Lib.hid (show (S7.enc true A0)[12]? = some 1 by decide)
  unfold S7.Au.val S7.Au.cells A0 at K
  clear hc
  go_enter Try.func8, Try.ntmps8
  go_wp2_with (fail)
  refine K.out.mono ?_
  rintro e w1 ⟨A, n, cap, rfl, hs, hb, _⟩
  have hn : n = 16 := hs.len.symm.trans hl.out
  subst hn
  obtain ⟨b, off, z, rfl, hz, _, _, d0⟩ := hs.row.at (i := 0) (by decide)
  obtain ⟨b', off', z', e', hz', _, _, d1⟩ := hs.row.at (i := 12) (by decide)
  cases e'
  have ez : (1 : Int) = z := Option.some.inj (h0.out.symm.trans hz)
  have ez' : (1 : Int) = z' := Option.some.inj (h1.out.symm.trans hz')
  subst ez ez'
  rw [Nat.add_zero] at d0
  clear hz hz' hs
  go_wp2_with (fail)
  go_ret
  exact ⟨rfl, hb⟩

/-- Some truth value. -/
def SomeBool7 (w : World) (e : Ending) (w' : World) : Prop := ∃ q, e = .returned (.bool q) ∧ Below w.heap.size w w'
set_option maxHeartbeats 1600000 in
theorem long7_any (t : S7.Au) (f : t.Fit) (w : World) : Calls Try.prog 9 #[t.val] w (SomeBool7 w) := by
  have ha := f.a; have hb := f.b; have hc := f.c
  unfold maxLen at ha hb hc
  unfold S7.Au.val S7.Au.cells
  have cs : 100 < (t.a.size : Int) ∨ (t.a.size : Int) ≤ 100 ∧ 100 < (t.b.size : Int) ∨ (t.a.size : Int) ≤ 100 ∧ (t.b.size : Int) ≤ 100 := by omega
  rcases cs with c | ⟨c, d1⟩ | ⟨c, d1⟩
  all_goals
    go_enter Try.func9, Try.ntmps9
    go_wp2_with (fail)
    go_ret
    exact ⟨_, rfl, (Below.refl _ _).alloc (Nat.le_refl _) _⟩

end Go.Proofs.Ytihacmonohjmaaa
