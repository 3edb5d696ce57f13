/-
  The example that the laws of chapter 9 try first; a request's cells as a list.
-/
import Derived.Test.YtkhkmgblgonfoaaQKdCode
import Derived.Test.YtkhkmgblgonfoaaQKdH
namespace Go.Proofs.Ytkhkmgblgonfoaa
open Go.RowKit
set_option maxRecDepth 100000

def Q0 : S9q.Rq := ⟨true, userS 0, ⟨#[]⟩, realmS (0 / 3), 0, 0, ⟨#[109, 97, 105, 108]⟩, ⟨#[]⟩⟩
theorem Q0_fit : Q0.Fit := ⟨by decide, by decide, by decide, by decide, by decide, by decide, by decide⟩
theorem Q0_ok : S9q.chkE Q0 = 0 := S9q.chk_ok (by decide) (by decide)

theorem awake9_any (w : World) : Calls Try.prog 6 #[] w fun e w' => e = .returned (.bool true) ∧ Below w.heap.size w w' := by
  have K := Lib.hid (fun W => krqenc_any Q0 Q0_fit W)
  unfold RqEnc at K
  rw [Q0_ok, show S9q.encB Q0 = S9q.enc Q0 by unfold S9q.encB; rw [if_pos Q0_ok]] at K
  unfold S9q.Rq.val S9q.Rq.cells Q0 at K
  go_enter Try.func6, Try.ntmps6
  go_wp2_with (fail)
  refine (user_any 0 _ (by decide) (by decide)).mono ?_
  rintro e w1 ⟨rfl, hb1⟩
  have B1 := Lib.hid hb1
  clear hb1
  go_wp2_with (fail)
  refine (K.out _).mono ?_
  rintro e w2 ⟨A, n, c, rfl, hs, hb2, _⟩
  have B2 := Lib.hid (below_keep hb2 B1.out)
  clear hb2 B1
  have hl := hs.len
  have hn : 2 < (n : Int) := by
    rw [← hl]
    unfold S9q.enc
    rw [S9q.raw_len]
    simp; omega
  obtain ⟨b, off, x, y, r, rfl, hz, _, _, dx, dy⟩ := first_two hs (by omega)
  have hp : S8.put 1 true = [4, 3] := by decide
  unfold S9q.enc S9q.raw at hz
  rw [hp] at hz
  simp at hz
  obtain ⟨rfl, rfl, _⟩ := hz
  have lx := cell_lt dx
  have ly := cell_lt dy
  clear hs hl hp
  go_wp2_with (fail)
  go_ret
  exact ⟨rfl, B2.out⟩

def rqL (t : S9q.Rq) : List Value := [.bool t.l, .string t.a, .string t.b, .string t.c, .int .i64 t.tm, .int .i64 t.li, .string t.s, .string t.i]
theorem RqAt.ofL {w : World} {g : Nat} {t : S9q.Rq} (h : BoxAt w g (rqL t)) : RqAt w g t := ⟨h.c 0 _ rfl, h.c 1 _ rfl, h.c 2 _ rfl, h.c 3 _ rfl, h.c 4 _ rfl, h.c 5 _ rfl, h.c 6 _ rfl, h.c 7 _ rfl⟩
theorem RqAt.grown {w w' : World} {g : Nat} {t : S9q.Rq} {row : Option Nat} (h : RqAt w g t) (hg : w.grownBy w' row) (hne : some g ≠ row) : RqAt w' g t :=
  ⟨hg.cell h.c0 hne, hg.cell h.c1 hne, hg.cell h.c2 hne, hg.cell h.c3 hne, hg.cell h.c4 hne, hg.cell h.c5 hne, hg.cell h.c6 hne, hg.cell h.c7 hne⟩

end Go.Proofs.Ytkhkmgblgonfoaa
