/-
  What the proof wants: TkA, TkB, TkC.
-/
import Derived.Test.YtkhkmgblgonfoaaQFieldPlain
import Derived.Test.YtkhkmgblgonfoaaQPrinA
import Derived.Test.YtkhkmgblgonfoaaQKeyR
import Derived.Test.YtkhkmgblgonfoaaQFieldR
import Derived.Test.YtkhkmgblgonfoaaQFieldRP
import Derived.Test.YtkhkmgblgonfoaaQKeyRB
import Derived.Test.YtkhkmgblgonfoaaQGrow
import Derived.Deep.RegionHeld3
import Derived.Test.YtkhkmgblgonfoaaQReader

/-
  A ticket in memory; what within and Check of the document's answer for tickets return.
-/
namespace Go.Proofs.Ytkhkmgblgonfoaa
open Go.RowKit

/-- A ticket's cells in a block. -/
structure TkAt (w : World) (g : Nat) (t : S6.Tk) : Prop where
  c0 : w.cell? ⟨g, 0, none⟩ = some (.bool t.l)
  c1 : w.cell? ⟨g, 1, none⟩ = some (.string t.a)
  c2 : w.cell? ⟨g, 2, none⟩ = some (.string t.b)
  c3 : w.cell? ⟨g, 3, none⟩ = some (.string t.c)
  c4 : w.cell? ⟨g, 4, none⟩ = some (.int .i64 t.ad)
  c5 : w.cell? ⟨g, 5, none⟩ = some (.int .u64 t.k)
  c6 : w.cell? ⟨g, 6, none⟩ = some (.int .i64 t.li)
  c7 : w.cell? ⟨g, 7, none⟩ = some (.int .i64 t.is)
  c8 : w.cell? ⟨g, 8, none⟩ = some (.string t.s)
  c9 : w.cell? ⟨g, 9, none⟩ = some (.string t.i)
theorem TkAt.keep {w w' : World} {g : Nat} {t : S6.Tk} (hb : Below w.heap.size w w') (h : TkAt w g t) : TkAt w' g t :=
  ⟨cell_keep hb h.c0, cell_keep hb h.c1, cell_keep hb h.c2, cell_keep hb h.c3, cell_keep hb h.c4, cell_keep hb h.c5, cell_keep hb h.c6, cell_keep hb h.c7, cell_keep hb h.c8, cell_keep hb h.c9⟩
theorem TkAt.drew {w : World} {g : Nat} {t : S6.Tk} (h : TkAt w g t) : TkAt w.drew g t := ⟨h.c0, h.c1, h.c2, h.c3, h.c4, h.c5, h.c6, h.c7, h.c8, h.c9⟩
theorem TkAt.new (w : World) (t : S6.Tk) (T : TypeId) : TkAt (w.alloc (.cells t.cells T)) w.heap.size t :=
  ⟨by simp [go_sem, S6.Tk.cells], by simp [go_sem, S6.Tk.cells], by simp [go_sem, S6.Tk.cells], by simp [go_sem, S6.Tk.cells], by simp [go_sem, S6.Tk.cells], by simp [go_sem, S6.Tk.cells], by simp [go_sem, S6.Tk.cells], by simp [go_sem, S6.Tk.cells], by simp [go_sem, S6.Tk.cells], by simp [go_sem, S6.Tk.cells]⟩


def ChkOut (t : S6.Tk) (w : World) (e : Ending) (w' : World) : Prop := e = .returned (.int .i64 (S6.chkE t)) ∧ Below w.heap.size w w'










end Go.Proofs.Ytkhkmgblgonfoaa

/-
  What Encode of the document's answer for tickets returns.
-/
namespace Go.Proofs.Ytkhkmgblgonfoaa
open Go.RowKit

/-- What Encode returns. -/
def EncOut (t : S6.Tk) (w : World) (e : Ending) (w' : World) : Prop :=
  ∃ A n cap, e = .returned (.tuple #[.slice A n cap, .int .i64 (S6.chkE t)]) ∧ Sl w' A n cap (S6.encB t) ∧ Below w.heap.size w w' ∧ Fresh w.heap.size A





end Go.Proofs.Ytkhkmgblgonfoaa

/-
  What Decode of the document's answer for tickets returns.
-/
namespace Go.Proofs.Ytkhkmgblgonfoaa
open Go.RowKit

/-- What Decode returns. -/
def DecOut (zs : List Int) (w : World) (e : Ending) (w' : World) : Prop := e = .returned (.tuple #[(S6.decT zs).val, .int .i64 (S6.decE zs)]) ∧ Below w.heap.size w w'
theorem str_inj {xs ys : List Int} (hx : ∀ n ∈ xs, 0 ≤ n ∧ n ≤ 255) (hy : ∀ n ∈ ys, 0 ≤ n ∧ n ≤ 255) (h : (strOfNums xs).toList = (strOfNums ys).toList) : xs = ys := by
  refine strOfNums_inj hx hy ?_
  rw [ByteArray.toList_eq, ByteArray.toList_eq] at h
  exact ByteArray.ext (Array.ext' h)
theorem dec_out {zs : List Int} {w w' : World} {t : S6.Tk} {x : Int} (h : S6.decE zs = x ∧ S6.decT zs = t) (hb : Below w.heap.size w w') : DecOut zs w (.returned (.tuple #[t.val, .int .i64 x])) w' := ⟨by rw [h.1, h.2], hb⟩
def zeroL : List Value := [.bool false, .string ⟨#[]⟩, .string ⟨#[]⟩, .string ⟨#[]⟩, .int .i64 0, .int .u64 0, .int .i64 0, .int .i64 0, .string ⟨#[]⟩, .string ⟨#[]⟩]
theorem parse_fit {zs : List Int} (hz : ∀ z ∈ zs, 0 ≤ z ∧ z ≤ 255) : (S6.parse zs).Fit := by
  have g : ∀ a k l, k ≤ 4 → -9223372036854775808 ≤ S5.getV zs a k l ∧ S5.getV zs a k l ≤ 9223372036854775807 := fun a k l hk => by have := getV_range hz a k l hk; omega
  exact ⟨txS_size _ _, txS_size _ _, txS_size _ _, txS_size _ _, txS_size _ _, g _ _ _ (by decide), readN_range (byS_range hz _ _), g _ _ _ (by decide), g _ _ _ (by decide)⟩


theorem rd_little {w : World} {r : Nat} {A : Option Addr} {n cap : Nat} {l b : Bool} {s : S5.St} (h : Rd w r A n cap l s) : Rd (w.setCell ⟨r, 2, none⟩ (.bool b)) r A n cap b s := by
  obtain ⟨c0, c1, c2, c3, fz⟩ := h
  exact ⟨by simp [go_sem, c0], by simp [go_sem, c1], by simp [go_sem, c2], by simp [go_sem, c3], fun o => by simp [go_sem, fz]⟩



end Go.Proofs.Ytkhkmgblgonfoaa
