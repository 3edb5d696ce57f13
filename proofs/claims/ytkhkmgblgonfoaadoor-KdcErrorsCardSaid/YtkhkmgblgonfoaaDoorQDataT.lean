/-
  What the proof wants: DataT, DataK.
-/
import Derived.Test.YtkhkmgblgonfoaaDoorQDataP
import Derived.Test.YtkhkmgblgonfoaaDoorQBoxH
import Derived.Test.YtkhkmgblgonfoaaDoorQReader
import Derived.Test.YtkhkmgblgonfoaaDoorQFieldPlain
import Derived.Test.YtkhkmgblgonfoaaDoorQTkA
import Derived.Deep.DeepCutAuto
import Derived.RegionTactic

/-
  What the source of plain data hands out; services.
-/
namespace Go.Proofs.YtkhkmgblgonfoaaDoor
open Go.RowKit

/-- A source in a block. -/
structure Src (w : World) (r : Nat) (A : Option Addr) (n cap : Nat) (k : Nat) : Prop where
  c0 : w.cell? ⟨r, 0, none⟩ = some (.slice A n cap)
  c1 : w.cell? ⟨r, 1, none⟩ = some (.int .i64 (k : Int))
  fz : ∀ o, w.frozen? ⟨r, o, none⟩ = false
  hk : k ≤ n
theorem Src.grown {w w' : World} {r : Nat} {A : Option Addr} {n cap k : Nat} {row : Option Nat} (h : Src w r A n cap k) (hg : w.grownBy w' row) (hne : some r ≠ row) : Src w' r A n cap k :=
  ⟨hg.cell h.c0 hne, hg.cell h.c1 hne, fun o => (hg.frozen_far ⟨r, o, none⟩ (cell_lt h.c0) hne).trans (h.fz o), h.hk⟩

/-- A number from 0 to m - 1 that the source hands out. -/
def NextOut (m : Int) (w : World) (r : Nat) (A : Option Addr) (n cap : Nat) (e : Ending) (w' : World) : Prop :=
  ∃ v k, e = .returned (.int .i64 v) ∧ 0 ≤ v ∧ v < m ∧ Src w' r A n cap k ∧ w.grownBy w' (some r)

theorem grown_drewN (w : World) (n : Nat) (row : Option Nat) : w.grownBy (w.drewN n) row := ⟨rfl, rfl, rfl, Nat.le_refl _, fun _ _ _ => rfl⟩
theorem Src.drewN {w : World} {r : Nat} {A : Option Addr} {n cap k : Nat} (h : Src w r A n cap k) (m : Nat) : Src (w.drewN m) r A n cap k := h.grown (grown_drewN w m none) (by simp)
theorem Src.step {w : World} {r : Nat} {A : Option Addr} {n cap k : Nat} (h : Src w r A n cap k) (hk : k < n) : Src (w.setCell ⟨r, 1, none⟩ (.int .i64 ((k : Int) + 1))) r A n cap (k + 1) := by
  obtain ⟨c0, c1, fz, _⟩ := h
  exact ⟨by simp [go_sem, c0], by simp [go_sem, c1], fun o => by simp [go_sem, fz], hk⟩


/-- A service's name and instance. -/
def SvcOut (w : World) (e : Ending) (w' : World) : Prop := ∃ a b c : ByteArray, e = .returned (.agg #[.string a, .string b, .string c]) ∧ S1.vName a.data.toList = true ∧ S1.vInst b.data.toList = true ∧ Below w.heap.size w w'





end Go.Proofs.YtkhkmgblgonfoaaDoor

/-
  Tickets that are made of plain data: they are valid.
-/
namespace Go.Proofs.YtkhkmgblgonfoaaDoor
open Go.RowKit

/-- A ticket without an error, by its parts. -/
structure Gd (t : S6.Tk) : Prop where
  a : S1.vName t.a.data.toList = true
  b : S1.vInst t.b.data.toList = true
  c : S1.vRealm t.c.data.toList = true
  s : S1.vName t.s.data.toList = true
  i : S1.vInst t.i.data.toList = true
  k : S3.ck t.k = 2 ∧ 0 ≤ t.k ∧ t.k ≤ 18446744073709551615
  ad : 0 ≤ t.ad ∧ t.ad ≤ 4294967295
  li : 0 ≤ t.li ∧ t.li ≤ 255
  is : 0 ≤ t.is ∧ t.is ≤ 4294967295
theorem small {s : ByteArray} (h : (nums s).length ≤ 39) : s.size ≤ maxLen := by
  rw [nums_len] at h
  exact Nat.le_trans h (by decide)
theorem Gd.fit {t : S6.Tk} (h : Gd t) : t.Fit :=
  ⟨small (S5.vName_ok h.a).2, small (S5.vInst_ok h.b).2, small (S5.vRealm_ok h.c).2, small (S5.vName_ok h.s).2, small (S5.vInst_ok h.i).2, by have := h.ad; omega, h.k.2, by have := h.li; omega, by have := h.is; omega⟩
theorem Gd.chk {t : S6.Tk} (h : Gd t) : S6.chkE t = 0 := by
  refine S6.chk_ok ?_ h.k.1 ?_
  · unfold S6.nm S1.vP
    rw [h.a, h.b, h.c, h.s, h.i]; rfl
  · unfold S6.rg
    rw [S6.win_iff.2 h.ad, S6.win_iff.2 h.li, S6.win_iff.2 h.is]; rfl
def tkL (t : S6.Tk) : List Value := [.bool t.l, .string t.a, .string t.b, .string t.c, .int .i64 t.ad, .int .u64 t.k, .int .i64 t.li, .int .i64 t.is, .string t.s, .string t.i]
theorem user_ok (n : Int) : S1.vName (userS n).data.toList = true := by rcases user_cases n with h | h | h <;> rw [h] <;> decide
theorem realm_ok (n : Int) : S1.vRealm (realmS n).data.toList = true := by rcases realm_cases n with h | h | h <;> rw [h] <;> decide
theorem session_ok {n : Int} (h0 : 0 ≤ n) (h1 : n ≤ 255) : S3.ck (keyOf 2 n) = 2 ∧ 0 ≤ keyOf 2 n ∧ keyOf 2 n ≤ 18446744073709551615 := by
  obtain ⟨v, k0, k1⟩ := keyOf_facts (c := 2) (.inr rfl) h0 h1
  refine ⟨?_, k0, k1⟩
  unfold S3.ck
  rw [if_pos v]
  unfold keyOf
  omega

theorem grown_ad (X : World) (o : Obj) : X.grownBy (X.alloc o).drew none := by
  have h := World.grownBy_alloc X o none
  exact ⟨h.os, h.tape, h.output, h.size, h.block⟩
theorem nn39_ok : S1.vName (nn 39).data.toList = true ∧ S1.vInst (nn 39).data.toList = true := ⟨by decide, by decide⟩
theorem vinst_nil : S1.vInst (⟨#[]⟩ : ByteArray).data.toList = true := by decide
/-- A valid ticket in the block g, beside the source and the result. -/
def Inv (w W : World) (g : Nat) (A : Option Addr) (n cap : Nat) : Prop := ∃ t k, Gd t ∧ BoxAt W g (tkL t) ∧ Src W (w.heap.size + 1) A n cap k ∧ BoxAt W w.heap.size zeroL ∧ Below w.heap.size w W
theorem fieldp (w : World) (a b c : ByteArray) : (Instr.field 23 (.agg #[.string a, .string b, .string c]) 0).run Tryd.prog w = .ok (.string a) w ∧ (Instr.field 23 (.agg #[.string a, .string b, .string c]) 1).run Tryd.prog w = .ok (.string b) w := ⟨by kernel_rfl, by kernel_rfl⟩

/-- A valid ticket. -/
def TkOut (w : World) (e : Ending) (w' : World) : Prop := ∃ t : S6.Tk, e = .returned t.val ∧ t.Fit ∧ S6.chkE t = 0 ∧ Below w.heap.size w w'


end Go.Proofs.YtkhkmgblgonfoaaDoor
