/-
  An authenticator in memory; what within, Check and PutOrder of the documents' answers return.
-/
import Derived.Test.YtihacmonohjmaaaQFieldPlain
import Derived.Test.YtihacmonohjmaaaQPrinA
import Derived.Test.YtihacmonohjmaaaQFieldR
namespace Go.Proofs.Ytihacmonohjmaaa
open Go.RowKit

/-- An authenticator's cells in a block. -/
structure AuAt (w : World) (g : Nat) (t : S7.Au) : Prop where
  c0 : w.cell? ⟨g, 0, none⟩ = some (.string t.a)
  c1 : w.cell? ⟨g, 1, none⟩ = some (.string t.b)
  c2 : w.cell? ⟨g, 2, none⟩ = some (.string t.c)
  c3 : w.cell? ⟨g, 3, none⟩ = some (.int .i64 t.ck)
  c4 : w.cell? ⟨g, 4, none⟩ = some (.int .i64 t.ti)
  c5 : w.cell? ⟨g, 5, none⟩ = some (.int .i64 t.tm)
theorem AuAt.keep {w w' : World} {g : Nat} {t : S7.Au} (hb : Below w.heap.size w w') (h : AuAt w g t) : AuAt w' g t :=
  ⟨cell_keep hb h.c0, cell_keep hb h.c1, cell_keep hb h.c2, cell_keep hb h.c3, cell_keep hb h.c4, cell_keep hb h.c5⟩
theorem AuAt.drew {w : World} {g : Nat} {t : S7.Au} (h : AuAt w g t) : AuAt w.drew g t := ⟨h.c0, h.c1, h.c2, h.c3, h.c4, h.c5⟩
theorem AuAt.new (w : World) (t : S7.Au) (T : TypeId) : AuAt (w.alloc (.cells t.cells T)) w.heap.size t :=
  ⟨by simp [go_sem, S7.Au.cells], by simp [go_sem, S7.Au.cells], by simp [go_sem, S7.Au.cells], by simp [go_sem, S7.Au.cells], by simp [go_sem, S7.Au.cells], by simp [go_sem, S7.Au.cells]⟩

theorem r7within_any (n m : Int) (w : World) : Calls Try.prog 29 #[.int .i64 n, .int .i64 m] w fun e w' => e = .returned (.bool (S7.win n m)) ∧ w = w' := by
  by_cases h : 0 ≤ n
  · go_enter Try.func29, Try.ntmps29
    go_wp2
    go_ret
    exact ⟨ret_bool (by simp [S7.win, h]), rfl⟩
  · have hn : n < 0 := by omega
    go_enter Try.func29, Try.ntmps29
    go_wp2
    go_ret
    exact ⟨ret_bool (by simp [S7.win]; omega), rfl⟩

theorem r5putOrder_any (A : Option Addr) (bn cap : Nat) (zs : List Int) (l : Bool) (w : World) (h : Sl w A bn cap zs) (hn : bn ≤ 100000) : Calls Try.prog 36 #[.slice A bn cap, .bool l] w (BytesOut (zs ++ S5.num1 (S7.flag l)) w) := by
  cases l
  all_goals
    go_enter Try.func36, Try.ntmps36
    go_wp2_with (fail)
    refine (r5putOctet_any _ _ _ zs _ _ h hn).mono ?_
    rintro e w1 ⟨A1, n1, c1, rfl, hs1, hb1, hf1⟩
    go_wp2_with (fail)
    go_ret
    exact ⟨A1, n1, c1, rfl, hs1, hb1, hf1⟩

def ChkOut7 (t : S7.Au) (w : World) (e : Ending) (w' : World) : Prop := e = .returned (.int .i64 (S7.chkE t)) ∧ Below w.heap.size w w'

set_option maxRecDepth 100000 in
set_option maxHeartbeats 3200000 in
theorem r7check_a (t : S7.Au) (f : t.Fit) (w : World) (hv : S1.vP t.a.data.toList t.b.data.toList t.c.data.toList = false) : Calls Try.prog 12 #[t.val] w (ChkOut7 t w) := by
  have HC := Lib.hid (S7.chk_nm (t := t) hv)
  have Bw := Lib.hid (show Below w.heap.size w (w.alloc (.cells t.cells 25)) from (Below.refl _ _).alloc (Nat.le_refl _) _)
  have T0 := Lib.hid (AuAt.new w t 25)
  unfold S7.Au.val S7.Au.cells
  unfold S7.Au.cells at Bw T0
  go_enter Try.func12, Try.ntmps12
  go_wp2_with (first
    | (go_at_call 28; refine (refValid_any _ _ _ _ f.a f.b f.c).mono ?_; rintro e w1 ⟨rfl, hb1⟩; obtain ⟨x0, x1, x2, x3, x4, x5⟩ := T0.out.keep hb1; have B1 := Lib.hid (below_keep hb1 Bw.out); clear hb1)
    | (go_at_call 29; refine (r7within_any _ _ _).mono ?_; rintro e w' ⟨rfl, rfl⟩))
  go_ret
  exact ⟨ret_int HC.out.symm, B1.out⟩

set_option maxRecDepth 100000 in
set_option maxHeartbeats 3200000 in
theorem r7check_b (t : S7.Au) (f : t.Fit) (w : World) (hv : S1.vP t.a.data.toList t.b.data.toList t.c.data.toList = true) (hx : S7.win t.ck 4294967295 = false) : Calls Try.prog 12 #[t.val] w (ChkOut7 t w) := by
  have HC := Lib.hid (S7.chk_rg (t := t) hv (by unfold S7.rg; rw [hx]; rfl))
  have Bw := Lib.hid (show Below w.heap.size w (w.alloc (.cells t.cells 25)) from (Below.refl _ _).alloc (Nat.le_refl _) _)
  have T0 := Lib.hid (AuAt.new w t 25)
  unfold S7.Au.val S7.Au.cells
  unfold S7.Au.cells at Bw T0
  go_enter Try.func12, Try.ntmps12
  go_wp2_with (first
    | (go_at_call 28; refine (refValid_any _ _ _ _ f.a f.b f.c).mono ?_; rintro e w1 ⟨rfl, hb1⟩; obtain ⟨x0, x1, x2, x3, x4, x5⟩ := T0.out.keep hb1; have B1 := Lib.hid (below_keep hb1 Bw.out); clear hb1)
    | (go_at_call 29; refine (r7within_any _ _ _).mono ?_; rintro e w' ⟨rfl, rfl⟩))
  go_ret
  exact ⟨ret_int HC.out.symm, B1.out⟩

set_option maxRecDepth 100000 in
set_option maxHeartbeats 3200000 in
theorem r7check_c (t : S7.Au) (f : t.Fit) (w : World) (hv : S1.vP t.a.data.toList t.b.data.toList t.c.data.toList = true) (hx : S7.win t.ck 4294967295 = true) (hy : S7.win t.ti 199 = false) : Calls Try.prog 12 #[t.val] w (ChkOut7 t w) := by
  have HC := Lib.hid (S7.chk_rg (t := t) hv (by unfold S7.rg; rw [hx, hy]; rfl))
  have Bw := Lib.hid (show Below w.heap.size w (w.alloc (.cells t.cells 25)) from (Below.refl _ _).alloc (Nat.le_refl _) _)
  have T0 := Lib.hid (AuAt.new w t 25)
  unfold S7.Au.val S7.Au.cells
  unfold S7.Au.cells at Bw T0
  go_enter Try.func12, Try.ntmps12
  go_wp2_with (first
    | (go_at_call 28; refine (refValid_any _ _ _ _ f.a f.b f.c).mono ?_; rintro e w1 ⟨rfl, hb1⟩; obtain ⟨x0, x1, x2, x3, x4, x5⟩ := T0.out.keep hb1; have B1 := Lib.hid (below_keep hb1 Bw.out); clear hb1)
    | (go_at_call 29; refine (r7within_any _ _ _).mono ?_; rintro e w' ⟨rfl, rfl⟩))
  go_ret
  exact ⟨ret_int HC.out.symm, B1.out⟩

set_option maxRecDepth 100000 in
set_option maxHeartbeats 3200000 in
theorem r7check_d (t : S7.Au) (f : t.Fit) (w : World) (hv : S1.vP t.a.data.toList t.b.data.toList t.c.data.toList = true) (hx : S7.win t.ck 4294967295 = true) (hy : S7.win t.ti 199 = true) (hz : S7.win t.tm 4294967295 = false) : Calls Try.prog 12 #[t.val] w (ChkOut7 t w) := by
  have HC := Lib.hid (S7.chk_rg (t := t) hv (by unfold S7.rg; rw [hx, hy, hz]; rfl))
  have Bw := Lib.hid (show Below w.heap.size w (w.alloc (.cells t.cells 25)) from (Below.refl _ _).alloc (Nat.le_refl _) _)
  have T0 := Lib.hid (AuAt.new w t 25)
  unfold S7.Au.val S7.Au.cells
  unfold S7.Au.cells at Bw T0
  go_enter Try.func12, Try.ntmps12
  go_wp2_with (first
    | (go_at_call 28; refine (refValid_any _ _ _ _ f.a f.b f.c).mono ?_; rintro e w1 ⟨rfl, hb1⟩; obtain ⟨x0, x1, x2, x3, x4, x5⟩ := T0.out.keep hb1; have B1 := Lib.hid (below_keep hb1 Bw.out); clear hb1)
    | (go_at_call 29; refine (r7within_any _ _ _).mono ?_; rintro e w' ⟨rfl, rfl⟩))
  go_ret
  exact ⟨ret_int HC.out.symm, B1.out⟩

set_option maxRecDepth 100000 in
set_option maxHeartbeats 3200000 in
theorem r7check_e (t : S7.Au) (f : t.Fit) (w : World) (hv : S1.vP t.a.data.toList t.b.data.toList t.c.data.toList = true) (hx : S7.win t.ck 4294967295 = true) (hy : S7.win t.ti 199 = true) (hz : S7.win t.tm 4294967295 = true) : Calls Try.prog 12 #[t.val] w (ChkOut7 t w) := by
  have HC := Lib.hid (S7.chk_ok (t := t) hv (by unfold S7.rg; rw [hx, hy, hz]; rfl))
  have Bw := Lib.hid (show Below w.heap.size w (w.alloc (.cells t.cells 25)) from (Below.refl _ _).alloc (Nat.le_refl _) _)
  have T0 := Lib.hid (AuAt.new w t 25)
  unfold S7.Au.val S7.Au.cells
  unfold S7.Au.cells at Bw T0
  go_enter Try.func12, Try.ntmps12
  go_wp2_with (first
    | (go_at_call 28; refine (refValid_any _ _ _ _ f.a f.b f.c).mono ?_; rintro e w1 ⟨rfl, hb1⟩; obtain ⟨x0, x1, x2, x3, x4, x5⟩ := T0.out.keep hb1; have B1 := Lib.hid (below_keep hb1 Bw.out); clear hb1)
    | (go_at_call 29; refine (r7within_any _ _ _).mono ?_; rintro e w' ⟨rfl, rfl⟩))
  go_ret
  exact ⟨ret_int HC.out.symm, B1.out⟩

theorem r7check_any (t : S7.Au) (f : t.Fit) (w : World) : Calls Try.prog 12 #[t.val] w (ChkOut7 t w) := by
  rcases hv : S1.vP t.a.data.toList t.b.data.toList t.c.data.toList
  · exact r7check_a t f w hv
  rcases hx : S7.win t.ck 4294967295
  · exact r7check_b t f w hv hx
  rcases hy : S7.win t.ti 199
  · exact r7check_c t f w hv hx hy
  rcases hz : S7.win t.tm 4294967295
  · exact r7check_d t f w hv hx hy hz
  · exact r7check_e t f w hv hx hy hz

end Go.Proofs.Ytihacmonohjmaaa
