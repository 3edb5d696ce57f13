/-
  A ticket in memory; what within and Check of the document's answer for tickets return.
-/
import Derived.Test.YtjkpbkbgbgckaaaGreatQFieldPlain
import Derived.Test.YtjkpbkbgbgckaaaGreatQPrinA
import Derived.Test.YtjkpbkbgbgckaaaGreatQKeyR
namespace Go.Proofs.YtjkpbkbgbgckaaaGreat
open Go.RowKit

/-- A ticket's cells in a block. -/
structure TkAt (w : World) (g : Nat) (t : S6.Tk) : Prop where
  c0 : w.cell? ⟨g, 0, none⟩ = some (.bool t.l)
  c1 : w.cell? ⟨g, 1, none⟩ = some (.string t.a)
  c2 : w.cell? ⟨g, 2, none⟩ = some (.string t.b)
  c3 : w.cell? ⟨g, 3, none⟩ = some (.string t.c)
  c4 : w.cell? ⟨g, 4, none⟩ = some (.int .i64 t.ad)
  c5 : w.cell? ⟨g, 5, none⟩ = some (.int .u64 t.k)
  c6 : w.cell? ⟨g, 6, none⟩ = some (.int .i64 t.li)
  c7 : w.cell? ⟨g, 7, none⟩ = some (.int .i64 t.is)
  c8 : w.cell? ⟨g, 8, none⟩ = some (.string t.s)
  c9 : w.cell? ⟨g, 9, none⟩ = some (.string t.i)
theorem TkAt.keep {w w' : World} {g : Nat} {t : S6.Tk} (hb : Below w.heap.size w w') (h : TkAt w g t) : TkAt w' g t :=
  ⟨cell_keep hb h.c0, cell_keep hb h.c1, cell_keep hb h.c2, cell_keep hb h.c3, cell_keep hb h.c4, cell_keep hb h.c5, cell_keep hb h.c6, cell_keep hb h.c7, cell_keep hb h.c8, cell_keep hb h.c9⟩
theorem TkAt.drew {w : World} {g : Nat} {t : S6.Tk} (h : TkAt w g t) : TkAt w.drew g t := ⟨h.c0, h.c1, h.c2, h.c3, h.c4, h.c5, h.c6, h.c7, h.c8, h.c9⟩
theorem TkAt.new (w : World) (t : S6.Tk) (T : TypeId) : TkAt (w.alloc (.cells t.cells T)) w.heap.size t :=
  ⟨by simp [go_sem, S6.Tk.cells], by simp [go_sem, S6.Tk.cells], by simp [go_sem, S6.Tk.cells], by simp [go_sem, S6.Tk.cells], by simp [go_sem, S6.Tk.cells], by simp [go_sem, S6.Tk.cells], by simp [go_sem, S6.Tk.cells], by simp [go_sem, S6.Tk.cells], by simp [go_sem, S6.Tk.cells], by simp [go_sem, S6.Tk.cells]⟩

theorem r6within_any (n m : Int) (w : World) : Calls Tryz.prog 68 #[.int .i64 n, .int .i64 m] w fun e w' => e = .returned (.bool (S6.win n m)) ∧ w = w' := by
  by_cases h : 0 ≤ n
  · go_enter Tryz.func68, Tryz.ntmps68
    go_wp2
    go_ret
    exact ⟨ret_bool (by simp [S6.win, h]), rfl⟩
  · have hn : n < 0 := by omega
    go_enter Tryz.func68, Tryz.ntmps68
    go_wp2
    go_ret
    exact ⟨ret_bool (by simp [S6.win]; omega), rfl⟩

def ChkOut (t : S6.Tk) (w : World) (e : Ending) (w' : World) : Prop := e = .returned (.int .i64 (S6.chkE t)) ∧ Below w.heap.size w w'

set_option maxRecDepth 100000 in
set_option maxHeartbeats 3200000 in
theorem r6check_a (t : S6.Tk) (f : t.Fit) (w : World) (hv : S1.vP t.a.data.toList t.b.data.toList t.c.data.toList = false) : Calls Tryz.prog 38 #[t.val] w (ChkOut t w) := by
  have HC := Lib.hid (S6.chk_nm (t := t) (by unfold S6.nm; rw [hv]; rfl))
  have Bw := Lib.hid (show Below w.heap.size w (w.alloc (.cells t.cells 27)) from (Below.refl _ _).alloc (Nat.le_refl _) _)
  have T0 := Lib.hid (TkAt.new w t 27)
  unfold S6.Tk.val S6.Tk.cells
  unfold S6.Tk.cells at Bw T0
  go_enter Tryz.func38, Tryz.ntmps38
  go_wp2_with (first
    | (go_at_call 64; refine (refValid_any _ _ _ _ f.a f.b f.c).mono ?_; rintro e w1 ⟨rfl, hb1⟩; obtain ⟨x0, x1, x2, x3, x4, x5, x6, x7, x8, x9⟩ := T0.out.keep hb1; have B1 := Lib.hid (below_keep hb1 Bw.out); clear hb1)
    | (go_at_call 65; refine (refName_any _ _ f.s).mono ?_; rintro e w' ⟨rfl, m1, rfl⟩)
    | (go_at_call 66; refine (refInst_any _ _ f.i).mono ?_; rintro e w' ⟨rfl, m2, rfl⟩)
    | (go_at_call 67; refine (r3class_any _ _ f.k.1 f.k.2).mono ?_; rintro e w' ⟨rfl, rfl⟩)
    | (go_at_call 68; refine (r6within_any _ _ _).mono ?_; rintro e w' ⟨rfl, rfl⟩))
  go_ret
  exact ⟨ret_int HC.out.symm, by repeat (first | exact B1.out | apply below_drewN' | apply Below.drew)⟩

set_option maxRecDepth 100000 in
set_option maxHeartbeats 3200000 in
theorem r6check_b (t : S6.Tk) (f : t.Fit) (w : World) (hv : S1.vP t.a.data.toList t.b.data.toList t.c.data.toList = true) (hs : S1.vName t.s.data.toList = false) : Calls Tryz.prog 38 #[t.val] w (ChkOut t w) := by
  have HC := Lib.hid (S6.chk_nm (t := t) (by unfold S6.nm; rw [hv, hs]; rfl))
  have Bw := Lib.hid (show Below w.heap.size w (w.alloc (.cells t.cells 27)) from (Below.refl _ _).alloc (Nat.le_refl _) _)
  have T0 := Lib.hid (TkAt.new w t 27)
  unfold S6.Tk.val S6.Tk.cells
  unfold S6.Tk.cells at Bw T0
  go_enter Tryz.func38, Tryz.ntmps38
  go_wp2_with (first
    | (go_at_call 64; refine (refValid_any _ _ _ _ f.a f.b f.c).mono ?_; rintro e w1 ⟨rfl, hb1⟩; obtain ⟨x0, x1, x2, x3, x4, x5, x6, x7, x8, x9⟩ := T0.out.keep hb1; have B1 := Lib.hid (below_keep hb1 Bw.out); clear hb1)
    | (go_at_call 65; refine (refName_any _ _ f.s).mono ?_; rintro e w' ⟨rfl, m1, rfl⟩)
    | (go_at_call 66; refine (refInst_any _ _ f.i).mono ?_; rintro e w' ⟨rfl, m2, rfl⟩)
    | (go_at_call 67; refine (r3class_any _ _ f.k.1 f.k.2).mono ?_; rintro e w' ⟨rfl, rfl⟩)
    | (go_at_call 68; refine (r6within_any _ _ _).mono ?_; rintro e w' ⟨rfl, rfl⟩))
  go_ret
  exact ⟨ret_int HC.out.symm, by repeat (first | exact B1.out | apply below_drewN' | apply Below.drew)⟩

set_option maxRecDepth 100000 in
set_option maxHeartbeats 3200000 in
theorem r6check_c (t : S6.Tk) (f : t.Fit) (w : World) (hv : S1.vP t.a.data.toList t.b.data.toList t.c.data.toList = true) (hs : S1.vName t.s.data.toList = true) (hi : S1.text [64] t.i.data.toList = false) : Calls Tryz.prog 38 #[t.val] w (ChkOut t w) := by
  have HC := Lib.hid (S6.chk_nm (t := t) (by unfold S6.nm S1.vInst; rw [hv, hs, hi]; rfl))
  have Bw := Lib.hid (show Below w.heap.size w (w.alloc (.cells t.cells 27)) from (Below.refl _ _).alloc (Nat.le_refl _) _)
  have T0 := Lib.hid (TkAt.new w t 27)
  unfold S6.Tk.val S6.Tk.cells
  unfold S6.Tk.cells at Bw T0
  go_enter Tryz.func38, Tryz.ntmps38
  go_wp2_with (first
    | (go_at_call 64; refine (refValid_any _ _ _ _ f.a f.b f.c).mono ?_; rintro e w1 ⟨rfl, hb1⟩; obtain ⟨x0, x1, x2, x3, x4, x5, x6, x7, x8, x9⟩ := T0.out.keep hb1; have B1 := Lib.hid (below_keep hb1 Bw.out); clear hb1)
    | (go_at_call 65; refine (refName_any _ _ f.s).mono ?_; rintro e w' ⟨rfl, m1, rfl⟩)
    | (go_at_call 66; refine (refInst_any _ _ f.i).mono ?_; rintro e w' ⟨rfl, m2, rfl⟩)
    | (go_at_call 67; refine (r3class_any _ _ f.k.1 f.k.2).mono ?_; rintro e w' ⟨rfl, rfl⟩)
    | (go_at_call 68; refine (r6within_any _ _ _).mono ?_; rintro e w' ⟨rfl, rfl⟩))
  go_ret
  exact ⟨ret_int HC.out.symm, by repeat (first | exact B1.out | apply below_drewN' | apply Below.drew)⟩

set_option maxRecDepth 100000 in
set_option maxHeartbeats 3200000 in
theorem r6check_d (t : S6.Tk) (f : t.Fit) (w : World) (hv : S1.vP t.a.data.toList t.b.data.toList t.c.data.toList = true) (hs : S1.vName t.s.data.toList = true) (hi : S1.text [64] t.i.data.toList = true) (hk : S3.ck t.k ≠ 2) : Calls Tryz.prog 38 #[t.val] w (ChkOut t w) := by
  have HC := Lib.hid (S6.chk_key (t := t) (by unfold S6.nm S1.vInst; rw [hv, hs, hi]; rfl) hk)
  have Bw := Lib.hid (show Below w.heap.size w (w.alloc (.cells t.cells 27)) from (Below.refl _ _).alloc (Nat.le_refl _) _)
  have T0 := Lib.hid (TkAt.new w t 27)
  unfold S6.Tk.val S6.Tk.cells
  unfold S6.Tk.cells at Bw T0
  have hk2 : (S3.ck t.k != 2) = true := by simpa using hk
  go_enter Tryz.func38, Tryz.ntmps38
  go_wp2_with (first
    | (go_at_call 64; refine (refValid_any _ _ _ _ f.a f.b f.c).mono ?_; rintro e w1 ⟨rfl, hb1⟩; obtain ⟨x0, x1, x2, x3, x4, x5, x6, x7, x8, x9⟩ := T0.out.keep hb1; have B1 := Lib.hid (below_keep hb1 Bw.out); clear hb1)
    | (go_at_call 65; refine (refName_any _ _ f.s).mono ?_; rintro e w' ⟨rfl, m1, rfl⟩)
    | (go_at_call 66; refine (refInst_any _ _ f.i).mono ?_; rintro e w' ⟨rfl, m2, rfl⟩)
    | (go_at_call 67; refine (r3class_any _ _ f.k.1 f.k.2).mono ?_; rintro e w' ⟨rfl, rfl⟩)
    | (go_at_call 68; refine (r6within_any _ _ _).mono ?_; rintro e w' ⟨rfl, rfl⟩))
  go_ret
  exact ⟨ret_int HC.out.symm, by repeat (first | exact B1.out | apply below_drewN' | apply Below.drew)⟩

set_option maxRecDepth 100000 in
set_option maxHeartbeats 3200000 in
theorem r6check_e (t : S6.Tk) (f : t.Fit) (w : World) (hv : S1.vP t.a.data.toList t.b.data.toList t.c.data.toList = true) (hs : S1.vName t.s.data.toList = true) (hi : S1.text [64] t.i.data.toList = true) (hk : S3.ck t.k = 2) (hx : S6.win t.ad 4294967295 = false) : Calls Tryz.prog 38 #[t.val] w (ChkOut t w) := by
  have HC := Lib.hid (S6.chk_rg (t := t) (by unfold S6.nm S1.vInst; rw [hv, hs, hi]; rfl) hk (by unfold S6.rg; rw [hx]; rfl))
  have Bw := Lib.hid (show Below w.heap.size w (w.alloc (.cells t.cells 27)) from (Below.refl _ _).alloc (Nat.le_refl _) _)
  have T0 := Lib.hid (TkAt.new w t 27)
  unfold S6.Tk.val S6.Tk.cells
  unfold S6.Tk.cells at Bw T0
  go_enter Tryz.func38, Tryz.ntmps38
  go_wp2_with (first
    | (go_at_call 64; refine (refValid_any _ _ _ _ f.a f.b f.c).mono ?_; rintro e w1 ⟨rfl, hb1⟩; obtain ⟨x0, x1, x2, x3, x4, x5, x6, x7, x8, x9⟩ := T0.out.keep hb1; have B1 := Lib.hid (below_keep hb1 Bw.out); clear hb1)
    | (go_at_call 65; refine (refName_any _ _ f.s).mono ?_; rintro e w' ⟨rfl, m1, rfl⟩)
    | (go_at_call 66; refine (refInst_any _ _ f.i).mono ?_; rintro e w' ⟨rfl, m2, rfl⟩)
    | (go_at_call 67; refine (r3class_any _ _ f.k.1 f.k.2).mono ?_; rintro e w' ⟨rfl, rfl⟩)
    | (go_at_call 68; refine (r6within_any _ _ _).mono ?_; rintro e w' ⟨rfl, rfl⟩))
  go_ret
  exact ⟨ret_int HC.out.symm, by repeat (first | exact B1.out | apply below_drewN' | apply Below.drew)⟩

set_option maxRecDepth 100000 in
set_option maxHeartbeats 3200000 in
theorem r6check_f (t : S6.Tk) (f : t.Fit) (w : World) (hv : S1.vP t.a.data.toList t.b.data.toList t.c.data.toList = true) (hs : S1.vName t.s.data.toList = true) (hi : S1.text [64] t.i.data.toList = true) (hk : S3.ck t.k = 2) (hx : S6.win t.ad 4294967295 = true) (hy : S6.win t.li 255 = false) : Calls Tryz.prog 38 #[t.val] w (ChkOut t w) := by
  have HC := Lib.hid (S6.chk_rg (t := t) (by unfold S6.nm S1.vInst; rw [hv, hs, hi]; rfl) hk (by unfold S6.rg; rw [hx, hy]; rfl))
  have Bw := Lib.hid (show Below w.heap.size w (w.alloc (.cells t.cells 27)) from (Below.refl _ _).alloc (Nat.le_refl _) _)
  have T0 := Lib.hid (TkAt.new w t 27)
  unfold S6.Tk.val S6.Tk.cells
  unfold S6.Tk.cells at Bw T0
  go_enter Tryz.func38, Tryz.ntmps38
  go_wp2_with (first
    | (go_at_call 64; refine (refValid_any _ _ _ _ f.a f.b f.c).mono ?_; rintro e w1 ⟨rfl, hb1⟩; obtain ⟨x0, x1, x2, x3, x4, x5, x6, x7, x8, x9⟩ := T0.out.keep hb1; have B1 := Lib.hid (below_keep hb1 Bw.out); clear hb1)
    | (go_at_call 65; refine (refName_any _ _ f.s).mono ?_; rintro e w' ⟨rfl, m1, rfl⟩)
    | (go_at_call 66; refine (refInst_any _ _ f.i).mono ?_; rintro e w' ⟨rfl, m2, rfl⟩)
    | (go_at_call 67; refine (r3class_any _ _ f.k.1 f.k.2).mono ?_; rintro e w' ⟨rfl, rfl⟩)
    | (go_at_call 68; refine (r6within_any _ _ _).mono ?_; rintro e w' ⟨rfl, rfl⟩))
  go_ret
  exact ⟨ret_int HC.out.symm, by repeat (first | exact B1.out | apply below_drewN' | apply Below.drew)⟩

set_option maxRecDepth 100000 in
set_option maxHeartbeats 3200000 in
theorem r6check_g (t : S6.Tk) (f : t.Fit) (w : World) (hv : S1.vP t.a.data.toList t.b.data.toList t.c.data.toList = true) (hs : S1.vName t.s.data.toList = true) (hi : S1.text [64] t.i.data.toList = true) (hk : S3.ck t.k = 2) (hx : S6.win t.ad 4294967295 = true) (hy : S6.win t.li 255 = true) (hz : S6.win t.is 4294967295 = false) : Calls Tryz.prog 38 #[t.val] w (ChkOut t w) := by
  have HC := Lib.hid (S6.chk_rg (t := t) (by unfold S6.nm S1.vInst; rw [hv, hs, hi]; rfl) hk (by unfold S6.rg; rw [hx, hy, hz]; rfl))
  have Bw := Lib.hid (show Below w.heap.size w (w.alloc (.cells t.cells 27)) from (Below.refl _ _).alloc (Nat.le_refl _) _)
  have T0 := Lib.hid (TkAt.new w t 27)
  unfold S6.Tk.val S6.Tk.cells
  unfold S6.Tk.cells at Bw T0
  go_enter Tryz.func38, Tryz.ntmps38
  go_wp2_with (first
    | (go_at_call 64; refine (refValid_any _ _ _ _ f.a f.b f.c).mono ?_; rintro e w1 ⟨rfl, hb1⟩; obtain ⟨x0, x1, x2, x3, x4, x5, x6, x7, x8, x9⟩ := T0.out.keep hb1; have B1 := Lib.hid (below_keep hb1 Bw.out); clear hb1)
    | (go_at_call 65; refine (refName_any _ _ f.s).mono ?_; rintro e w' ⟨rfl, m1, rfl⟩)
    | (go_at_call 66; refine (refInst_any _ _ f.i).mono ?_; rintro e w' ⟨rfl, m2, rfl⟩)
    | (go_at_call 67; refine (r3class_any _ _ f.k.1 f.k.2).mono ?_; rintro e w' ⟨rfl, rfl⟩)
    | (go_at_call 68; refine (r6within_any _ _ _).mono ?_; rintro e w' ⟨rfl, rfl⟩))
  go_ret
  exact ⟨ret_int HC.out.symm, by repeat (first | exact B1.out | apply below_drewN' | apply Below.drew)⟩

set_option maxRecDepth 100000 in
set_option maxHeartbeats 3200000 in
theorem r6check_h (t : S6.Tk) (f : t.Fit) (w : World) (hv : S1.vP t.a.data.toList t.b.data.toList t.c.data.toList = true) (hs : S1.vName t.s.data.toList = true) (hi : S1.text [64] t.i.data.toList = true) (hk : S3.ck t.k = 2) (hx : S6.win t.ad 4294967295 = true) (hy : S6.win t.li 255 = true) (hz : S6.win t.is 4294967295 = true) : Calls Tryz.prog 38 #[t.val] w (ChkOut t w) := by
  have HC := Lib.hid (S6.chk_ok (t := t) (by unfold S6.nm S1.vInst; rw [hv, hs, hi]; rfl) hk (by unfold S6.rg; rw [hx, hy, hz]; rfl))
  have Bw := Lib.hid (show Below w.heap.size w (w.alloc (.cells t.cells 27)) from (Below.refl _ _).alloc (Nat.le_refl _) _)
  have T0 := Lib.hid (TkAt.new w t 27)
  unfold S6.Tk.val S6.Tk.cells
  unfold S6.Tk.cells at Bw T0
  go_enter Tryz.func38, Tryz.ntmps38
  go_wp2_with (first
    | (go_at_call 64; refine (refValid_any _ _ _ _ f.a f.b f.c).mono ?_; rintro e w1 ⟨rfl, hb1⟩; obtain ⟨x0, x1, x2, x3, x4, x5, x6, x7, x8, x9⟩ := T0.out.keep hb1; have B1 := Lib.hid (below_keep hb1 Bw.out); clear hb1)
    | (go_at_call 65; refine (refName_any _ _ f.s).mono ?_; rintro e w' ⟨rfl, m1, rfl⟩)
    | (go_at_call 66; refine (refInst_any _ _ f.i).mono ?_; rintro e w' ⟨rfl, m2, rfl⟩)
    | (go_at_call 67; refine (r3class_any _ _ f.k.1 f.k.2).mono ?_; rintro e w' ⟨rfl, rfl⟩)
    | (go_at_call 68; refine (r6within_any _ _ _).mono ?_; rintro e w' ⟨rfl, rfl⟩))
  go_ret
  exact ⟨ret_int HC.out.symm, by repeat (first | exact B1.out | apply below_drewN' | apply Below.drew)⟩

theorem r6check_any (t : S6.Tk) (f : t.Fit) (w : World) : Calls Tryz.prog 38 #[t.val] w (ChkOut t w) := by
  rcases hv : S1.vP t.a.data.toList t.b.data.toList t.c.data.toList
  · exact r6check_a t f w hv
  rcases hs : S1.vName t.s.data.toList
  · exact r6check_b t f w hv hs
  rcases hi : S1.text [64] t.i.data.toList
  · exact r6check_c t f w hv hs hi
  by_cases hk : S3.ck t.k = 2
  · rcases hx : S6.win t.ad 4294967295
    · exact r6check_e t f w hv hs hi hk hx
    rcases hy : S6.win t.li 255
    · exact r6check_f t f w hv hs hi hk hx hy
    rcases hz : S6.win t.is 4294967295
    · exact r6check_g t f w hv hs hi hk hx hy hz
    · exact r6check_h t f w hv hs hi hk hx hy hz
  · exact r6check_d t f w hv hs hi hk

end Go.Proofs.YtjkpbkbgbgckaaaGreat
