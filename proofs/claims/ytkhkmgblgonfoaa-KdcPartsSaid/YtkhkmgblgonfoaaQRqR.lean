/-
  What EncodeRequest of the document's answer returns.
-/
import Derived.Test.YtkhkmgblgonfoaaQFieldPlain
import Derived.Test.YtkhkmgblgonfoaaQRefN
import Derived.Test.YtkhkmgblgonfoaaQHdR
import Derived.Test.YtkhkmgblgonfoaaQFieldR
import Derived.Test.YtkhkmgblgonfoaaQFieldRP
import Derived.Deep.RegionHeld3
namespace Go.Proofs.Ytkhkmgblgonfoaa
open Go.RowKit
set_option maxRecDepth 100000

/-- Its cells in a block. -/
structure RqAt (w : World) (g : Nat) (t : S9q.Rq) : Prop where
  c0 : w.cell? ⟨g, 0, none⟩ = some (.bool t.l)
  c1 : w.cell? ⟨g, 1, none⟩ = some (.string t.a)
  c2 : w.cell? ⟨g, 2, none⟩ = some (.string t.b)
  c3 : w.cell? ⟨g, 3, none⟩ = some (.string t.c)
  c4 : w.cell? ⟨g, 4, none⟩ = some (.int .i64 t.tm)
  c5 : w.cell? ⟨g, 5, none⟩ = some (.int .i64 t.li)
  c6 : w.cell? ⟨g, 6, none⟩ = some (.string t.s)
  c7 : w.cell? ⟨g, 7, none⟩ = some (.string t.i)
theorem RqAt.keep {w w' : World} {g : Nat} {t : S9q.Rq} (hb : Below w.heap.size w w') (h : RqAt w g t) : RqAt w' g t :=
  ⟨cell_keep hb h.c0, cell_keep hb h.c1, cell_keep hb h.c2, cell_keep hb h.c3, cell_keep hb h.c4, cell_keep hb h.c5, cell_keep hb h.c6, cell_keep hb h.c7⟩
theorem RqAt.drew {w : World} {g : Nat} {t : S9q.Rq} (h : RqAt w g t) : RqAt w.drew g t := ⟨h.c0, h.c1, h.c2, h.c3, h.c4, h.c5, h.c6, h.c7⟩
theorem RqAt.new (w : World) (t : S9q.Rq) (T : TypeId) : RqAt (w.alloc (.cells (t.cells) T)) w.heap.size t :=
  ⟨by simp [go_sem, S9q.Rq.cells], by simp [go_sem, S9q.Rq.cells], by simp [go_sem, S9q.Rq.cells], by simp [go_sem, S9q.Rq.cells], by simp [go_sem, S9q.Rq.cells], by simp [go_sem, S9q.Rq.cells], by simp [go_sem, S9q.Rq.cells], by simp [go_sem, S9q.Rq.cells]⟩

theorem rqwithin_any (n m : Int) (w : World) : Calls Try.prog 33 #[.int .i64 n, .int .i64 m] w fun e w' => e = .returned (.bool (S9q.win n m)) ∧ w = w' := by
  by_cases h : 0 ≤ n
  · go_enter Try.func33, Try.ntmps33
    go_wp2
    go_ret
    exact ⟨ret_bool (by simp [S9q.win, h]), rfl⟩
  · have hn : n < 0 := by omega
    go_enter Try.func33, Try.ntmps33
    go_wp2
    go_ret
    exact ⟨ret_bool (by simp [S9q.win]; omega), rfl⟩

def RqEnc (t : S9q.Rq) (w : World) (e : Ending) (w' : World) : Prop :=
  ∃ A n cap, e = .returned (.tuple #[.slice A n cap, .int .i64 (S9q.chkE t)]) ∧ Sl w' A n cap (S9q.encB t) ∧ Below w.heap.size w w' ∧ Fresh w.heap.size A

set_option maxHeartbeats 3200000 in
theorem rqenc_0 (t : S9q.Rq) (f : t.Fit) (w : World)  (hx : S1.vP t.a.data.toList t.b.data.toList t.c.data.toList = false) : Calls Try.prog 10 #[t.val] w (RqEnc t w) := by
  have HC := Lib.hid (S9q.chk_0  (show S9q.q0 t = false by unfold S9q.q0 S1.vInst; rw [hx]; try rfl))
  have HB := Lib.hid (show S9q.encB t = [] by unfold S9q.encB; rw [if_neg (by rw [HC.out]; decide)])
  have B := Lib.hid (show Below w.heap.size w (w.alloc (.cells (t.cells) 25)) from (Below.refl _ _).alloc (Nat.le_refl _) _)
  have T := Lib.hid (RqAt.new w t 25)
  unfold S9q.Rq.val S9q.Rq.cells
  unfold S9q.Rq.cells at B T
  obtain ⟨x0, x1, x2, x3, x4, x5, x6, x7⟩ := T.out
  go_enter Try.func10, Try.ntmps10
  go_wp2_with (first
    | (go_at_call 30; refine (refValid_any _ _ _ _ f.a f.b f.c).mono ?_; rintro e w' ⟨rfl, hb⟩; clear x0 x1 x2 x3 x4 x5 x6 x7; replace T := Lib.hid (T.out.keep hb); replace B := Lib.hid (below_keep hb B.out); clear hb; obtain ⟨x0, x1, x2, x3, x4, x5, x6, x7⟩ := T.out)
    | (go_at_call 31; refine (refNameB_any _ _ f.s).mono ?_; rintro e w' ⟨rfl, hb⟩; clear x0 x1 x2 x3 x4 x5 x6 x7; replace T := Lib.hid (T.out.keep hb); replace B := Lib.hid (below_keep hb B.out); clear hb; obtain ⟨x0, x1, x2, x3, x4, x5, x6, x7⟩ := T.out)
    | (go_at_call 32; refine (refInstB_any _ _ f.i).mono ?_; rintro e w' ⟨rfl, hb⟩; clear x0 x1 x2 x3 x4 x5 x6 x7; replace T := Lib.hid (T.out.keep hb); replace B := Lib.hid (below_keep hb B.out); clear hb; obtain ⟨x0, x1, x2, x3, x4, x5, x6, x7⟩ := T.out)
    | (go_at_call 33; refine (rqwithin_any _ _ _).mono ?_; rintro e w' ⟨rfl, rfl⟩))
  go_ret2
  exact ⟨none, 0, 0, ret_two rfl (ival HC.out.symm), by rw [HB.out]; exact Sl.nil _, B.out, Fresh.nil _⟩

set_option maxHeartbeats 3200000 in
theorem rqenc_1 (t : S9q.Rq) (f : t.Fit) (w : World) (h0 : S1.vP t.a.data.toList t.b.data.toList t.c.data.toList = true) (hx : S1.vName t.s.data.toList = false) : Calls Try.prog 10 #[t.val] w (RqEnc t w) := by
  have HC := Lib.hid (S9q.chk_0  (show S9q.q0 t = false by unfold S9q.q0 S1.vInst; rw [h0, hx]; try rfl))
  have HB := Lib.hid (show S9q.encB t = [] by unfold S9q.encB; rw [if_neg (by rw [HC.out]; decide)])
  have B := Lib.hid (show Below w.heap.size w (w.alloc (.cells (t.cells) 25)) from (Below.refl _ _).alloc (Nat.le_refl _) _)
  have T := Lib.hid (RqAt.new w t 25)
  unfold S9q.Rq.val S9q.Rq.cells
  unfold S9q.Rq.cells at B T
  obtain ⟨x0, x1, x2, x3, x4, x5, x6, x7⟩ := T.out
  go_enter Try.func10, Try.ntmps10
  go_wp2_with (first
    | (go_at_call 30; refine (refValid_any _ _ _ _ f.a f.b f.c).mono ?_; rintro e w' ⟨rfl, hb⟩; clear x0 x1 x2 x3 x4 x5 x6 x7; replace T := Lib.hid (T.out.keep hb); replace B := Lib.hid (below_keep hb B.out); clear hb; obtain ⟨x0, x1, x2, x3, x4, x5, x6, x7⟩ := T.out)
    | (go_at_call 31; refine (refNameB_any _ _ f.s).mono ?_; rintro e w' ⟨rfl, hb⟩; clear x0 x1 x2 x3 x4 x5 x6 x7; replace T := Lib.hid (T.out.keep hb); replace B := Lib.hid (below_keep hb B.out); clear hb; obtain ⟨x0, x1, x2, x3, x4, x5, x6, x7⟩ := T.out)
    | (go_at_call 32; refine (refInstB_any _ _ f.i).mono ?_; rintro e w' ⟨rfl, hb⟩; clear x0 x1 x2 x3 x4 x5 x6 x7; replace T := Lib.hid (T.out.keep hb); replace B := Lib.hid (below_keep hb B.out); clear hb; obtain ⟨x0, x1, x2, x3, x4, x5, x6, x7⟩ := T.out)
    | (go_at_call 33; refine (rqwithin_any _ _ _).mono ?_; rintro e w' ⟨rfl, rfl⟩))
  go_ret2
  exact ⟨none, 0, 0, ret_two rfl (ival HC.out.symm), by rw [HB.out]; exact Sl.nil _, B.out, Fresh.nil _⟩

set_option maxHeartbeats 3200000 in
theorem rqenc_2 (t : S9q.Rq) (f : t.Fit) (w : World) (h0 : S1.vP t.a.data.toList t.b.data.toList t.c.data.toList = true) (h1 : S1.vName t.s.data.toList = true) (hx : S1.text [64] t.i.data.toList = false) : Calls Try.prog 10 #[t.val] w (RqEnc t w) := by
  have HC := Lib.hid (S9q.chk_0  (show S9q.q0 t = false by unfold S9q.q0 S1.vInst; rw [h0, h1, hx]; try rfl))
  have HB := Lib.hid (show S9q.encB t = [] by unfold S9q.encB; rw [if_neg (by rw [HC.out]; decide)])
  have B := Lib.hid (show Below w.heap.size w (w.alloc (.cells (t.cells) 25)) from (Below.refl _ _).alloc (Nat.le_refl _) _)
  have T := Lib.hid (RqAt.new w t 25)
  unfold S9q.Rq.val S9q.Rq.cells
  unfold S9q.Rq.cells at B T
  obtain ⟨x0, x1, x2, x3, x4, x5, x6, x7⟩ := T.out
  go_enter Try.func10, Try.ntmps10
  go_wp2_with (first
    | (go_at_call 30; refine (refValid_any _ _ _ _ f.a f.b f.c).mono ?_; rintro e w' ⟨rfl, hb⟩; clear x0 x1 x2 x3 x4 x5 x6 x7; replace T := Lib.hid (T.out.keep hb); replace B := Lib.hid (below_keep hb B.out); clear hb; obtain ⟨x0, x1, x2, x3, x4, x5, x6, x7⟩ := T.out)
    | (go_at_call 31; refine (refNameB_any _ _ f.s).mono ?_; rintro e w' ⟨rfl, hb⟩; clear x0 x1 x2 x3 x4 x5 x6 x7; replace T := Lib.hid (T.out.keep hb); replace B := Lib.hid (below_keep hb B.out); clear hb; obtain ⟨x0, x1, x2, x3, x4, x5, x6, x7⟩ := T.out)
    | (go_at_call 32; refine (refInstB_any _ _ f.i).mono ?_; rintro e w' ⟨rfl, hb⟩; clear x0 x1 x2 x3 x4 x5 x6 x7; replace T := Lib.hid (T.out.keep hb); replace B := Lib.hid (below_keep hb B.out); clear hb; obtain ⟨x0, x1, x2, x3, x4, x5, x6, x7⟩ := T.out)
    | (go_at_call 33; refine (rqwithin_any _ _ _).mono ?_; rintro e w' ⟨rfl, rfl⟩))
  go_ret2
  exact ⟨none, 0, 0, ret_two rfl (ival HC.out.symm), by rw [HB.out]; exact Sl.nil _, B.out, Fresh.nil _⟩

set_option maxHeartbeats 3200000 in
theorem rqenc_3 (t : S9q.Rq) (f : t.Fit) (w : World) (h0 : S1.vP t.a.data.toList t.b.data.toList t.c.data.toList = true) (h1 : S1.vName t.s.data.toList = true) (h2 : S1.text [64] t.i.data.toList = true) (hx : S9q.win t.tm 4294967295 = false) : Calls Try.prog 10 #[t.val] w (RqEnc t w) := by
  have HC := Lib.hid (S9q.chk_1 (show S9q.q0 t = true by unfold S9q.q0 S1.vInst; rw [h0, h1, h2]; try rfl) (show S9q.q1 t = false by unfold S9q.q1; rw [hx]; try rfl))
  have HB := Lib.hid (show S9q.encB t = [] by unfold S9q.encB; rw [if_neg (by rw [HC.out]; decide)])
  have B := Lib.hid (show Below w.heap.size w (w.alloc (.cells (t.cells) 25)) from (Below.refl _ _).alloc (Nat.le_refl _) _)
  have T := Lib.hid (RqAt.new w t 25)
  unfold S9q.Rq.val S9q.Rq.cells
  unfold S9q.Rq.cells at B T
  obtain ⟨x0, x1, x2, x3, x4, x5, x6, x7⟩ := T.out
  go_enter Try.func10, Try.ntmps10
  go_wp2_with (first
    | (go_at_call 30; refine (refValid_any _ _ _ _ f.a f.b f.c).mono ?_; rintro e w' ⟨rfl, hb⟩; clear x0 x1 x2 x3 x4 x5 x6 x7; replace T := Lib.hid (T.out.keep hb); replace B := Lib.hid (below_keep hb B.out); clear hb; obtain ⟨x0, x1, x2, x3, x4, x5, x6, x7⟩ := T.out)
    | (go_at_call 31; refine (refNameB_any _ _ f.s).mono ?_; rintro e w' ⟨rfl, hb⟩; clear x0 x1 x2 x3 x4 x5 x6 x7; replace T := Lib.hid (T.out.keep hb); replace B := Lib.hid (below_keep hb B.out); clear hb; obtain ⟨x0, x1, x2, x3, x4, x5, x6, x7⟩ := T.out)
    | (go_at_call 32; refine (refInstB_any _ _ f.i).mono ?_; rintro e w' ⟨rfl, hb⟩; clear x0 x1 x2 x3 x4 x5 x6 x7; replace T := Lib.hid (T.out.keep hb); replace B := Lib.hid (below_keep hb B.out); clear hb; obtain ⟨x0, x1, x2, x3, x4, x5, x6, x7⟩ := T.out)
    | (go_at_call 33; refine (rqwithin_any _ _ _).mono ?_; rintro e w' ⟨rfl, rfl⟩))
  go_ret2
  exact ⟨none, 0, 0, ret_two rfl (ival HC.out.symm), by rw [HB.out]; exact Sl.nil _, B.out, Fresh.nil _⟩

set_option maxHeartbeats 3200000 in
theorem rqenc_4 (t : S9q.Rq) (f : t.Fit) (w : World) (h0 : S1.vP t.a.data.toList t.b.data.toList t.c.data.toList = true) (h1 : S1.vName t.s.data.toList = true) (h2 : S1.text [64] t.i.data.toList = true) (h3 : S9q.win t.tm 4294967295 = true) (hx : S9q.win t.li 255 = false) : Calls Try.prog 10 #[t.val] w (RqEnc t w) := by
  have HC := Lib.hid (S9q.chk_1 (show S9q.q0 t = true by unfold S9q.q0 S1.vInst; rw [h0, h1, h2]; try rfl) (show S9q.q1 t = false by unfold S9q.q1; rw [h3, hx]; try rfl))
  have HB := Lib.hid (show S9q.encB t = [] by unfold S9q.encB; rw [if_neg (by rw [HC.out]; decide)])
  have B := Lib.hid (show Below w.heap.size w (w.alloc (.cells (t.cells) 25)) from (Below.refl _ _).alloc (Nat.le_refl _) _)
  have T := Lib.hid (RqAt.new w t 25)
  unfold S9q.Rq.val S9q.Rq.cells
  unfold S9q.Rq.cells at B T
  obtain ⟨x0, x1, x2, x3, x4, x5, x6, x7⟩ := T.out
  go_enter Try.func10, Try.ntmps10
  go_wp2_with (first
    | (go_at_call 30; refine (refValid_any _ _ _ _ f.a f.b f.c).mono ?_; rintro e w' ⟨rfl, hb⟩; clear x0 x1 x2 x3 x4 x5 x6 x7; replace T := Lib.hid (T.out.keep hb); replace B := Lib.hid (below_keep hb B.out); clear hb; obtain ⟨x0, x1, x2, x3, x4, x5, x6, x7⟩ := T.out)
    | (go_at_call 31; refine (refNameB_any _ _ f.s).mono ?_; rintro e w' ⟨rfl, hb⟩; clear x0 x1 x2 x3 x4 x5 x6 x7; replace T := Lib.hid (T.out.keep hb); replace B := Lib.hid (below_keep hb B.out); clear hb; obtain ⟨x0, x1, x2, x3, x4, x5, x6, x7⟩ := T.out)
    | (go_at_call 32; refine (refInstB_any _ _ f.i).mono ?_; rintro e w' ⟨rfl, hb⟩; clear x0 x1 x2 x3 x4 x5 x6 x7; replace T := Lib.hid (T.out.keep hb); replace B := Lib.hid (below_keep hb B.out); clear hb; obtain ⟨x0, x1, x2, x3, x4, x5, x6, x7⟩ := T.out)
    | (go_at_call 33; refine (rqwithin_any _ _ _).mono ?_; rintro e w' ⟨rfl, rfl⟩))
  go_ret2
  exact ⟨none, 0, 0, ret_two rfl (ival HC.out.symm), by rw [HB.out]; exact Sl.nil _, B.out, Fresh.nil _⟩

set_option maxHeartbeats 6400000 in
theorem rqenc_ok (t : S9q.Rq) (f : t.Fit) (w : World) (h0 : S1.vP t.a.data.toList t.b.data.toList t.c.data.toList = true) (h1 : S1.vName t.s.data.toList = true) (h2 : S1.text [64] t.i.data.toList = true) (h3 : S9q.win t.tm 4294967295 = true) (h4 : S9q.win t.li 255 = true) : Calls Try.prog 10 #[t.val] w (RqEnc t w) := by
  have HC := Lib.hid (S9q.chk_ok (show S9q.q0 t = true by unfold S9q.q0 S1.vInst; rw [h0, h1, h2]; try rfl) (show S9q.q1 t = true by unfold S9q.q1; rw [h3, h4]; try rfl))
  have HO := Lib.hid (S9q.ok_of HC.out)
  have HB := Lib.hid (show S9q.encB t = S9q.enc t by unfold S9q.encB; rw [if_pos HC.out])
  have l_a : t.a.size ≤ 39 := by have := (S5.vName_ok HO.out.a).2; rwa [nums_len] at this
  have l_b : t.b.size ≤ 39 := by have := (S5.vInst_ok HO.out.b).2; rwa [nums_len] at this
  have l_c : t.c.size ≤ 39 := by have := (S5.vRealm_ok HO.out.c).2; rwa [nums_len] at this
  have l_s : t.s.size ≤ 39 := by have := (S5.vName_ok HO.out.s).2; rwa [nums_len] at this
  have l_i : t.i.size ≤ 39 := by have := (S5.vInst_ok HO.out.i).2; rwa [nums_len] at this
  have B := Lib.hid (show Below w.heap.size w (w.alloc (.cells (t.cells) 25)) from (Below.refl _ _).alloc (Nat.le_refl _) _)
  have T := Lib.hid (RqAt.new w t 25)
  unfold S9q.Rq.val S9q.Rq.cells
  unfold S9q.Rq.cells at B T
  obtain ⟨x0, x1, x2, x3, x4, x5, x6, x7⟩ := T.out
  go_enter Try.func10, Try.ntmps10
  go_wp2_with (first
    | (go_at_call 30; refine (refValid_any _ _ _ _ f.a f.b f.c).mono ?_; rintro e w' ⟨rfl, hb⟩; clear x0 x1 x2 x3 x4 x5 x6 x7; replace T := Lib.hid (T.out.keep hb); replace B := Lib.hid (below_keep hb B.out); clear hb; obtain ⟨x0, x1, x2, x3, x4, x5, x6, x7⟩ := T.out)
    | (go_at_call 31; refine (refNameB_any _ _ f.s).mono ?_; rintro e w' ⟨rfl, hb⟩; clear x0 x1 x2 x3 x4 x5 x6 x7; replace T := Lib.hid (T.out.keep hb); replace B := Lib.hid (below_keep hb B.out); clear hb; obtain ⟨x0, x1, x2, x3, x4, x5, x6, x7⟩ := T.out)
    | (go_at_call 32; refine (refInstB_any _ _ f.i).mono ?_; rintro e w' ⟨rfl, hb⟩; clear x0 x1 x2 x3 x4 x5 x6 x7; replace T := Lib.hid (T.out.keep hb); replace B := Lib.hid (below_keep hb B.out); clear hb; obtain ⟨x0, x1, x2, x3, x4, x5, x6, x7⟩ := T.out)
    | (go_at_call 33; refine (rqwithin_any _ _ _).mono ?_; rintro e w' ⟨rfl, rfl⟩))
  obtain ⟨w1, hw1⟩ : ∃ x, x = w' := ⟨_, rfl⟩
  subst hw1
  have B1 := B
  have T1 := T
  have D := Lib.hid (Below.refl w1.heap.size w1)
  clear B
  clear x0 x1 x2 x3 x4 x5 x6 x7
  refine wp_region_held_drew (S := (fun W => Below w1.heap.size w1 W ∧ RqAt W w.heap.size t)) (by kernel_rfl) ⟨D.out.drew, T.out.drew⟩ (fun hS => ?_)
  generalize w1.drew = wd1 at hS ⊢
  refine' wpAnyH_take (i := 0) (v := ?va0) rfl (by kernel_rfl) (by kernel_rfl) (by kernel_rfl) (fun _ _ _ h => h) (Or.inl ⟨by kernel_rfl, fun W hW => ?ya0⟩) hS ?ra0
  case ya0 => (go_simp; first | done | with_reducible rfl | (rw [if_pos (by omega)]))
  refine' wpAnyH_take (i := 1) (v := ?va1) rfl (by kernel_rfl) (by kernel_rfl) (by kernel_rfl) (fun _ _ _ h => h) (Or.inl ⟨by kernel_rfl, fun W hW => ?ya1⟩) hS ?ra1
  case ya1 => (obtain ⟨x0, x1, x2, x3, x4, x5, x6, x7⟩ := hW.2; go_simp; first | done | with_reducible rfl | (rw [if_pos (by omega)]))
  refine' wpAnyH_take (i := 3) (v := ?va3) rfl (by kernel_rfl) (by kernel_rfl) (by kernel_rfl) (fun _ _ _ h => h) (Or.inl ⟨by kernel_rfl, fun W hW => ?ya3⟩) hS ?ra3
  case ya3 => (go_simp; first | done | with_reducible rfl | (rw [if_pos (by omega)]))
  refine' wpAnyH_take (i := 4) (v := ?va4) rfl (by kernel_rfl) (by kernel_rfl) (by kernel_rfl) (fun _ _ _ h => h) (Or.inl ⟨by kernel_rfl, fun W hW => ?ya4⟩) hS ?ra4
  case ya4 => (obtain ⟨x0, x1, x2, x3, x4, x5, x6, x7⟩ := hW.2; go_simp; first | done | with_reducible rfl | (rw [if_pos (by omega)]))
  refine wpAnyH_ready (rs := [2]) (by kernel_rfl) (by simp) ?_
  refine AllReadyH.cons rfl (fun K hK => ?_) AllReadyH.nil
  go_simp
  refine (r8put_any 1 t.l _).mono ?_
  rintro e w2 ⟨A2, n2, c2, rfl, hs2, hb, _⟩
  go_wp2_with (fail)
  have hn2 : n2 ≤ 2 := by have := hs2.len; simp [S8.put, S8.okK] at this; omega
  replace hs2 := Lib.hid hs2
  have hSn := And.intro (below_keep hb hS.1) (hS.2.keep hb)
  refine hK.out _ _ hSn (fun hS2 => ?_)
  clear hK K hSn hS
  have hS := hS2
  clear hS2
  refine wpAnyH_ready (rs := [5]) (by kernel_rfl) (by simp) ?_
  refine AllReadyH.cons rfl (fun K hK => ?_) AllReadyH.nil
  go_simp
  refine (r5putPrincipal_any _ _ _ _ t.a t.b t.c _ hs2.out (by omega) (by omega) (by omega) (by omega)).mono ?_
  rintro e w3 ⟨A3, n3, c3, rfl, hs3, hb, _⟩
  go_wp2_with (fail)
  have hn3 : n3 ≤ 122 := by have := hs3.len; rw [List.length_append, hs2.out.len] at this; simp [S5.three, S5.text, nums_len] at this; omega
  replace hs3 := Lib.hid hs3
  have hSn := And.intro (below_keep hb hS.1) (hS.2.keep hb)
  refine hK.out _ _ hSn (fun hS2 => ?_)
  clear hK K hSn hS
  have hS := hS2
  clear hS2
  refine' wpAnyH_take (i := 6) (v := ?va6) rfl (by kernel_rfl) (by kernel_rfl) (by kernel_rfl) (fun _ _ _ h => h) (Or.inl ⟨by kernel_rfl, fun W hW => ?ya6⟩) hS ?ra6
  case ya6 => (go_simp; first | done | with_reducible rfl | (rw [if_pos (by omega)]))
  refine wpAnyH_done (by kernel_rfl) ?_ _
  replace T := Lib.hid hS.2
  replace D := Lib.hid hS.1
  clear hS
  obtain ⟨x0, x1, x2, x3, x4, x5, x6, x7⟩ := T.out
  go_wp2_with (fail)
  clear x0 x1 x2 x3 x4 x5 x6 x7
  refine wp_region_held_drew (S := (fun W => Below w1.heap.size w1 W ∧ RqAt W w.heap.size t)) (by kernel_rfl) ⟨D.out.drew, T.out.drew⟩ (fun hS => ?_)
  replace hs3 := Lib.hid (hs3.out.keep (Below.refl w3.heap.size w3).drew)
  generalize w3.drew = wd2 at hS hs3 ⊢
  refine' wpAnyH_take (i := 0) (v := ?vb0) rfl (by kernel_rfl) (by kernel_rfl) (by kernel_rfl) (fun _ _ _ h => h) (Or.inl ⟨by kernel_rfl, fun W hW => ?yb0⟩) hS ?rb0
  case yb0 => (go_simp; first | done | with_reducible rfl | (rw [if_pos (by omega)]))
  refine' wpAnyH_take (i := 1) (v := ?vb1) rfl (by kernel_rfl) (by kernel_rfl) (by kernel_rfl) (fun _ _ _ h => h) (Or.inl ⟨by kernel_rfl, fun W hW => ?yb1⟩) hS ?rb1
  case yb1 => (go_simp; first | done | with_reducible rfl | (rw [if_pos (by omega)]))
  refine' wpAnyH_take (i := 2) (v := ?vb2) rfl (by kernel_rfl) (by kernel_rfl) (by kernel_rfl) (fun _ _ _ h => h) (Or.inl ⟨by kernel_rfl, fun W hW => ?yb2⟩) hS ?rb2
  case yb2 => (obtain ⟨x0, x1, x2, x3, x4, x5, x6, x7⟩ := hW.2; go_simp; first | done | with_reducible rfl | (rw [if_pos (by omega)]))
  refine' wpAnyH_take (i := 3) (v := ?vb3) rfl (by kernel_rfl) (by kernel_rfl) (by kernel_rfl) (fun _ _ _ h => h) (Or.inl ⟨by kernel_rfl, fun W hW => ?yb3⟩) hS ?rb3
  case yb3 => (go_simp; first | done | with_reducible rfl | (rw [if_pos (by omega)]))
  refine' wpAnyH_take (i := 4) (v := ?vb4) rfl (by kernel_rfl) (by kernel_rfl) (by kernel_rfl) (fun _ _ _ h => h) (Or.inl ⟨by kernel_rfl, fun W hW => ?yb4⟩) hS ?rb4
  case yb4 => (obtain ⟨x0, x1, x2, x3, x4, x5, x6, x7⟩ := hW.2; go_simp; first | done | with_reducible rfl | (rw [if_pos (by omega)]))
  refine' wpAnyH_take (i := 6) (v := ?vb6) rfl (by kernel_rfl) (by kernel_rfl) (by kernel_rfl) (fun _ _ _ h => h) (Or.inl ⟨by kernel_rfl, fun W hW => ?yb6⟩) hS ?rb6
  case yb6 => (go_simp; first | done | with_reducible rfl | (rw [if_pos (by omega)]))
  refine' wpAnyH_take (i := 7) (v := ?vb7) rfl (by kernel_rfl) (by kernel_rfl) (by kernel_rfl) (fun _ _ _ h => h) (Or.inl ⟨by kernel_rfl, fun W hW => ?yb7⟩) hS ?rb7
  case yb7 => (obtain ⟨x0, x1, x2, x3, x4, x5, x6, x7⟩ := hW.2; go_simp; first | done | with_reducible rfl | (rw [if_pos (by omega)]))
  refine wpAnyH_ready (rs := [5]) (by kernel_rfl) (by simp) ?_
  refine AllReadyH.cons rfl (fun K hK => ?_) AllReadyH.nil
  go_simp
  refine (r5putNumber_any _ _ _ _ t.tm t.l _ hs3.out (by omega)).mono ?_
  rintro e w4 ⟨A4, n4, c4, rfl, hs4, hb, _⟩
  go_wp2_with (fail)
  have hn4 : n4 ≤ 126 := by have := hs4.len; rw [List.length_append, hs3.out.len] at this; simp [S5.num4_len] at this; omega
  replace hs4 := Lib.hid hs4
  have hSn := And.intro (below_keep hb hS.1) (hS.2.keep hb)
  refine hK.out _ _ hSn (fun hS2 => ?_)
  clear hK K hSn hS
  have hS := hS2
  clear hS2
  refine wpAnyH_ready (rs := [8]) (by kernel_rfl) (by simp) ?_
  refine AllReadyH.cons rfl (fun K hK => ?_) AllReadyH.nil
  go_simp
  refine (r5putOctet_any _ _ _ _ t.li _ hs4.out (by omega)).mono ?_
  rintro e w5 ⟨A5, n5, c5, rfl, hs5, hb, _⟩
  go_wp2_with (fail)
  have hn5 : n5 ≤ 127 := by have := hs5.len; rw [List.length_append, hs4.out.len] at this; simp [S5.num1] at this; omega
  replace hs5 := Lib.hid hs5
  have hSn := And.intro (below_keep hb hS.1) (hS.2.keep hb)
  refine hK.out _ _ hSn (fun hS2 => ?_)
  clear hK K hSn hS
  have hS := hS2
  clear hS2
  refine' wpAnyH_take (i := 9) (v := ?vb9) rfl (by kernel_rfl) (by kernel_rfl) (by kernel_rfl) (fun _ _ _ h => h) (Or.inl ⟨by kernel_rfl, fun W hW => ?yb9⟩) hS ?rb9
  case yb9 => (go_simp; first | done | with_reducible rfl | (rw [if_pos (by omega)]))
  refine wpAnyH_done (by kernel_rfl) ?_ _
  replace T := Lib.hid hS.2
  replace D := Lib.hid hS.1
  clear hS
  obtain ⟨x0, x1, x2, x3, x4, x5, x6, x7⟩ := T.out
  go_wp2_with (fail)
  clear x0 x1 x2 x3 x4 x5 x6 x7
  refine wp_region_held_drew (S := (fun W => Below w1.heap.size w1 W ∧ RqAt W w.heap.size t)) (by kernel_rfl) ⟨D.out.drew, T.out.drew⟩ (fun hS => ?_)
  replace hs5 := Lib.hid (hs5.out.keep (Below.refl w5.heap.size w5).drew)
  generalize w5.drew = wd3 at hS hs5 ⊢
  refine' wpAnyH_take (i := 0) (v := ?vc0) rfl (by kernel_rfl) (by kernel_rfl) (by kernel_rfl) (fun _ _ _ h => h) (Or.inl ⟨by kernel_rfl, fun W hW => ?yc0⟩) hS ?rc0
  case yc0 => (go_simp; first | done | with_reducible rfl | (rw [if_pos (by omega)]))
  refine' wpAnyH_take (i := 1) (v := ?vc1) rfl (by kernel_rfl) (by kernel_rfl) (by kernel_rfl) (fun _ _ _ h => h) (Or.inl ⟨by kernel_rfl, fun W hW => ?yc1⟩) hS ?rc1
  case yc1 => (go_simp; first | done | with_reducible rfl | (rw [if_pos (by omega)]))
  refine' wpAnyH_take (i := 2) (v := ?vc2) rfl (by kernel_rfl) (by kernel_rfl) (by kernel_rfl) (fun _ _ _ h => h) (Or.inl ⟨by kernel_rfl, fun W hW => ?yc2⟩) hS ?rc2
  case yc2 => (obtain ⟨x0, x1, x2, x3, x4, x5, x6, x7⟩ := hW.2; go_simp; first | done | with_reducible rfl | (rw [if_pos (by omega)]))
  refine' wpAnyH_take (i := 4) (v := ?vc4) rfl (by kernel_rfl) (by kernel_rfl) (by kernel_rfl) (fun _ _ _ h => h) (Or.inl ⟨by kernel_rfl, fun W hW => ?yc4⟩) hS ?rc4
  case yc4 => (go_simp; first | done | with_reducible rfl | (rw [if_pos (by omega)]))
  refine' wpAnyH_take (i := 5) (v := ?vc5) rfl (by kernel_rfl) (by kernel_rfl) (by kernel_rfl) (fun _ _ _ h => h) (Or.inl ⟨by kernel_rfl, fun W hW => ?yc5⟩) hS ?rc5
  case yc5 => (obtain ⟨x0, x1, x2, x3, x4, x5, x6, x7⟩ := hW.2; go_simp; first | done | with_reducible rfl | (rw [if_pos (by omega)]))
  refine wpAnyH_ready (rs := [3]) (by kernel_rfl) (by simp) ?_
  refine AllReadyH.cons rfl (fun K hK => ?_) AllReadyH.nil
  go_simp
  refine (r5putText_any _ _ _ _ t.s _ hs5.out (by omega) (by omega)).mono ?_
  rintro e w6 ⟨A6, n6, c6, rfl, hs6, hb, _⟩
  go_wp2_with (fail)
  have hn6 : n6 ≤ 167 := by have := hs6.len; rw [List.length_append, hs5.out.len] at this; simp [S5.text, nums_len] at this; omega
  replace hs6 := Lib.hid hs6
  have hSn := And.intro (below_keep hb hS.1) (hS.2.keep hb)
  refine hK.out _ _ hSn (fun hS2 => ?_)
  clear hK K hSn hS
  have hS := hS2
  clear hS2
  refine wpAnyH_ready (rs := [6]) (by kernel_rfl) (by simp) ?_
  refine AllReadyH.cons rfl (fun K hK => ?_) AllReadyH.nil
  go_simp
  refine (r5putText_any _ _ _ _ t.i _ hs6.out (by omega) (by omega)).mono ?_
  rintro e w7 ⟨A7, n7, c7, rfl, hs7, hb, hf7⟩
  go_wp2_with (fail)
  have hf := hf7.le (Nat.le_trans B1.out.size hS.1.size)
  have hn7 : n7 ≤ 207 := by have := hs7.len; rw [List.length_append, hs6.out.len] at this; simp [S5.text, nums_len] at this; omega
  replace hs7 := Lib.hid hs7
  have hSn := And.intro (below_keep hb hS.1) (hS.2.keep hb)
  refine hK.out _ _ hSn (fun hS2 => ?_)
  clear hK K hSn hS
  have hS := hS2
  clear hS2
  refine' wpAnyH_take (i := 7) (v := ?vc7) rfl (by kernel_rfl) (by kernel_rfl) (by kernel_rfl) (fun _ _ _ h => h) (Or.inl ⟨by kernel_rfl, fun W hW => ?yc7⟩) hS ?rc7
  case yc7 => (go_simp; first | done | with_reducible rfl | (rw [if_pos (by omega)]))
  refine' wpAnyH_take (i := 8) (v := ?vc8) rfl (by kernel_rfl) (by kernel_rfl) (by kernel_rfl) (fun _ _ _ h => h) (Or.inl ⟨by kernel_rfl, fun W hW => ?yc8⟩) hS ?rc8
  case yc8 => (go_simp; first | done | with_reducible rfl | (rw [if_pos (by omega)]))
  refine wpAnyH_done (by kernel_rfl) ?_ _
  replace T := Lib.hid hS.2
  replace D := Lib.hid hS.1
  clear hS
  obtain ⟨x0, x1, x2, x3, x4, x5, x6, x7⟩ := T.out
  go_wp2_with (fail)
  go_ret2
  have hfin : ∀ zs, zs = S9q.enc t → Sl w7 A7 n7 c7 zs → Sl w7 A7 n7 c7 (S9q.encB t) := fun zs e h => by rw [HB.out, ← e]; exact h
  exact ⟨A7, n7, c7, ret_two rfl (ival HC.out.symm), hfin _ (by unfold S9q.enc S9q.raw; simp [S5.three]) hs7.out, below_keep D.out B1.out, hf⟩

theorem rqencode_any (t : S9q.Rq) (f : t.Fit) (w : World) : Calls Try.prog 10 #[t.val] w (RqEnc t w) := by
  rcases h0 : S1.vP t.a.data.toList t.b.data.toList t.c.data.toList
  · exact rqenc_0 t f w  h0
  · skip
    rcases h1 : S1.vName t.s.data.toList
    · exact rqenc_1 t f w h0 h1
    · skip
      rcases h2 : S1.text [64] t.i.data.toList
      · exact rqenc_2 t f w h0 h1 h2
      · skip
        rcases h3 : S9q.win t.tm 4294967295
        · exact rqenc_3 t f w h0 h1 h2 h3
        · skip
          rcases h4 : S9q.win t.li 255
          · exact rqenc_4 t f w h0 h1 h2 h3 h4
          · exact rqenc_ok t f w h0 h1 h2 h3 h4

end Go.Proofs.Ytkhkmgblgonfoaa
