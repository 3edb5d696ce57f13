/-
  What EncodeReply of the document's answer returns.
-/
import Derived.Test.YtkhkmgblgonfoaaQFieldPlain
import Derived.Test.YtkhkmgblgonfoaaQRqR
import Derived.Deep.RegionHeld3
namespace Go.Proofs.Ytkhkmgblgonfoaa
open Go.RowKit
set_option maxRecDepth 100000

/-- Its cells in a block. -/
structure RpAt (w : World) (g : Nat) (t : S9r.Rp) (A : Option Addr) (n cap : Nat) : Prop where
  c0 : w.cell? ⟨g, 0, none⟩ = some (.bool t.l)
  c1 : w.cell? ⟨g, 1, none⟩ = some (.string t.a)
  c2 : w.cell? ⟨g, 2, none⟩ = some (.string t.b)
  c3 : w.cell? ⟨g, 3, none⟩ = some (.string t.c)
  c4 : w.cell? ⟨g, 4, none⟩ = some (.int .i64 t.tm)
  c5 : w.cell? ⟨g, 5, none⟩ = some (.int .i64 t.ex)
  c6 : w.cell? ⟨g, 6, none⟩ = some (.int .i64 t.kv)
  c7 : w.cell? ⟨g, 7, none⟩ = some (.slice A n cap)
theorem RpAt.keep {w w' : World} {g : Nat} {t : S9r.Rp} {A : Option Addr} {n cap : Nat} (hb : Below w.heap.size w w') (h : RpAt w g t A n cap) : RpAt w' g t A n cap :=
  ⟨cell_keep hb h.c0, cell_keep hb h.c1, cell_keep hb h.c2, cell_keep hb h.c3, cell_keep hb h.c4, cell_keep hb h.c5, cell_keep hb h.c6, cell_keep hb h.c7⟩
theorem RpAt.drew {w : World} {g : Nat} {t : S9r.Rp} {A : Option Addr} {n cap : Nat} (h : RpAt w g t A n cap) : RpAt w.drew g t A n cap := ⟨h.c0, h.c1, h.c2, h.c3, h.c4, h.c5, h.c6, h.c7⟩
theorem RpAt.new (w : World) (t : S9r.Rp) (A : Option Addr) (n cap : Nat) (T : TypeId) : RpAt (w.alloc (.cells (t.cells A n cap) T)) w.heap.size t A n cap :=
  ⟨by simp [go_sem, S9r.Rp.cells], by simp [go_sem, S9r.Rp.cells], by simp [go_sem, S9r.Rp.cells], by simp [go_sem, S9r.Rp.cells], by simp [go_sem, S9r.Rp.cells], by simp [go_sem, S9r.Rp.cells], by simp [go_sem, S9r.Rp.cells], by simp [go_sem, S9r.Rp.cells]⟩

theorem rpwithin_any (n m : Int) (w : World) : Calls Try.prog 33 #[.int .i64 n, .int .i64 m] w fun e w' => e = .returned (.bool (S9r.win n m)) ∧ w = w' := by
  by_cases h : 0 ≤ n
  · go_enter Try.func33, Try.ntmps33
    go_wp2
    go_ret
    exact ⟨ret_bool (by simp [S9r.win, h]), rfl⟩
  · have hn : n < 0 := by omega
    go_enter Try.func33, Try.ntmps33
    go_wp2
    go_ret
    exact ⟨ret_bool (by simp [S9r.win]; omega), rfl⟩

def RpEnc (t : S9r.Rp) (w : World) (e : Ending) (w' : World) : Prop :=
  ∃ A n cap, e = .returned (.tuple #[.slice A n cap, .int .i64 (S9r.chkE t)]) ∧ Sl w' A n cap (S9r.encB t) ∧ Below w.heap.size w w' ∧ Fresh w.heap.size A

set_option maxHeartbeats 3200000 in
theorem rpenc_0 (t : S9r.Rp) (A : Option Addr) (n cap : Nat) (f : t.Fit) (w : World) (hz : Sl w A n cap t.z)  (hx : S1.vP t.a.data.toList t.b.data.toList t.c.data.toList = false) : Calls Try.prog 19 #[(t.val A n cap)] w (RpEnc t w) := by
  have HC := Lib.hid (S9r.chk_0  (show S9r.q0 t = false by unfold S9r.q0; rw [hx]; try rfl))
  have HB := Lib.hid (show S9r.encB t = [] by unfold S9r.encB; rw [if_neg (by rw [HC.out]; decide)])
  have hzm := hz.max
  unfold maxLen at hzm
  replace hz := Lib.hid hz
  have B := Lib.hid (show Below w.heap.size w (w.alloc (.cells (t.cells A n cap) 49)) from (Below.refl _ _).alloc (Nat.le_refl _) _)
  have T := Lib.hid (RpAt.new w t A n cap 49)
  unfold S9r.Rp.val S9r.Rp.cells
  unfold S9r.Rp.cells at B T
  obtain ⟨x0, x1, x2, x3, x4, x5, x6, x7⟩ := T.out
  go_enter Try.func19, Try.ntmps19
  go_wp2_with (first
    | (go_at_call 30; refine (refValid_any _ _ _ _ f.a f.b f.c).mono ?_; rintro e w' ⟨rfl, hb⟩; clear x0 x1 x2 x3 x4 x5 x6 x7; replace T := Lib.hid (T.out.keep hb); replace B := Lib.hid (below_keep hb B.out); clear hb; obtain ⟨x0, x1, x2, x3, x4, x5, x6, x7⟩ := T.out)
    | (go_at_call 33; refine (rpwithin_any _ _ _).mono ?_; rintro e w' ⟨rfl, rfl⟩))
  go_ret2
  exact ⟨none, 0, 0, ret_two rfl (ival HC.out.symm), by rw [HB.out]; exact Sl.nil _, B.out, Fresh.nil _⟩

set_option maxHeartbeats 3200000 in
theorem rpenc_1 (t : S9r.Rp) (A : Option Addr) (n cap : Nat) (f : t.Fit) (w : World) (hz : Sl w A n cap t.z) (h0 : S1.vP t.a.data.toList t.b.data.toList t.c.data.toList = true) (hx : S9r.win t.tm 4294967295 = false) : Calls Try.prog 19 #[(t.val A n cap)] w (RpEnc t w) := by
  have HC := Lib.hid (S9r.chk_1 (show S9r.q0 t = true by unfold S9r.q0; rw [h0]; try rfl) (show S9r.q1 t = false by unfold S9r.q1; rw [hx]; try rfl))
  have HB := Lib.hid (show S9r.encB t = [] by unfold S9r.encB; rw [if_neg (by rw [HC.out]; decide)])
  have hzm := hz.max
  unfold maxLen at hzm
  replace hz := Lib.hid hz
  have B := Lib.hid (show Below w.heap.size w (w.alloc (.cells (t.cells A n cap) 49)) from (Below.refl _ _).alloc (Nat.le_refl _) _)
  have T := Lib.hid (RpAt.new w t A n cap 49)
  unfold S9r.Rp.val S9r.Rp.cells
  unfold S9r.Rp.cells at B T
  obtain ⟨x0, x1, x2, x3, x4, x5, x6, x7⟩ := T.out
  go_enter Try.func19, Try.ntmps19
  go_wp2_with (first
    | (go_at_call 30; refine (refValid_any _ _ _ _ f.a f.b f.c).mono ?_; rintro e w' ⟨rfl, hb⟩; clear x0 x1 x2 x3 x4 x5 x6 x7; replace T := Lib.hid (T.out.keep hb); replace B := Lib.hid (below_keep hb B.out); clear hb; obtain ⟨x0, x1, x2, x3, x4, x5, x6, x7⟩ := T.out)
    | (go_at_call 33; refine (rpwithin_any _ _ _).mono ?_; rintro e w' ⟨rfl, rfl⟩))
  go_ret2
  exact ⟨none, 0, 0, ret_two rfl (ival HC.out.symm), by rw [HB.out]; exact Sl.nil _, B.out, Fresh.nil _⟩

set_option maxHeartbeats 3200000 in
theorem rpenc_2 (t : S9r.Rp) (A : Option Addr) (n cap : Nat) (f : t.Fit) (w : World) (hz : Sl w A n cap t.z) (h0 : S1.vP t.a.data.toList t.b.data.toList t.c.data.toList = true) (h1 : S9r.win t.tm 4294967295 = true) (hx : S9r.win t.ex 4294967295 = false) : Calls Try.prog 19 #[(t.val A n cap)] w (RpEnc t w) := by
  have HC := Lib.hid (S9r.chk_1 (show S9r.q0 t = true by unfold S9r.q0; rw [h0]; try rfl) (show S9r.q1 t = false by unfold S9r.q1; rw [h1, hx]; try rfl))
  have HB := Lib.hid (show S9r.encB t = [] by unfold S9r.encB; rw [if_neg (by rw [HC.out]; decide)])
  have hzm := hz.max
  unfold maxLen at hzm
  replace hz := Lib.hid hz
  have B := Lib.hid (show Below w.heap.size w (w.alloc (.cells (t.cells A n cap) 49)) from (Below.refl _ _).alloc (Nat.le_refl _) _)
  have T := Lib.hid (RpAt.new w t A n cap 49)
  unfold S9r.Rp.val S9r.Rp.cells
  unfold S9r.Rp.cells at B T
  obtain ⟨x0, x1, x2, x3, x4, x5, x6, x7⟩ := T.out
  go_enter Try.func19, Try.ntmps19
  go_wp2_with (first
    | (go_at_call 30; refine (refValid_any _ _ _ _ f.a f.b f.c).mono ?_; rintro e w' ⟨rfl, hb⟩; clear x0 x1 x2 x3 x4 x5 x6 x7; replace T := Lib.hid (T.out.keep hb); replace B := Lib.hid (below_keep hb B.out); clear hb; obtain ⟨x0, x1, x2, x3, x4, x5, x6, x7⟩ := T.out)
    | (go_at_call 33; refine (rpwithin_any _ _ _).mono ?_; rintro e w' ⟨rfl, rfl⟩))
  go_ret2
  exact ⟨none, 0, 0, ret_two rfl (ival HC.out.symm), by rw [HB.out]; exact Sl.nil _, B.out, Fresh.nil _⟩

set_option maxHeartbeats 3200000 in
theorem rpenc_3 (t : S9r.Rp) (A : Option Addr) (n cap : Nat) (f : t.Fit) (w : World) (hz : Sl w A n cap t.z) (h0 : S1.vP t.a.data.toList t.b.data.toList t.c.data.toList = true) (h1 : S9r.win t.tm 4294967295 = true) (h2 : S9r.win t.ex 4294967295 = true) (hx : S9r.win t.kv 255 = false) : Calls Try.prog 19 #[(t.val A n cap)] w (RpEnc t w) := by
  have HC := Lib.hid (S9r.chk_1 (show S9r.q0 t = true by unfold S9r.q0; rw [h0]; try rfl) (show S9r.q1 t = false by unfold S9r.q1; rw [h1, h2, hx]; try rfl))
  have HB := Lib.hid (show S9r.encB t = [] by unfold S9r.encB; rw [if_neg (by rw [HC.out]; decide)])
  have hzm := hz.max
  unfold maxLen at hzm
  replace hz := Lib.hid hz
  have B := Lib.hid (show Below w.heap.size w (w.alloc (.cells (t.cells A n cap) 49)) from (Below.refl _ _).alloc (Nat.le_refl _) _)
  have T := Lib.hid (RpAt.new w t A n cap 49)
  unfold S9r.Rp.val S9r.Rp.cells
  unfold S9r.Rp.cells at B T
  obtain ⟨x0, x1, x2, x3, x4, x5, x6, x7⟩ := T.out
  go_enter Try.func19, Try.ntmps19
  go_wp2_with (first
    | (go_at_call 30; refine (refValid_any _ _ _ _ f.a f.b f.c).mono ?_; rintro e w' ⟨rfl, hb⟩; clear x0 x1 x2 x3 x4 x5 x6 x7; replace T := Lib.hid (T.out.keep hb); replace B := Lib.hid (below_keep hb B.out); clear hb; obtain ⟨x0, x1, x2, x3, x4, x5, x6, x7⟩ := T.out)
    | (go_at_call 33; refine (rpwithin_any _ _ _).mono ?_; rintro e w' ⟨rfl, rfl⟩))
  go_ret2
  exact ⟨none, 0, 0, ret_two rfl (ival HC.out.symm), by rw [HB.out]; exact Sl.nil _, B.out, Fresh.nil _⟩

set_option maxHeartbeats 3200000 in
theorem rpenc_4 (t : S9r.Rp) (A : Option Addr) (n cap : Nat) (f : t.Fit) (w : World) (hz : Sl w A n cap t.z) (h0 : S1.vP t.a.data.toList t.b.data.toList t.c.data.toList = true) (h1 : S9r.win t.tm 4294967295 = true) (h2 : S9r.win t.ex 4294967295 = true) (h3 : S9r.win t.kv 255 = true) (hx : 1012 < (n : Int)) : Calls Try.prog 19 #[(t.val A n cap)] w (RpEnc t w) := by
  have HC := Lib.hid (S9r.chk_2 (show S9r.q0 t = true by unfold S9r.q0; rw [h0]; try rfl) (show S9r.q1 t = true by unfold S9r.q1; rw [h1, h2, h3]; try rfl) (show S9r.q2 t = false by unfold S9r.q2; rw [hz.len]; simp; omega))
  have HB := Lib.hid (show S9r.encB t = [] by unfold S9r.encB; rw [if_neg (by rw [HC.out]; decide)])
  have hzm := hz.max
  unfold maxLen at hzm
  replace hz := Lib.hid hz
  have B := Lib.hid (show Below w.heap.size w (w.alloc (.cells (t.cells A n cap) 49)) from (Below.refl _ _).alloc (Nat.le_refl _) _)
  have T := Lib.hid (RpAt.new w t A n cap 49)
  unfold S9r.Rp.val S9r.Rp.cells
  unfold S9r.Rp.cells at B T
  obtain ⟨x0, x1, x2, x3, x4, x5, x6, x7⟩ := T.out
  go_enter Try.func19, Try.ntmps19
  go_wp2_with (first
    | (go_at_call 30; refine (refValid_any _ _ _ _ f.a f.b f.c).mono ?_; rintro e w' ⟨rfl, hb⟩; clear x0 x1 x2 x3 x4 x5 x6 x7; replace T := Lib.hid (T.out.keep hb); replace B := Lib.hid (below_keep hb B.out); clear hb; obtain ⟨x0, x1, x2, x3, x4, x5, x6, x7⟩ := T.out)
    | (go_at_call 33; refine (rpwithin_any _ _ _).mono ?_; rintro e w' ⟨rfl, rfl⟩))
  go_ret2
  exact ⟨none, 0, 0, ret_two rfl (ival HC.out.symm), by rw [HB.out]; exact Sl.nil _, B.out, Fresh.nil _⟩

set_option maxHeartbeats 6400000 in
theorem rpenc_ok (t : S9r.Rp) (A : Option Addr) (n cap : Nat) (f : t.Fit) (w : World) (hz : Sl w A n cap t.z) (h0 : S1.vP t.a.data.toList t.b.data.toList t.c.data.toList = true) (h1 : S9r.win t.tm 4294967295 = true) (h2 : S9r.win t.ex 4294967295 = true) (h3 : S9r.win t.kv 255 = true) (h4 : (n : Int) ≤ 1012) : Calls Try.prog 19 #[(t.val A n cap)] w (RpEnc t w) := by
  have HC := Lib.hid (S9r.chk_ok (show S9r.q0 t = true by unfold S9r.q0; rw [h0]; try rfl) (show S9r.q1 t = true by unfold S9r.q1; rw [h1, h2, h3]; try rfl) (show S9r.q2 t = true by unfold S9r.q2; rw [hz.len]; simp; omega))
  have HO := Lib.hid (S9r.ok_of HC.out)
  have HB := Lib.hid (show S9r.encB t = S9r.enc t by unfold S9r.encB; rw [if_pos HC.out])
  have l_a : t.a.size ≤ 39 := by have := (S5.vName_ok HO.out.a).2; rwa [nums_len] at this
  have l_b : t.b.size ≤ 39 := by have := (S5.vInst_ok HO.out.b).2; rwa [nums_len] at this
  have l_c : t.c.size ≤ 39 := by have := (S5.vRealm_ok HO.out.c).2; rwa [nums_len] at this
  have hzm := hz.max
  unfold maxLen at hzm
  replace hz := Lib.hid hz
  have B := Lib.hid (show Below w.heap.size w (w.alloc (.cells (t.cells A n cap) 49)) from (Below.refl _ _).alloc (Nat.le_refl _) _)
  have T := Lib.hid (RpAt.new w t A n cap 49)
  unfold S9r.Rp.val S9r.Rp.cells
  unfold S9r.Rp.cells at B T
  obtain ⟨x0, x1, x2, x3, x4, x5, x6, x7⟩ := T.out
  go_enter Try.func19, Try.ntmps19
  go_wp2_with (first
    | (go_at_call 30; refine (refValid_any _ _ _ _ f.a f.b f.c).mono ?_; rintro e w' ⟨rfl, hb⟩; clear x0 x1 x2 x3 x4 x5 x6 x7; replace T := Lib.hid (T.out.keep hb); replace B := Lib.hid (below_keep hb B.out); clear hb; obtain ⟨x0, x1, x2, x3, x4, x5, x6, x7⟩ := T.out)
    | (go_at_call 33; refine (rpwithin_any _ _ _).mono ?_; rintro e w' ⟨rfl, rfl⟩))
  obtain ⟨w1, hw1⟩ : ∃ x, x = w' := ⟨_, rfl⟩
  subst hw1
  have B1 := B
  have T1 := T
  have D := Lib.hid (Below.refl w1.heap.size w1)
  clear B
  clear x0 x1 x2 x3 x4 x5 x6 x7
  refine wp_region_held_drew (S := (fun W => Below w1.heap.size w1 W ∧ RpAt W w.heap.size t A n cap)) (by kernel_rfl) ⟨D.out.drew, T.out.drew⟩ (fun hS => ?_)
  generalize w1.drew = wd1 at hS ⊢
  refine' wpAnyH_take (i := 0) (v := ?va0) rfl (by kernel_rfl) (by kernel_rfl) (by kernel_rfl) (fun _ _ _ h => h) (Or.inl ⟨by kernel_rfl, fun W hW => ?ya0⟩) hS ?ra0
  case ya0 => (go_simp; first | done | with_reducible rfl | (rw [if_pos (by omega)]))
  refine' wpAnyH_take (i := 1) (v := ?va1) rfl (by kernel_rfl) (by kernel_rfl) (by kernel_rfl) (fun _ _ _ h => h) (Or.inl ⟨by kernel_rfl, fun W hW => ?ya1⟩) hS ?ra1
  case ya1 => (obtain ⟨x0, x1, x2, x3, x4, x5, x6, x7⟩ := hW.2; go_simp; first | done | with_reducible rfl | (rw [if_pos (by omega)]))
  refine' wpAnyH_take (i := 3) (v := ?va3) rfl (by kernel_rfl) (by kernel_rfl) (by kernel_rfl) (fun _ _ _ h => h) (Or.inl ⟨by kernel_rfl, fun W hW => ?ya3⟩) hS ?ra3
  case ya3 => (go_simp; first | done | with_reducible rfl | (rw [if_pos (by omega)]))
  refine' wpAnyH_take (i := 4) (v := ?va4) rfl (by kernel_rfl) (by kernel_rfl) (by kernel_rfl) (fun _ _ _ h => h) (Or.inl ⟨by kernel_rfl, fun W hW => ?ya4⟩) hS ?ra4
  case ya4 => (obtain ⟨x0, x1, x2, x3, x4, x5, x6, x7⟩ := hW.2; go_simp; first | done | with_reducible rfl | (rw [if_pos (by omega)]))
  refine wpAnyH_ready (rs := [2]) (by kernel_rfl) (by simp) ?_
  refine AllReadyH.cons rfl (fun K hK => ?_) AllReadyH.nil
  go_simp
  refine (r8put_any 2 t.l _).mono ?_
  rintro e w2 ⟨A2, n2, c2, rfl, hs2, hb, _⟩
  go_wp2_with (fail)
  have hn2 : n2 ≤ 2 := by have := hs2.len; simp [S8.put, S8.okK] at this; omega
  replace hs2 := Lib.hid hs2
  have hSn := And.intro (below_keep hb hS.1) (hS.2.keep hb)
  refine hK.out _ _ hSn (fun hS2 => ?_)
  clear hK K hSn hS
  have hS := hS2
  clear hS2
  refine wpAnyH_ready (rs := [5]) (by kernel_rfl) (by simp) ?_
  refine AllReadyH.cons rfl (fun K hK => ?_) AllReadyH.nil
  go_simp
  refine (r5putPrincipal_any _ _ _ _ t.a t.b t.c _ hs2.out (by omega) (by omega) (by omega) (by omega)).mono ?_
  rintro e w3 ⟨A3, n3, c3, rfl, hs3, hb, _⟩
  go_wp2_with (fail)
  have hn3 : n3 ≤ 122 := by have := hs3.len; rw [List.length_append, hs2.out.len] at this; simp [S5.three, S5.text, nums_len] at this; omega
  replace hs3 := Lib.hid hs3
  have hSn := And.intro (below_keep hb hS.1) (hS.2.keep hb)
  refine hK.out _ _ hSn (fun hS2 => ?_)
  clear hK K hSn hS
  have hS := hS2
  clear hS2
  refine' wpAnyH_take (i := 6) (v := ?va6) rfl (by kernel_rfl) (by kernel_rfl) (by kernel_rfl) (fun _ _ _ h => h) (Or.inl ⟨by kernel_rfl, fun W hW => ?ya6⟩) hS ?ra6
  case ya6 => (go_simp; first | done | with_reducible rfl | (rw [if_pos (by omega)]))
  refine wpAnyH_done (by kernel_rfl) ?_ _
  replace T := Lib.hid hS.2
  replace D := Lib.hid hS.1
  clear hS
  obtain ⟨x0, x1, x2, x3, x4, x5, x6, x7⟩ := T.out
  go_wp2_with (fail)
  clear x0 x1 x2 x3 x4 x5 x6 x7
  refine (r5putNumber_any _ _ _ _ t.tm t.l _ hs3.out (by omega)).mono ?_
  rintro e w4 ⟨A4, n4, c4, rfl, hs4, hb, _⟩
  have hn4 : n4 ≤ 126 := by have := hs4.len; rw [List.length_append, hs3.out.len] at this; simp [S5.num4_len] at this; omega
  replace hs4 := Lib.hid hs4
  replace T := Lib.hid (T.out.keep hb)
  replace D := Lib.hid (below_keep hb D.out)
  clear hb
  obtain ⟨x0, x1, x2, x3, x4, x5, x6, x7⟩ := T.out
  go_wp2_with (fail)
  clear x0 x1 x2 x3 x4 x5 x6 x7
  refine (r5putOctet_any _ _ _ _ 1 _ hs4.out (by omega)).mono ?_
  rintro e w5 ⟨A5, n5, c5, rfl, hs5, hb, _⟩
  have hn5 : n5 ≤ 127 := by have := hs5.len; rw [List.length_append, hs4.out.len] at this; simp [S5.num1] at this; omega
  replace hs5 := Lib.hid hs5
  replace T := Lib.hid (T.out.keep hb)
  replace D := Lib.hid (below_keep hb D.out)
  clear hb
  obtain ⟨x0, x1, x2, x3, x4, x5, x6, x7⟩ := T.out
  go_wp2_with (fail)
  clear x0 x1 x2 x3 x4 x5 x6 x7
  refine wp_region_held_drew (S := (fun W => Below w1.heap.size w1 W ∧ RpAt W w.heap.size t A n cap)) (by kernel_rfl) ⟨D.out.drew, T.out.drew⟩ (fun hS => ?_)
  replace hs5 := Lib.hid (hs5.out.keep (Below.refl w5.heap.size w5).drew)
  generalize w5.drew = wd2 at hS hs5 ⊢
  refine' wpAnyH_take (i := 0) (v := ?vb0) rfl (by kernel_rfl) (by kernel_rfl) (by kernel_rfl) (fun _ _ _ h => h) (Or.inl ⟨by kernel_rfl, fun W hW => ?yb0⟩) hS ?rb0
  case yb0 => (go_simp; first | done | with_reducible rfl | (rw [if_pos (by omega)]))
  refine' wpAnyH_take (i := 1) (v := ?vb1) rfl (by kernel_rfl) (by kernel_rfl) (by kernel_rfl) (fun _ _ _ h => h) (Or.inl ⟨by kernel_rfl, fun W hW => ?yb1⟩) hS ?rb1
  case yb1 => (go_simp; first | done | with_reducible rfl | (rw [if_pos (by omega)]))
  refine' wpAnyH_take (i := 2) (v := ?vb2) rfl (by kernel_rfl) (by kernel_rfl) (by kernel_rfl) (fun _ _ _ h => h) (Or.inl ⟨by kernel_rfl, fun W hW => ?yb2⟩) hS ?rb2
  case yb2 => (obtain ⟨x0, x1, x2, x3, x4, x5, x6, x7⟩ := hW.2; go_simp; first | done | with_reducible rfl | (rw [if_pos (by omega)]))
  refine' wpAnyH_take (i := 3) (v := ?vb3) rfl (by kernel_rfl) (by kernel_rfl) (by kernel_rfl) (fun _ _ _ h => h) (Or.inl ⟨by kernel_rfl, fun W hW => ?yb3⟩) hS ?rb3
  case yb3 => (go_simp; first | done | with_reducible rfl | (rw [if_pos (by omega)]))
  refine' wpAnyH_take (i := 4) (v := ?vb4) rfl (by kernel_rfl) (by kernel_rfl) (by kernel_rfl) (fun _ _ _ h => h) (Or.inl ⟨by kernel_rfl, fun W hW => ?yb4⟩) hS ?rb4
  case yb4 => (obtain ⟨x0, x1, x2, x3, x4, x5, x6, x7⟩ := hW.2; go_simp; first | done | with_reducible rfl | (rw [if_pos (by omega)]))
  refine' wpAnyH_take (i := 6) (v := ?vb6) rfl (by kernel_rfl) (by kernel_rfl) (by kernel_rfl) (fun _ _ _ h => h) (Or.inl ⟨by kernel_rfl, fun W hW => ?yb6⟩) hS ?rb6
  case yb6 => (go_simp; first | done | with_reducible rfl | (rw [if_pos (by omega)]))
  refine' wpAnyH_take (i := 7) (v := ?vb7) rfl (by kernel_rfl) (by kernel_rfl) (by kernel_rfl) (fun _ _ _ h => h) (Or.inl ⟨by kernel_rfl, fun W hW => ?yb7⟩) hS ?rb7
  case yb7 => (obtain ⟨x0, x1, x2, x3, x4, x5, x6, x7⟩ := hW.2; go_simp; first | done | with_reducible rfl | (rw [if_pos (by omega)]))
  refine wpAnyH_ready (rs := [5]) (by kernel_rfl) (by simp) ?_
  refine AllReadyH.cons rfl (fun K hK => ?_) AllReadyH.nil
  go_simp
  refine (r5putNumber_any _ _ _ _ t.ex t.l _ hs5.out (by omega)).mono ?_
  rintro e w6 ⟨A6, n6, c6, rfl, hs6, hb, _⟩
  go_wp2_with (fail)
  have hn6 : n6 ≤ 131 := by have := hs6.len; rw [List.length_append, hs5.out.len] at this; simp [S5.num4_len] at this; omega
  replace hs6 := Lib.hid hs6
  have hSn := And.intro (below_keep hb hS.1) (hS.2.keep hb)
  refine hK.out _ _ hSn (fun hS2 => ?_)
  clear hK K hSn hS
  have hS := hS2
  clear hS2
  refine wpAnyH_ready (rs := [8]) (by kernel_rfl) (by simp) ?_
  refine AllReadyH.cons rfl (fun K hK => ?_) AllReadyH.nil
  go_simp
  refine (r5putOctet_any _ _ _ _ t.kv _ hs6.out (by omega)).mono ?_
  rintro e w7 ⟨A7, n7, c7, rfl, hs7, hb, _⟩
  go_wp2_with (fail)
  have hn7 : n7 ≤ 132 := by have := hs7.len; rw [List.length_append, hs6.out.len] at this; simp [S5.num1] at this; omega
  replace hs7 := Lib.hid hs7
  have hSn := And.intro (below_keep hb hS.1) (hS.2.keep hb)
  refine hK.out _ _ hSn (fun hS2 => ?_)
  clear hK K hSn hS
  have hS := hS2
  clear hS2
  refine' wpAnyH_take (i := 9) (v := ?vb9) rfl (by kernel_rfl) (by kernel_rfl) (by kernel_rfl) (fun _ _ _ h => h) (Or.inl ⟨by kernel_rfl, fun W hW => ?yb9⟩) hS ?rb9
  case yb9 => (go_simp; first | done | with_reducible rfl | (rw [if_pos (by omega)]))
  refine wpAnyH_done (by kernel_rfl) ?_ _
  replace T := Lib.hid hS.2
  replace D := Lib.hid hS.1
  clear hS
  obtain ⟨x0, x1, x2, x3, x4, x5, x6, x7⟩ := T.out
  go_wp2_with (fail)
  clear x0 x1 x2 x3 x4 x5 x6 x7
  refine wp_region_held_drew (S := (fun W => Below w1.heap.size w1 W ∧ RpAt W w.heap.size t A n cap)) (by kernel_rfl) ⟨D.out.drew, T.out.drew⟩ (fun hS => ?_)
  replace hs7 := Lib.hid (hs7.out.keep (Below.refl w7.heap.size w7).drew)
  generalize w7.drew = wd3 at hS hs7 ⊢
  refine' wpAnyH_take (i := 0) (v := ?vc0) rfl (by kernel_rfl) (by kernel_rfl) (by kernel_rfl) (fun _ _ _ h => h) (Or.inl ⟨by kernel_rfl, fun W hW => ?yc0⟩) hS ?rc0
  case yc0 => (go_simp; first | done | with_reducible rfl | (rw [if_pos (by omega)]))
  refine' wpAnyH_take (i := 1) (v := ?vc1) rfl (by kernel_rfl) (by kernel_rfl) (by kernel_rfl) (fun _ _ _ h => h) (Or.inl ⟨by kernel_rfl, fun W hW => ?yc1⟩) hS ?rc1
  case yc1 => (go_simp; first | done | with_reducible rfl | (rw [if_pos (by omega)]))
  refine' wpAnyH_take (i := 2) (v := ?vc2) rfl (by kernel_rfl) (by kernel_rfl) (by kernel_rfl) (fun _ _ _ h => h) (Or.inl ⟨by kernel_rfl, fun W hW => ?yc2⟩) hS ?rc2
  case yc2 => (obtain ⟨x0, x1, x2, x3, x4, x5, x6, x7⟩ := hW.2; go_simp; first | done | with_reducible rfl | (rw [if_pos (by omega)]))
  refine' wpAnyH_take (i := 3) (v := ?vc3) rfl (by kernel_rfl) (by kernel_rfl) (by kernel_rfl) (fun _ _ _ h => h) (Or.inl ⟨by kernel_rfl, fun W hW => ?yc3⟩) hS ?rc3
  case yc3 => (go_simp; first | done | with_reducible rfl | (rw [if_pos (by omega)]))
  refine' wpAnyH_take (i := 4) (v := ?vc4) rfl (by kernel_rfl) (by kernel_rfl) (by kernel_rfl) (fun _ _ _ h => h) (Or.inl ⟨by kernel_rfl, fun W hW => ?yc4⟩) hS ?rc4
  case yc4 => (go_simp; first | done | with_reducible rfl | (rw [if_pos (by omega)]))
  refine' wpAnyH_take (i := 5) (v := ?vc5) rfl (by kernel_rfl) (by kernel_rfl) (by kernel_rfl) (fun _ _ _ h => h) (Or.inl ⟨by kernel_rfl, fun W hW => ?yc5⟩) hS ?rc5
  case yc5 => (obtain ⟨x0, x1, x2, x3, x4, x5, x6, x7⟩ := hW.2; go_simp; first | done | with_reducible rfl | (rw [if_pos (by omega)]))
  refine' wpAnyH_take (i := 7) (v := ?vc7) rfl (by kernel_rfl) (by kernel_rfl) (by kernel_rfl) (fun _ _ _ h => h) (Or.inl ⟨by kernel_rfl, fun W hW => ?yc7⟩) hS ?rc7
  case yc7 => (go_simp; first | done | with_reducible rfl | (rw [if_pos (by omega)]))
  refine' wpAnyH_take (i := 8) (v := ?vc8) rfl (by kernel_rfl) (by kernel_rfl) (by kernel_rfl) (fun _ _ _ h => h) (Or.inl ⟨by kernel_rfl, fun W hW => ?yc8⟩) hS ?rc8
  case yc8 => (obtain ⟨x0, x1, x2, x3, x4, x5, x6, x7⟩ := hW.2; go_simp; first | done | with_reducible rfl | (rw [if_pos (by omega)]))
  refine wpAnyH_ready (rs := [6]) (by kernel_rfl) (by simp) ?_
  refine AllReadyH.cons rfl (fun K hK => ?_) AllReadyH.nil
  go_simp
  refine (r5putShortO_any _ _ _ _ (n : Int) t.l _ hs7.out (by omega)).mono ?_
  rintro e w8 ⟨v8, rfl, ho8, hb⟩
  go_wp2_with (fail)
  have ho8B := Lib.hid (Own.base ho8 hS.1.size)
  clear ho8
  have hSn := And.intro (below_keep hb hS.1) (hS.2.keep hb)
  refine hK.out _ _ hSn (fun hS2 => ?_)
  clear hK K hSn hS
  have hS := hS2
  clear hS2
  have LEN8 := Lib.hid (show (S8.put 2 t.l ++ S5.three (nums t.a) (nums t.b) (nums t.c) ++ S5.num4 t.l t.tm ++ S5.num1 (1) ++ S5.num4 t.l t.ex ++ S5.num1 (t.kv) ++ S5.num2 t.l (n : Int)).length ≤ 134 by rw [List.length_append, hs7.out.len]; simp [S5.num2_len]; omega)
  have RNG8 := Lib.hid (show ∀ z ∈ S8.put 2 t.l ++ S5.three (nums t.a) (nums t.b) (nums t.c) ++ S5.num4 t.l t.tm ++ S5.num1 (1) ++ S5.num4 t.l t.ex ++ S5.num1 (t.kv) ++ S5.num2 t.l (n : Int), 0 ≤ z ∧ z ≤ 255 from range_app hs7.out.range (S5.num2_range _ _))
  refine wpAnyH_ready (rs := [9]) (by kernel_rfl) (by simp) ?_
  refine AllReadyH.cons rfl (fun K hK => ?_) AllReadyH.nil
  refine wp_push_row (.tmp 57) (.tmp 59) 26 rfl Try.underlying26 u8_infoB (base := w1.heap.size) (v := v8) (ys := t.z) (A := A) (m := n) (c := cap) (by kernel_rfl) (by kernel_rfl) ho8B.out (hz.out.keep (below_keep hS.1 B1.out)).row (by have := LEN8.out; omega) (by decide) hS.1.size ?_
  intro v9 w9 O9 hg _
  have hd := Own.grown hS.1 ho8B.out hg
  obtain ⟨A9, n9, c9, rfl, hs9, hf9⟩ := O9.slf (range_app RNG8.out (f.z))
  have hf := hf9.le B1.out.size
  have hn9 : n9 ≤ 1146 := by have h1 := hs9.len; have h2 := LEN8.out; rw [List.length_append] at h1; have h3 := hz.out.len; omega
  replace hs9 := Lib.hid hs9
  clear O9 hg
  have hSn := And.intro hd (T1.out.keep hd)
  refine hK.out _ _ hSn (fun hS2 => ?_)
  clear hK K hSn hS
  have hS := hS2
  clear hS2
  refine' wpAnyH_take (i := 10) (v := ?vc10) rfl (by kernel_rfl) (by kernel_rfl) (by kernel_rfl) (fun _ _ _ h => h) (Or.inl ⟨by kernel_rfl, fun W hW => ?yc10⟩) hS ?rc10
  case yc10 => (go_simp; first | done | with_reducible rfl | (rw [if_pos (by omega)]))
  refine' wpAnyH_take (i := 11) (v := ?vc11) rfl (by kernel_rfl) (by kernel_rfl) (by kernel_rfl) (fun _ _ _ h => h) (Or.inl ⟨by kernel_rfl, fun W hW => ?yc11⟩) hS ?rc11
  case yc11 => (go_simp; first | done | with_reducible rfl | (rw [if_pos (by omega)]))
  refine wpAnyH_done (by kernel_rfl) ?_ _
  replace T := Lib.hid hS.2
  replace D := Lib.hid hS.1
  clear hS
  obtain ⟨x0, x1, x2, x3, x4, x5, x6, x7⟩ := T.out
  go_wp2_with (fail)
  go_ret2
  have hfin : ∀ zs, zs = S9r.enc t → Sl w9 A9 n9 c9 zs → Sl w9 A9 n9 c9 (S9r.encB t) := fun zs e h => by rw [HB.out, ← e]; exact h
  exact ⟨A9, n9, c9, ret_two rfl (ival HC.out.symm), hfin _ (by unfold S9r.enc S9r.raw; simp [S5.three, hz.out.len]) hs9.out, below_keep D.out B1.out, hf⟩

theorem rpencode_any (t : S9r.Rp) (A : Option Addr) (n cap : Nat) (f : t.Fit) (w : World) (hz : Sl w A n cap t.z) : Calls Try.prog 19 #[(t.val A n cap)] w (RpEnc t w) := by
  rcases h0 : S1.vP t.a.data.toList t.b.data.toList t.c.data.toList
  · exact rpenc_0 t A n cap f w hz  h0
  · skip
    rcases h1 : S9r.win t.tm 4294967295
    · exact rpenc_1 t A n cap f w hz h0 h1
    · skip
      rcases h2 : S9r.win t.ex 4294967295
      · exact rpenc_2 t A n cap f w hz h0 h1 h2
      · skip
        rcases h3 : S9r.win t.kv 255
        · exact rpenc_3 t A n cap f w hz h0 h1 h2 h3
        · skip
          rcases Int.lt_or_le 1012 (n : Int) with h4 | h4
          · exact rpenc_4 t A n cap f w hz h0 h1 h2 h3 h4
          · exact rpenc_ok t A n cap f w hz h0 h1 h2 h3 h4

end Go.Proofs.Ytkhkmgblgonfoaa
