/-
  What EncodeError of the document's answer returns.
-/
import Derived.Test.YtkhkmgblgonfoaaGreatQBoxPlain
import Derived.Test.YtkhkmgblgonfoaaGreatQRqR
import Derived.Deep.RegionHeld3
namespace Go.Proofs.YtkhkmgblgonfoaaGreat
open Go.RowKit
set_option maxRecDepth 100000

/-- Its cells in a block. -/
structure ErAt (w : World) (g : Nat) (t : S9e.Er) : Prop where
  c0 : w.cell? ⟨g, 0, none⟩ = some (.bool t.l)
  c1 : w.cell? ⟨g, 1, none⟩ = some (.string t.a)
  c2 : w.cell? ⟨g, 2, none⟩ = some (.string t.b)
  c3 : w.cell? ⟨g, 3, none⟩ = some (.string t.c)
  c4 : w.cell? ⟨g, 4, none⟩ = some (.int .i64 t.tm)
  c5 : w.cell? ⟨g, 5, none⟩ = some (.int .i64 t.co)
  c6 : w.cell? ⟨g, 6, none⟩ = some (.string t.s)
theorem ErAt.keep {w w' : World} {g : Nat} {t : S9e.Er} (hb : Below w.heap.size w w') (h : ErAt w g t) : ErAt w' g t :=
  ⟨cell_keep hb h.c0, cell_keep hb h.c1, cell_keep hb h.c2, cell_keep hb h.c3, cell_keep hb h.c4, cell_keep hb h.c5, cell_keep hb h.c6⟩
theorem ErAt.drew {w : World} {g : Nat} {t : S9e.Er} (h : ErAt w g t) : ErAt w.drew g t := ⟨h.c0, h.c1, h.c2, h.c3, h.c4, h.c5, h.c6⟩
theorem ErAt.new (w : World) (t : S9e.Er) (T : TypeId) : ErAt (w.alloc (.cells (t.cells) T)) w.heap.size t :=
  ⟨by simp [go_sem, S9e.Er.cells], by simp [go_sem, S9e.Er.cells], by simp [go_sem, S9e.Er.cells], by simp [go_sem, S9e.Er.cells], by simp [go_sem, S9e.Er.cells], by simp [go_sem, S9e.Er.cells], by simp [go_sem, S9e.Er.cells]⟩

theorem erwithin_any (n m : Int) (w : World) : Calls Tryz.prog 28 #[.int .i64 n, .int .i64 m] w fun e w' => e = .returned (.bool (S9e.win n m)) ∧ w = w' := by
  by_cases h : 0 ≤ n
  · go_enter Tryz.func28, Tryz.ntmps28
    go_wp2
    go_ret
    exact ⟨ret_bool (by simp [S9e.win, h]), rfl⟩
  · have hn : n < 0 := by omega
    go_enter Tryz.func28, Tryz.ntmps28
    go_wp2
    go_ret
    exact ⟨ret_bool (by simp [S9e.win]; omega), rfl⟩

def ErEnc (t : S9e.Er) (w : World) (e : Ending) (w' : World) : Prop :=
  ∃ A n cap, e = .returned (.tuple #[.slice A n cap, .int .i64 (S9e.chkE t)]) ∧ Sl w' A n cap (S9e.encB t) ∧ Below w.heap.size w w' ∧ Fresh w.heap.size A

set_option maxHeartbeats 3200000 in
theorem erenc_0 (t : S9e.Er) (f : t.Fit) (w : World)  (hx : S1.vP t.a.data.toList t.b.data.toList t.c.data.toList = false) : Calls Tryz.prog 11 #[t.val] w (ErEnc t w) := by
  have HC := Lib.hid (S9e.chk_0  (show S9e.q0 t = false by unfold S9e.q0; rw [hx]; try rfl))
  have HB := Lib.hid (show S9e.encB t = [] by unfold S9e.encB; rw [if_neg (by rw [HC.out]; decide)])
  have B := Lib.hid (show Below w.heap.size w (w.alloc (.cells (t.cells) 46)) from (Below.refl _ _).alloc (Nat.le_refl _) _)
  have T := Lib.hid (ErAt.new w t 46)
  unfold S9e.Er.val S9e.Er.cells
  unfold S9e.Er.cells at B T
  obtain ⟨x0, x1, x2, x3, x4, x5, x6⟩ := T.out
  go_enter Tryz.func11, Tryz.ntmps11
  go_wp2_with (first
    | (go_at_call 25; refine (refValid_any _ _ _ _ f.a f.b f.c).mono ?_; rintro e w' ⟨rfl, hb⟩; clear x0 x1 x2 x3 x4 x5 x6; replace T := Lib.hid (T.out.keep hb); replace B := Lib.hid (below_keep hb B.out); clear hb; obtain ⟨x0, x1, x2, x3, x4, x5, x6⟩ := T.out)
    | (go_at_call 28; refine (erwithin_any _ _ _).mono ?_; rintro e w' ⟨rfl, rfl⟩))
  go_ret2
  exact ⟨none, 0, 0, ret_two rfl (ival HC.out.symm), by rw [HB.out]; exact Sl.nil _, B.out, Fresh.nil _⟩

set_option maxHeartbeats 3200000 in
theorem erenc_1 (t : S9e.Er) (f : t.Fit) (w : World) (h0 : S1.vP t.a.data.toList t.b.data.toList t.c.data.toList = true) (hx : S9e.win t.tm 4294967295 = false) : Calls Tryz.prog 11 #[t.val] w (ErEnc t w) := by
  have HC := Lib.hid (S9e.chk_1 (show S9e.q0 t = true by unfold S9e.q0; rw [h0]; try rfl) (show S9e.q1 t = false by unfold S9e.q1; rw [hx]; try rfl))
  have HB := Lib.hid (show S9e.encB t = [] by unfold S9e.encB; rw [if_neg (by rw [HC.out]; decide)])
  have B := Lib.hid (show Below w.heap.size w (w.alloc (.cells (t.cells) 46)) from (Below.refl _ _).alloc (Nat.le_refl _) _)
  have T := Lib.hid (ErAt.new w t 46)
  unfold S9e.Er.val S9e.Er.cells
  unfold S9e.Er.cells at B T
  obtain ⟨x0, x1, x2, x3, x4, x5, x6⟩ := T.out
  go_enter Tryz.func11, Tryz.ntmps11
  go_wp2_with (first
    | (go_at_call 25; refine (refValid_any _ _ _ _ f.a f.b f.c).mono ?_; rintro e w' ⟨rfl, hb⟩; clear x0 x1 x2 x3 x4 x5 x6; replace T := Lib.hid (T.out.keep hb); replace B := Lib.hid (below_keep hb B.out); clear hb; obtain ⟨x0, x1, x2, x3, x4, x5, x6⟩ := T.out)
    | (go_at_call 28; refine (erwithin_any _ _ _).mono ?_; rintro e w' ⟨rfl, rfl⟩))
  go_ret2
  exact ⟨none, 0, 0, ret_two rfl (ival HC.out.symm), by rw [HB.out]; exact Sl.nil _, B.out, Fresh.nil _⟩

set_option maxHeartbeats 3200000 in
theorem erenc_2 (t : S9e.Er) (f : t.Fit) (w : World) (h0 : S1.vP t.a.data.toList t.b.data.toList t.c.data.toList = true) (h1 : S9e.win t.tm 4294967295 = true) (hx : t.co < 1) : Calls Tryz.prog 11 #[t.val] w (ErEnc t w) := by
  have HC := Lib.hid (S9e.chk_1 (show S9e.q0 t = true by unfold S9e.q0; rw [h0]; try rfl) (show S9e.q1 t = false by unfold S9e.q1; rw [h1]; simp; omega))
  have HB := Lib.hid (show S9e.encB t = [] by unfold S9e.encB; rw [if_neg (by rw [HC.out]; decide)])
  have B := Lib.hid (show Below w.heap.size w (w.alloc (.cells (t.cells) 46)) from (Below.refl _ _).alloc (Nat.le_refl _) _)
  have T := Lib.hid (ErAt.new w t 46)
  unfold S9e.Er.val S9e.Er.cells
  unfold S9e.Er.cells at B T
  obtain ⟨x0, x1, x2, x3, x4, x5, x6⟩ := T.out
  go_enter Tryz.func11, Tryz.ntmps11
  go_wp2_with (first
    | (go_at_call 25; refine (refValid_any _ _ _ _ f.a f.b f.c).mono ?_; rintro e w' ⟨rfl, hb⟩; clear x0 x1 x2 x3 x4 x5 x6; replace T := Lib.hid (T.out.keep hb); replace B := Lib.hid (below_keep hb B.out); clear hb; obtain ⟨x0, x1, x2, x3, x4, x5, x6⟩ := T.out)
    | (go_at_call 28; refine (erwithin_any _ _ _).mono ?_; rintro e w' ⟨rfl, rfl⟩))
  go_ret2
  exact ⟨none, 0, 0, ret_two rfl (ival HC.out.symm), by rw [HB.out]; exact Sl.nil _, B.out, Fresh.nil _⟩

set_option maxHeartbeats 3200000 in
theorem erenc_3 (t : S9e.Er) (f : t.Fit) (w : World) (h0 : S1.vP t.a.data.toList t.b.data.toList t.c.data.toList = true) (h1 : S9e.win t.tm 4294967295 = true) (h2 : 1 ≤ t.co) (hx : 99 < t.co) : Calls Tryz.prog 11 #[t.val] w (ErEnc t w) := by
  have HC := Lib.hid (S9e.chk_1 (show S9e.q0 t = true by unfold S9e.q0; rw [h0]; try rfl) (show S9e.q1 t = false by unfold S9e.q1; rw [h1]; simp; omega))
  have HB := Lib.hid (show S9e.encB t = [] by unfold S9e.encB; rw [if_neg (by rw [HC.out]; decide)])
  have B := Lib.hid (show Below w.heap.size w (w.alloc (.cells (t.cells) 46)) from (Below.refl _ _).alloc (Nat.le_refl _) _)
  have T := Lib.hid (ErAt.new w t 46)
  unfold S9e.Er.val S9e.Er.cells
  unfold S9e.Er.cells at B T
  obtain ⟨x0, x1, x2, x3, x4, x5, x6⟩ := T.out
  go_enter Tryz.func11, Tryz.ntmps11
  go_wp2_with (first
    | (go_at_call 25; refine (refValid_any _ _ _ _ f.a f.b f.c).mono ?_; rintro e w' ⟨rfl, hb⟩; clear x0 x1 x2 x3 x4 x5 x6; replace T := Lib.hid (T.out.keep hb); replace B := Lib.hid (below_keep hb B.out); clear hb; obtain ⟨x0, x1, x2, x3, x4, x5, x6⟩ := T.out)
    | (go_at_call 28; refine (erwithin_any _ _ _).mono ?_; rintro e w' ⟨rfl, rfl⟩))
  go_ret2
  exact ⟨none, 0, 0, ret_two rfl (ival HC.out.symm), by rw [HB.out]; exact Sl.nil _, B.out, Fresh.nil _⟩

set_option maxHeartbeats 3200000 in
theorem erenc_4 (t : S9e.Er) (f : t.Fit) (w : World) (h0 : S1.vP t.a.data.toList t.b.data.toList t.c.data.toList = true) (h1 : S9e.win t.tm 4294967295 = true) (h2 : 1 ≤ t.co) (h3 : t.co ≤ 99) (hx : 39 < (t.s.size : Int)) : Calls Tryz.prog 11 #[t.val] w (ErEnc t w) := by
  have HC := Lib.hid (S9e.chk_2 (show S9e.q0 t = true by unfold S9e.q0; rw [h0]; try rfl) (show S9e.q1 t = true by unfold S9e.q1; rw [h1]; simp; omega) (show S9e.q2 t = false by unfold S9e.q2; simp; omega))
  have HB := Lib.hid (show S9e.encB t = [] by unfold S9e.encB; rw [if_neg (by rw [HC.out]; decide)])
  have B := Lib.hid (show Below w.heap.size w (w.alloc (.cells (t.cells) 46)) from (Below.refl _ _).alloc (Nat.le_refl _) _)
  have T := Lib.hid (ErAt.new w t 46)
  unfold S9e.Er.val S9e.Er.cells
  unfold S9e.Er.cells at B T
  obtain ⟨x0, x1, x2, x3, x4, x5, x6⟩ := T.out
  go_enter Tryz.func11, Tryz.ntmps11
  go_wp2_with (first
    | (go_at_call 25; refine (refValid_any _ _ _ _ f.a f.b f.c).mono ?_; rintro e w' ⟨rfl, hb⟩; clear x0 x1 x2 x3 x4 x5 x6; replace T := Lib.hid (T.out.keep hb); replace B := Lib.hid (below_keep hb B.out); clear hb; obtain ⟨x0, x1, x2, x3, x4, x5, x6⟩ := T.out)
    | (go_at_call 28; refine (erwithin_any _ _ _).mono ?_; rintro e w' ⟨rfl, rfl⟩))
  go_ret2
  exact ⟨none, 0, 0, ret_two rfl (ival HC.out.symm), by rw [HB.out]; exact Sl.nil _, B.out, Fresh.nil _⟩

set_option maxHeartbeats 3200000 in
theorem erenc_5 (t : S9e.Er) (f : t.Fit) (w : World) (h0 : S1.vP t.a.data.toList t.b.data.toList t.c.data.toList = true) (h1 : S9e.win t.tm 4294967295 = true) (h2 : 1 ≤ t.co) (h3 : t.co ≤ 99) (h4 : (t.s.size : Int) ≤ 39) (hx : S9e.nz t.s = false) : Calls Tryz.prog 11 #[t.val] w (ErEnc t w) := by
  have HC := Lib.hid (S9e.chk_3 (show S9e.q0 t = true by unfold S9e.q0; rw [h0]; try rfl) (show S9e.q1 t = true by unfold S9e.q1; rw [h1]; simp; omega) (show S9e.q2 t = true by unfold S9e.q2; simp; omega) (show S9e.q3 t = false by unfold S9e.q3; rw [hx]; try rfl))
  have HB := Lib.hid (show S9e.encB t = [] by unfold S9e.encB; rw [if_neg (by rw [HC.out]; decide)])
  have B := Lib.hid (show Below w.heap.size w (w.alloc (.cells (t.cells) 46)) from (Below.refl _ _).alloc (Nat.le_refl _) _)
  have T := Lib.hid (ErAt.new w t 46)
  unfold S9e.Er.val S9e.Er.cells
  unfold S9e.Er.cells at B T
  obtain ⟨x0, x1, x2, x3, x4, x5, x6⟩ := T.out
  go_enter Tryz.func11, Tryz.ntmps11
  go_wp2_with (first
    | (go_at_call 25; refine (refValid_any _ _ _ _ f.a f.b f.c).mono ?_; rintro e w' ⟨rfl, hb⟩; clear x0 x1 x2 x3 x4 x5 x6; replace T := Lib.hid (T.out.keep hb); replace B := Lib.hid (below_keep hb B.out); clear hb; obtain ⟨x0, x1, x2, x3, x4, x5, x6⟩ := T.out)
    | (go_at_call 28; refine (erwithin_any _ _ _).mono ?_; rintro e w' ⟨rfl, rfl⟩))
  go_loop [4] (fun i => ∃ k : Nat, k ≤ t.s.size ∧ i = .int .i64 k ∧ (t.s.data.toList.take k).all S9e.nzB = true) (fun i => t.s.size - (intOf i).toNat)
  case atStart => exact ⟨0, Nat.zero_le _, rfl, by simp⟩
  case round =>
    obtain ⟨k, hk, rfl, hall⟩ := hrel
    by_cases hlt : k < t.s.size
    · have HS := Lib.hid (S1.all_snoc S9e.nzB t.s k hlt)
      have HF := Lib.hid (S1.all_false S9e.nzB t.s k hlt)
      have HA := Lib.hid hall
      have hkk : (k : Int) < (t.s.size : Int) := by omega
      clear hall
      rcases hc : S9e.nzB t.s[k]
      · skip
        have hz0 : ((t.s[k].toNat : Int) == 0) = true := by
          have h0 : t.s[k] = 0 := by simpa [S9e.nzB] using hc
          rw [h0]; rfl
        clear hc HS HF HA
        go_wp2_with (fail)
        go_ret2
        exact ⟨none, 0, 0, ret_two rfl (ival HC.out.symm), by rw [HB.out]; exact Sl.nil _, B.out, Fresh.nil _⟩
      · have hz1 : ((t.s[k].toNat : Int) == 0) = false := by
          have h0 : t.s[k] ≠ 0 := by simpa [S9e.nzB] using hc
          have h1 : t.s[k].toNat ≠ 0 := fun e => h0 (UInt8.toNat_inj.1 (by simpa using e))
          simp; omega
        have HC2 := Lib.hid hc
        clear hc
        go_wp2_with (fail)
        go_round
        case rel => exact ⟨k + 1, by omega, by go_num, by rw [HS.out, HA.out, HC2.out]; rfl⟩
        case measure => simp [intOf]; omega
    · exact absurd (S1.all_end _ _ _ (by omega) hall) (by have := hx; unfold S9e.nz at this; rw [this]; decide)

set_option maxHeartbeats 6400000 in
theorem erenc_ok (t : S9e.Er) (f : t.Fit) (w : World) (h0 : S1.vP t.a.data.toList t.b.data.toList t.c.data.toList = true) (h1 : S9e.win t.tm 4294967295 = true) (h2 : 1 ≤ t.co) (h3 : t.co ≤ 99) (h4 : (t.s.size : Int) ≤ 39) (h5 : S9e.nz t.s = true) : Calls Tryz.prog 11 #[t.val] w (ErEnc t w) := by
  have HC := Lib.hid (S9e.chk_ok (show S9e.q0 t = true by unfold S9e.q0; rw [h0]; try rfl) (show S9e.q1 t = true by unfold S9e.q1; rw [h1]; simp; omega) (show S9e.q2 t = true by unfold S9e.q2; simp; omega) (show S9e.q3 t = true by unfold S9e.q3; rw [h5]; try rfl))
  have HO := Lib.hid (S9e.ok_of HC.out)
  have HB := Lib.hid (show S9e.encB t = S9e.enc t by unfold S9e.encB; rw [if_pos HC.out])
  have l_a : t.a.size ≤ 39 := by have := (S5.vName_ok HO.out.a).2; rwa [nums_len] at this
  have l_b : t.b.size ≤ 39 := by have := (S5.vInst_ok HO.out.b).2; rwa [nums_len] at this
  have l_c : t.c.size ≤ 39 := by have := (S5.vRealm_ok HO.out.c).2; rwa [nums_len] at this
  have l_s : t.s.size ≤ 39 := HO.out.sl
  have B := Lib.hid (show Below w.heap.size w (w.alloc (.cells (t.cells) 46)) from (Below.refl _ _).alloc (Nat.le_refl _) _)
  have T := Lib.hid (ErAt.new w t 46)
  unfold S9e.Er.val S9e.Er.cells
  unfold S9e.Er.cells at B T
  obtain ⟨x0, x1, x2, x3, x4, x5, x6⟩ := T.out
  go_enter Tryz.func11, Tryz.ntmps11
  go_wp2_with (first
    | (go_at_call 25; refine (refValid_any _ _ _ _ f.a f.b f.c).mono ?_; rintro e w' ⟨rfl, hb⟩; clear x0 x1 x2 x3 x4 x5 x6; replace T := Lib.hid (T.out.keep hb); replace B := Lib.hid (below_keep hb B.out); clear hb; obtain ⟨x0, x1, x2, x3, x4, x5, x6⟩ := T.out)
    | (go_at_call 28; refine (erwithin_any _ _ _).mono ?_; rintro e w' ⟨rfl, rfl⟩))
  go_loop [4] (fun i => ∃ k : Nat, k ≤ t.s.size ∧ i = .int .i64 k ∧ (t.s.data.toList.take k).all S9e.nzB = true) (fun i => t.s.size - (intOf i).toNat)
  case atStart => exact ⟨0, Nat.zero_le _, rfl, by simp⟩
  case round =>
    obtain ⟨k, hk, rfl, hall⟩ := hrel
    by_cases hlt : k < t.s.size
    · have HS := Lib.hid (S1.all_snoc S9e.nzB t.s k hlt)
      have HF := Lib.hid (S1.all_false S9e.nzB t.s k hlt)
      have HA := Lib.hid hall
      have hkk : (k : Int) < (t.s.size : Int) := by omega
      clear hall
      rcases hc : S9e.nzB t.s[k]
      · exact absurd (HF.out hc) (by have := h5; unfold S9e.nz at this; rw [this]; decide)
      · have hz1 : ((t.s[k].toNat : Int) == 0) = false := by
          have h0 : t.s[k] ≠ 0 := by simpa [S9e.nzB] using hc
          have h1 : t.s[k].toNat ≠ 0 := fun e => h0 (UInt8.toNat_inj.1 (by simpa using e))
          simp; omega
        have HC2 := Lib.hid hc
        clear hc
        go_wp2_with (fail)
        go_round
        case rel => exact ⟨k + 1, by omega, by go_num, by rw [HS.out, HA.out, HC2.out]; rfl⟩
        case measure => simp [intOf]; omega
    · have hkk : ¬ (k : Int) < (t.s.size : Int) := by omega
      clear hall
      go_wp2_with (fail)
      obtain ⟨w1, hw1⟩ : ∃ x, x = w' := ⟨_, rfl⟩
      subst hw1
      have B1 := B
      have T1 := T
      have D := Lib.hid (Below.refl w1.heap.size w1)
      clear B
      clear x0 x1 x2 x3 x4 x5 x6
      refine wp_region_held_drew (S := (fun W => Below w1.heap.size w1 W ∧ ErAt W w.heap.size t)) (by kernel_rfl) ⟨D.out.drew, T.out.drew⟩ (fun hS => ?_)
      generalize w1.drew = wd1 at hS ⊢
      refine' wpAnyH_take (i := 0) (v := ?va0) rfl (by kernel_rfl) (by kernel_rfl) (by kernel_rfl) (fun _ _ _ h => h) (Or.inl ⟨by kernel_rfl, fun W hW => ?ya0⟩) hS ?ra0
      case ya0 => (go_simp; first | done | with_reducible rfl | (rw [if_pos (by omega)]))
      refine' wpAnyH_take (i := 1) (v := ?va1) rfl (by kernel_rfl) (by kernel_rfl) (by kernel_rfl) (fun _ _ _ h => h) (Or.inl ⟨by kernel_rfl, fun W hW => ?ya1⟩) hS ?ra1
      case ya1 => (obtain ⟨x0, x1, x2, x3, x4, x5, x6⟩ := hW.2; go_simp; first | done | with_reducible rfl | (rw [if_pos (by omega)]))
      refine' wpAnyH_take (i := 3) (v := ?va3) rfl (by kernel_rfl) (by kernel_rfl) (by kernel_rfl) (fun _ _ _ h => h) (Or.inl ⟨by kernel_rfl, fun W hW => ?ya3⟩) hS ?ra3
      case ya3 => (go_simp; first | done | with_reducible rfl | (rw [if_pos (by omega)]))
      refine' wpAnyH_take (i := 4) (v := ?va4) rfl (by kernel_rfl) (by kernel_rfl) (by kernel_rfl) (fun _ _ _ h => h) (Or.inl ⟨by kernel_rfl, fun W hW => ?ya4⟩) hS ?ra4
      case ya4 => (obtain ⟨x0, x1, x2, x3, x4, x5, x6⟩ := hW.2; go_simp; first | done | with_reducible rfl | (rw [if_pos (by omega)]))
      refine wpAnyH_ready (rs := [2]) (by kernel_rfl) (by simp) ?_
      refine AllReadyH.cons rfl (fun K hK => ?_) AllReadyH.nil
      go_simp
      refine (r8put_any 5 t.l _).mono ?_
      rintro e w2 ⟨A2, n2, c2, rfl, hs2, hb, _⟩
      go_wp2_with (fail)
      have hn2 : n2 ≤ 2 := by have := hs2.len; simp [S8.put, S8.okK] at this; omega
      replace hs2 := Lib.hid hs2
      have hSn := And.intro (below_keep hb hS.1) (hS.2.keep hb)
      refine hK.out _ _ hSn (fun hS2 => ?_)
      clear hK K hSn hS
      have hS := hS2
      clear hS2
      refine wpAnyH_ready (rs := [5]) (by kernel_rfl) (by simp) ?_
      refine AllReadyH.cons rfl (fun K hK => ?_) AllReadyH.nil
      go_simp
      refine (r5putPrincipal_any _ _ _ _ t.a t.b t.c _ hs2.out (by omega) (by omega) (by omega) (by omega)).mono ?_
      rintro e w3 ⟨A3, n3, c3, rfl, hs3, hb, _⟩
      go_wp2_with (fail)
      have hn3 : n3 ≤ 122 := by have := hs3.len; rw [List.length_append, hs2.out.len] at this; simp [S5.three, S5.text, nums_len] at this; omega
      replace hs3 := Lib.hid hs3
      have hSn := And.intro (below_keep hb hS.1) (hS.2.keep hb)
      refine hK.out _ _ hSn (fun hS2 => ?_)
      clear hK K hSn hS
      have hS := hS2
      clear hS2
      refine' wpAnyH_take (i := 6) (v := ?va6) rfl (by kernel_rfl) (by kernel_rfl) (by kernel_rfl) (fun _ _ _ h => h) (Or.inl ⟨by kernel_rfl, fun W hW => ?ya6⟩) hS ?ra6
      case ya6 => (go_simp; first | done | with_reducible rfl | (rw [if_pos (by omega)]))
      refine wpAnyH_done (by kernel_rfl) ?_ _
      replace T := Lib.hid hS.2
      replace D := Lib.hid hS.1
      clear hS
      obtain ⟨x0, x1, x2, x3, x4, x5, x6⟩ := T.out
      go_wp2_with (fail)
      clear x0 x1 x2 x3 x4 x5 x6
      refine wp_region_held_drew (S := (fun W => Below w1.heap.size w1 W ∧ ErAt W w.heap.size t)) (by kernel_rfl) ⟨D.out.drew, T.out.drew⟩ (fun hS => ?_)
      replace hs3 := Lib.hid (hs3.out.keep (Below.refl w3.heap.size w3).drew)
      generalize w3.drew = wd2 at hS hs3 ⊢
      refine' wpAnyH_take (i := 0) (v := ?vb0) rfl (by kernel_rfl) (by kernel_rfl) (by kernel_rfl) (fun _ _ _ h => h) (Or.inl ⟨by kernel_rfl, fun W hW => ?yb0⟩) hS ?rb0
      case yb0 => (go_simp; first | done | with_reducible rfl | (rw [if_pos (by omega)]))
      refine' wpAnyH_take (i := 1) (v := ?vb1) rfl (by kernel_rfl) (by kernel_rfl) (by kernel_rfl) (fun _ _ _ h => h) (Or.inl ⟨by kernel_rfl, fun W hW => ?yb1⟩) hS ?rb1
      case yb1 => (go_simp; first | done | with_reducible rfl | (rw [if_pos (by omega)]))
      refine' wpAnyH_take (i := 2) (v := ?vb2) rfl (by kernel_rfl) (by kernel_rfl) (by kernel_rfl) (fun _ _ _ h => h) (Or.inl ⟨by kernel_rfl, fun W hW => ?yb2⟩) hS ?rb2
      case yb2 => (obtain ⟨x0, x1, x2, x3, x4, x5, x6⟩ := hW.2; go_simp; first | done | with_reducible rfl | (rw [if_pos (by omega)]))
      refine' wpAnyH_take (i := 3) (v := ?vb3) rfl (by kernel_rfl) (by kernel_rfl) (by kernel_rfl) (fun _ _ _ h => h) (Or.inl ⟨by kernel_rfl, fun W hW => ?yb3⟩) hS ?rb3
      case yb3 => (go_simp; first | done | with_reducible rfl | (rw [if_pos (by omega)]))
      refine' wpAnyH_take (i := 4) (v := ?vb4) rfl (by kernel_rfl) (by kernel_rfl) (by kernel_rfl) (fun _ _ _ h => h) (Or.inl ⟨by kernel_rfl, fun W hW => ?yb4⟩) hS ?rb4
      case yb4 => (obtain ⟨x0, x1, x2, x3, x4, x5, x6⟩ := hW.2; go_simp; first | done | with_reducible rfl | (rw [if_pos (by omega)]))
      refine' wpAnyH_take (i := 6) (v := ?vb6) rfl (by kernel_rfl) (by kernel_rfl) (by kernel_rfl) (fun _ _ _ h => h) (Or.inl ⟨by kernel_rfl, fun W hW => ?yb6⟩) hS ?rb6
      case yb6 => (go_simp; first | done | with_reducible rfl | (rw [if_pos (by omega)]))
      refine' wpAnyH_take (i := 7) (v := ?vb7) rfl (by kernel_rfl) (by kernel_rfl) (by kernel_rfl) (fun _ _ _ h => h) (Or.inl ⟨by kernel_rfl, fun W hW => ?yb7⟩) hS ?rb7
      case yb7 => (obtain ⟨x0, x1, x2, x3, x4, x5, x6⟩ := hW.2; go_simp; first | done | with_reducible rfl | (rw [if_pos (by omega)]))
      refine' wpAnyH_take (i := 8) (v := ?vb8) rfl (by kernel_rfl) (by kernel_rfl) (by kernel_rfl) (fun _ _ _ h => h) (Or.inl ⟨by kernel_rfl, fun W hW => ?yb8⟩) hS ?rb8
      case yb8 => (go_simp; first | done | with_reducible rfl | (rw [if_pos (by omega)]))
      refine' wpAnyH_take (i := 9) (v := ?vb9) rfl (by kernel_rfl) (by kernel_rfl) (by kernel_rfl) (fun _ _ _ h => h) (Or.inl ⟨by kernel_rfl, fun W hW => ?yb9⟩) hS ?rb9
      case yb9 => (obtain ⟨x0, x1, x2, x3, x4, x5, x6⟩ := hW.2; go_simp; first | done | with_reducible rfl | (rw [if_pos (by omega)]))
      refine wpAnyH_ready (rs := [5]) (by kernel_rfl) (by simp) ?_
      refine AllReadyH.cons rfl (fun K hK => ?_) AllReadyH.nil
      go_simp
      refine (r5putNumber_any _ _ _ _ t.tm t.l _ hs3.out (by omega)).mono ?_
      rintro e w4 ⟨A4, n4, c4, rfl, hs4, hb, _⟩
      go_wp2_with (fail)
      have hn4 : n4 ≤ 126 := by have := hs4.len; rw [List.length_append, hs3.out.len] at this; simp [S5.num4_len] at this; omega
      replace hs4 := Lib.hid hs4
      have hSn := And.intro (below_keep hb hS.1) (hS.2.keep hb)
      refine hK.out _ _ hSn (fun hS2 => ?_)
      clear hK K hSn hS
      have hS := hS2
      clear hS2
      refine wpAnyH_ready (rs := [10]) (by kernel_rfl) (by simp) ?_
      refine AllReadyH.cons rfl (fun K hK => ?_) AllReadyH.nil
      go_simp
      refine (r5putNumber_any _ _ _ _ t.co t.l _ hs4.out (by omega)).mono ?_
      rintro e w5 ⟨A5, n5, c5, rfl, hs5, hb, _⟩
      go_wp2_with (fail)
      have hn5 : n5 ≤ 130 := by have := hs5.len; rw [List.length_append, hs4.out.len] at this; simp [S5.num4_len] at this; omega
      replace hs5 := Lib.hid hs5
      have hSn := And.intro (below_keep hb hS.1) (hS.2.keep hb)
      refine hK.out _ _ hSn (fun hS2 => ?_)
      clear hK K hSn hS
      have hS := hS2
      clear hS2
      refine' wpAnyH_take (i := 11) (v := ?vb11) rfl (by kernel_rfl) (by kernel_rfl) (by kernel_rfl) (fun _ _ _ h => h) (Or.inl ⟨by kernel_rfl, fun W hW => ?yb11⟩) hS ?rb11
      case yb11 => (go_simp; first | done | with_reducible rfl | (rw [if_pos (by omega)]))
      refine wpAnyH_done (by kernel_rfl) ?_ _
      replace T := Lib.hid hS.2
      replace D := Lib.hid hS.1
      clear hS
      obtain ⟨x0, x1, x2, x3, x4, x5, x6⟩ := T.out
      go_wp2_with (fail)
      clear x0 x1 x2 x3 x4 x5 x6
      refine (r5putText_any _ _ _ _ t.s _ hs5.out (by omega) (by omega)).mono ?_
      rintro e w6 ⟨A6, n6, c6, rfl, hs6, hb, hf6⟩
      have hf := hf6.le (Nat.le_trans B1.out.size D.out.size)
      have hn6 : n6 ≤ 170 := by have := hs6.len; rw [List.length_append, hs5.out.len] at this; simp [S5.text, nums_len] at this; omega
      replace hs6 := Lib.hid hs6
      replace T := Lib.hid (T.out.keep hb)
      replace D := Lib.hid (below_keep hb D.out)
      clear hb
      obtain ⟨x0, x1, x2, x3, x4, x5, x6⟩ := T.out
      go_wp2_with (fail)
      go_ret2
      have hfin : ∀ zs, zs = S9e.enc t → Sl w6 A6 n6 c6 zs → Sl w6 A6 n6 c6 (S9e.encB t) := fun zs e h => by rw [HB.out, ← e]; exact h
      exact ⟨A6, n6, c6, ret_two rfl (ival HC.out.symm), hfin _ (by unfold S9e.enc S9e.raw; simp [S5.three]) hs6.out, below_keep D.out B1.out, hf⟩

theorem erencode_any (t : S9e.Er) (f : t.Fit) (w : World) : Calls Tryz.prog 11 #[t.val] w (ErEnc t w) := by
  rcases h0 : S1.vP t.a.data.toList t.b.data.toList t.c.data.toList
  · exact erenc_0 t f w  h0
  · skip
    rcases h1 : S9e.win t.tm 4294967295
    · exact erenc_1 t f w h0 h1
    · skip
      rcases Int.lt_or_le t.co 1 with h2 | h2
      · exact erenc_2 t f w h0 h1 h2
      · skip
        rcases Int.lt_or_le 99 t.co with h3 | h3
        · exact erenc_3 t f w h0 h1 h2 h3
        · skip
          rcases Int.lt_or_le 39 (t.s.size : Int) with h4 | h4
          · exact erenc_4 t f w h0 h1 h2 h3 h4
          · skip
            rcases h5 : S9e.nz t.s
            · exact erenc_5 t f w h0 h1 h2 h3 h4 h5
            · exact erenc_ok t f w h0 h1 h2 h3 h4 h5

end Go.Proofs.YtkhkmgblgonfoaaGreat
