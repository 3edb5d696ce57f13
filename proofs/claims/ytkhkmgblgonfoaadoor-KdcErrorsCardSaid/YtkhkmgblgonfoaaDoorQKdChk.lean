/-
  What the checks of package kdcmessage return.
-/
import Derived.Test.YtkhkmgblgonfoaaDoorQRqD
import Derived.Test.YtkhkmgblgonfoaaDoorQPrinA
import Derived.Test.YtkhkmgblgonfoaaDoorQKeyA
namespace Go.Proofs.YtkhkmgblgonfoaaDoor
open Go.RowKit
set_option maxRecDepth 100000

theorem kupTo_S9q (n m : Int) (w : World) : Calls Tryd.prog 31 #[.int .i64 n, .int .i64 m] w fun e w' => e = .returned (.bool (S9q.win n m)) ∧ w = w' := by
  by_cases h : 0 ≤ n
  · go_enter Tryd.func31, Tryd.ntmps31
    go_wp2
    go_ret
    exact ⟨ret_bool (by simp [S9q.win, h]), rfl⟩
  · have hn : n < 0 := by omega
    go_enter Tryd.func31, Tryd.ntmps31
    go_wp2
    go_ret
    exact ⟨ret_bool (by simp [S9q.win]; omega), rfl⟩

theorem kupTo_S9p (n m : Int) (w : World) : Calls Tryd.prog 31 #[.int .i64 n, .int .i64 m] w fun e w' => e = .returned (.bool (S9p.win n m)) ∧ w = w' := by
  by_cases h : 0 ≤ n
  · go_enter Tryd.func31, Tryd.ntmps31
    go_wp2
    go_ret
    exact ⟨ret_bool (by simp [S9p.win, h]), rfl⟩
  · have hn : n < 0 := by omega
    go_enter Tryd.func31, Tryd.ntmps31
    go_wp2
    go_ret
    exact ⟨ret_bool (by simp [S9p.win]; omega), rfl⟩

theorem kupTo_S9r (n m : Int) (w : World) : Calls Tryd.prog 31 #[.int .i64 n, .int .i64 m] w fun e w' => e = .returned (.bool (S9r.win n m)) ∧ w = w' := by
  by_cases h : 0 ≤ n
  · go_enter Tryd.func31, Tryd.ntmps31
    go_wp2
    go_ret
    exact ⟨ret_bool (by simp [S9r.win, h]), rfl⟩
  · have hn : n < 0 := by omega
    go_enter Tryd.func31, Tryd.ntmps31
    go_wp2
    go_ret
    exact ⟨ret_bool (by simp [S9r.win]; omega), rfl⟩

theorem kupTo_S9e (n m : Int) (w : World) : Calls Tryd.prog 31 #[.int .i64 n, .int .i64 m] w fun e w' => e = .returned (.bool (S9e.win n m)) ∧ w = w' := by
  by_cases h : 0 ≤ n
  · go_enter Tryd.func31, Tryd.ntmps31
    go_wp2
    go_ret
    exact ⟨ret_bool (by simp [S9e.win, h]), rfl⟩
  · have hn : n < 0 := by omega
    go_enter Tryd.func31, Tryd.ntmps31
    go_wp2
    go_ret
    exact ⟨ret_bool (by simp [S9e.win]; omega), rfl⟩

def krqChk (t : S9q.Rq) (w : World) (e : Ending) (w' : World) : Prop := e = .returned (.int .i64 (S9q.chkE t)) ∧ Below w.heap.size w w'

set_option maxHeartbeats 6400000 in
theorem krqcheck_any (t : S9q.Rq) (f : t.Fit) (w : World) : Calls Tryd.prog 27 #[t.val] w (krqChk t w) := by
  have B := Lib.hid (show Below w.heap.size w (w.alloc (.cells (t.cells) 40)) from (Below.refl _ _).alloc (Nat.le_refl _) _)
  have T := Lib.hid (RqAt.new w t 40)
  unfold S9q.Rq.val S9q.Rq.cells
  unfold S9q.Rq.cells at B T
  obtain ⟨x0, x1, x2, x3, x4, x5, x6, x7⟩ := T.out
  rcases h0 : S1.vP t.a.data.toList t.b.data.toList t.c.data.toList
  · have HC := Lib.hid (S9q.chk_0 (show S9q.q0 t = false by first | (simp [S9q.q0, S1.vInst, h0]; done) | (simp [S9q.q0, S1.vInst, h0]; omega)))
    go_enter Tryd.func27, Tryd.ntmps27
    go_wp2_with (first
      | (go_at_call 30; refine (valid_any _ _ _ _ f.a f.b f.c).mono ?_; rintro e w' ⟨rfl, hb⟩; clear x0 x1 x2 x3 x4 x5 x6 x7; replace T := Lib.hid (T.out.keep hb); replace B := Lib.hid (below_keep hb B.out); clear hb; obtain ⟨x0, x1, x2, x3, x4, x5, x6, x7⟩ := T.out)
      | (go_at_call 45; refine (validName_any _ _ f.s).mono ?_; rintro e w' ⟨rfl, rfl⟩)
      | (go_at_call 46; refine (validInstance_any _ _ f.i).mono ?_; rintro e w' ⟨rfl, rfl⟩)
      | (go_at_call 31; refine (kupTo_S9q _ _ _).mono ?_; rintro e w' ⟨rfl, rfl⟩))
    go_ret
    exact ⟨ret_int HC.out.symm, B.out⟩
  · skip
    rcases h1 : S1.vName t.s.data.toList
    · have HC := Lib.hid (S9q.chk_0 (show S9q.q0 t = false by first | (simp [S9q.q0, S1.vInst, h0, h1]; done) | (simp [S9q.q0, S1.vInst, h0, h1]; omega)))
      go_enter Tryd.func27, Tryd.ntmps27
      go_wp2_with (first
        | (go_at_call 30; refine (valid_any _ _ _ _ f.a f.b f.c).mono ?_; rintro e w' ⟨rfl, hb⟩; clear x0 x1 x2 x3 x4 x5 x6 x7; replace T := Lib.hid (T.out.keep hb); replace B := Lib.hid (below_keep hb B.out); clear hb; obtain ⟨x0, x1, x2, x3, x4, x5, x6, x7⟩ := T.out)
        | (go_at_call 45; refine (validName_any _ _ f.s).mono ?_; rintro e w' ⟨rfl, rfl⟩)
        | (go_at_call 46; refine (validInstance_any _ _ f.i).mono ?_; rintro e w' ⟨rfl, rfl⟩)
        | (go_at_call 31; refine (kupTo_S9q _ _ _).mono ?_; rintro e w' ⟨rfl, rfl⟩))
      go_ret
      exact ⟨ret_int HC.out.symm, B.out⟩
    · skip
      rcases h2 : S1.text [64] t.i.data.toList
      · have HC := Lib.hid (S9q.chk_0 (show S9q.q0 t = false by first | (simp [S9q.q0, S1.vInst, h0, h1, h2]; done) | (simp [S9q.q0, S1.vInst, h0, h1, h2]; omega)))
        go_enter Tryd.func27, Tryd.ntmps27
        go_wp2_with (first
          | (go_at_call 30; refine (valid_any _ _ _ _ f.a f.b f.c).mono ?_; rintro e w' ⟨rfl, hb⟩; clear x0 x1 x2 x3 x4 x5 x6 x7; replace T := Lib.hid (T.out.keep hb); replace B := Lib.hid (below_keep hb B.out); clear hb; obtain ⟨x0, x1, x2, x3, x4, x5, x6, x7⟩ := T.out)
          | (go_at_call 45; refine (validName_any _ _ f.s).mono ?_; rintro e w' ⟨rfl, rfl⟩)
          | (go_at_call 46; refine (validInstance_any _ _ f.i).mono ?_; rintro e w' ⟨rfl, rfl⟩)
          | (go_at_call 31; refine (kupTo_S9q _ _ _).mono ?_; rintro e w' ⟨rfl, rfl⟩))
        go_ret
        exact ⟨ret_int HC.out.symm, B.out⟩
      · skip
        rcases h3 : S9q.win t.tm 4294967295
        · have HC := Lib.hid (S9q.chk_1 (show S9q.q0 t = true by first | (simp [S9q.q0, S1.vInst, h0, h1, h2]; done) | (simp [S9q.q0, S1.vInst, h0, h1, h2]; omega)) (show S9q.q1 t = false by first | (simp [S9q.q1, h3]; done) | (simp [S9q.q1, h3]; omega)))
          go_enter Tryd.func27, Tryd.ntmps27
          go_wp2_with (first
            | (go_at_call 30; refine (valid_any _ _ _ _ f.a f.b f.c).mono ?_; rintro e w' ⟨rfl, hb⟩; clear x0 x1 x2 x3 x4 x5 x6 x7; replace T := Lib.hid (T.out.keep hb); replace B := Lib.hid (below_keep hb B.out); clear hb; obtain ⟨x0, x1, x2, x3, x4, x5, x6, x7⟩ := T.out)
            | (go_at_call 45; refine (validName_any _ _ f.s).mono ?_; rintro e w' ⟨rfl, rfl⟩)
            | (go_at_call 46; refine (validInstance_any _ _ f.i).mono ?_; rintro e w' ⟨rfl, rfl⟩)
            | (go_at_call 31; refine (kupTo_S9q _ _ _).mono ?_; rintro e w' ⟨rfl, rfl⟩))
          go_ret
          exact ⟨ret_int HC.out.symm, B.out⟩
        · skip
          rcases h4 : S9q.win t.li 255
          · have HC := Lib.hid (S9q.chk_1 (show S9q.q0 t = true by first | (simp [S9q.q0, S1.vInst, h0, h1, h2]; done) | (simp [S9q.q0, S1.vInst, h0, h1, h2]; omega)) (show S9q.q1 t = false by first | (simp [S9q.q1, h3, h4]; done) | (simp [S9q.q1, h3, h4]; omega)))
            go_enter Tryd.func27, Tryd.ntmps27
            go_wp2_with (first
              | (go_at_call 30; refine (valid_any _ _ _ _ f.a f.b f.c).mono ?_; rintro e w' ⟨rfl, hb⟩; clear x0 x1 x2 x3 x4 x5 x6 x7; replace T := Lib.hid (T.out.keep hb); replace B := Lib.hid (below_keep hb B.out); clear hb; obtain ⟨x0, x1, x2, x3, x4, x5, x6, x7⟩ := T.out)
              | (go_at_call 45; refine (validName_any _ _ f.s).mono ?_; rintro e w' ⟨rfl, rfl⟩)
              | (go_at_call 46; refine (validInstance_any _ _ f.i).mono ?_; rintro e w' ⟨rfl, rfl⟩)
              | (go_at_call 31; refine (kupTo_S9q _ _ _).mono ?_; rintro e w' ⟨rfl, rfl⟩))
            go_ret
            exact ⟨ret_int HC.out.symm, B.out⟩
          · skip
            have HC := Lib.hid (S9q.chk_ok (show S9q.q0 t = true by first | (simp [S9q.q0, S1.vInst, h0, h1, h2]; done) | (simp [S9q.q0, S1.vInst, h0, h1, h2]; omega)) (show S9q.q1 t = true by first | (simp [S9q.q1, h3, h4]; done) | (simp [S9q.q1, h3, h4]; omega)))
            go_enter Tryd.func27, Tryd.ntmps27
            go_wp2_with (first
              | (go_at_call 30; refine (valid_any _ _ _ _ f.a f.b f.c).mono ?_; rintro e w' ⟨rfl, hb⟩; clear x0 x1 x2 x3 x4 x5 x6 x7; replace T := Lib.hid (T.out.keep hb); replace B := Lib.hid (below_keep hb B.out); clear hb; obtain ⟨x0, x1, x2, x3, x4, x5, x6, x7⟩ := T.out)
              | (go_at_call 45; refine (validName_any _ _ f.s).mono ?_; rintro e w' ⟨rfl, rfl⟩)
              | (go_at_call 46; refine (validInstance_any _ _ f.i).mono ?_; rintro e w' ⟨rfl, rfl⟩)
              | (go_at_call 31; refine (kupTo_S9q _ _ _).mono ?_; rintro e w' ⟨rfl, rfl⟩))
            go_ret
            exact ⟨ret_int HC.out.symm, B.out⟩

def kptChk (t : S9p.Pt) (w : World) (e : Ending) (w' : World) : Prop := e = .returned (.int .i64 (S9p.chkE t)) ∧ Below w.heap.size w w'


def krpChk (t : S9r.Rp) (w : World) (e : Ending) (w' : World) : Prop := e = .returned (.int .i64 (S9r.chkE t)) ∧ Below w.heap.size w w'


def kerChk (t : S9e.Er) (w : World) (e : Ending) (w' : World) : Prop := e = .returned (.int .i64 (S9e.chkE t)) ∧ Below w.heap.size w w'

theorem ker_idx (s : ByteArray) : decide (0 ≤ Lib.indexByte s.data.toList 0) = !(S9e.nz s) := by
  rw [S1.idx_mem]
  unfold S9e.nz
  generalize s.data.toList = l
  induction l with
  | nil => rfl
  | cons b l ih =>
    rw [List.contains_cons, ih, List.all_cons, Bool.not_and]
    congr 1
    unfold S9e.nzB
    by_cases h : b = 0
    · rw [h]; rfl
    · have h1 : (0 == b) = false := by rw [beq_eq_false_iff_ne]; exact fun e => h e.symm
      have h2 : (b != 0) = true := by simpa using h
      rw [h1, h2]; rfl

set_option maxHeartbeats 6400000 in
theorem kercheck_any (t : S9e.Er) (f : t.Fit) (w : World) : Calls Tryd.prog 14 #[t.val] w (kerChk t w) := by
  have B := Lib.hid (show Below w.heap.size w (w.alloc (.cells (t.cells) 26)) from (Below.refl _ _).alloc (Nat.le_refl _) _)
  have T := Lib.hid (ErAt.new w t 26)
  unfold S9e.Er.val S9e.Er.cells
  unfold S9e.Er.cells at B T
  obtain ⟨x0, x1, x2, x3, x4, x5, x6⟩ := T.out
  rcases h0 : S1.vP t.a.data.toList t.b.data.toList t.c.data.toList
  · have HC := Lib.hid (S9e.chk_0 (show S9e.q0 t = false by first | (simp [S9e.q0, h0]; done) | (simp [S9e.q0, h0]; omega)))
    go_enter Tryd.func14, Tryd.ntmps14
    go_wp2_with (first
      | (go_at_call 30; refine (valid_any _ _ _ _ f.a f.b f.c).mono ?_; rintro e w' ⟨rfl, hb⟩; clear x0 x1 x2 x3 x4 x5 x6; replace T := Lib.hid (T.out.keep hb); replace B := Lib.hid (below_keep hb B.out); clear hb; obtain ⟨x0, x1, x2, x3, x4, x5, x6⟩ := T.out)
      | (go_at_call 32; refine (Tryd.strings_Contains_one _ 0 _).mono ?_; rintro e w' ⟨rfl, rfl⟩)
      | (go_at_call 31; refine (kupTo_S9e _ _ _).mono ?_; rintro e w' ⟨rfl, rfl⟩))
    go_ret
    exact ⟨ret_int HC.out.symm, B.out⟩
  · skip
    rcases h1 : S9e.win t.tm 4294967295
    · have HC := Lib.hid (S9e.chk_1 (show S9e.q0 t = true by first | (simp [S9e.q0, h0]; done) | (simp [S9e.q0, h0]; omega)) (show S9e.q1 t = false by first | (simp [S9e.q1, h1]; done) | (simp [S9e.q1, h1]; omega)))
      go_enter Tryd.func14, Tryd.ntmps14
      go_wp2_with (first
        | (go_at_call 30; refine (valid_any _ _ _ _ f.a f.b f.c).mono ?_; rintro e w' ⟨rfl, hb⟩; clear x0 x1 x2 x3 x4 x5 x6; replace T := Lib.hid (T.out.keep hb); replace B := Lib.hid (below_keep hb B.out); clear hb; obtain ⟨x0, x1, x2, x3, x4, x5, x6⟩ := T.out)
        | (go_at_call 32; refine (Tryd.strings_Contains_one _ 0 _).mono ?_; rintro e w' ⟨rfl, rfl⟩)
        | (go_at_call 31; refine (kupTo_S9e _ _ _).mono ?_; rintro e w' ⟨rfl, rfl⟩))
      go_ret
      exact ⟨ret_int HC.out.symm, B.out⟩
    · skip
      rcases (show t.co < 1 ∨ 1 ≤ t.co by omega) with h2 | h2
      · have HC := Lib.hid (S9e.chk_1 (show S9e.q0 t = true by first | (simp [S9e.q0, h0]; done) | (simp [S9e.q0, h0]; omega)) (show S9e.q1 t = false by first | (simp [S9e.q1, h1, h2]; done) | (simp [S9e.q1, h1, h2]; omega)))
        go_enter Tryd.func14, Tryd.ntmps14
        go_wp2_with (first
          | (go_at_call 30; refine (valid_any _ _ _ _ f.a f.b f.c).mono ?_; rintro e w' ⟨rfl, hb⟩; clear x0 x1 x2 x3 x4 x5 x6; replace T := Lib.hid (T.out.keep hb); replace B := Lib.hid (below_keep hb B.out); clear hb; obtain ⟨x0, x1, x2, x3, x4, x5, x6⟩ := T.out)
          | (go_at_call 32; refine (Tryd.strings_Contains_one _ 0 _).mono ?_; rintro e w' ⟨rfl, rfl⟩)
          | (go_at_call 31; refine (kupTo_S9e _ _ _).mono ?_; rintro e w' ⟨rfl, rfl⟩))
        go_ret
        exact ⟨ret_int HC.out.symm, B.out⟩
      · skip
        rcases (show 99 < t.co ∨ t.co ≤ 99 by omega) with h3 | h3
        · have HC := Lib.hid (S9e.chk_1 (show S9e.q0 t = true by first | (simp [S9e.q0, h0]; done) | (simp [S9e.q0, h0]; omega)) (show S9e.q1 t = false by first | (simp [S9e.q1, h1, h2, h3]; done) | (simp [S9e.q1, h1, h2, h3]; omega)))
          go_enter Tryd.func14, Tryd.ntmps14
          go_wp2_with (first
            | (go_at_call 30; refine (valid_any _ _ _ _ f.a f.b f.c).mono ?_; rintro e w' ⟨rfl, hb⟩; clear x0 x1 x2 x3 x4 x5 x6; replace T := Lib.hid (T.out.keep hb); replace B := Lib.hid (below_keep hb B.out); clear hb; obtain ⟨x0, x1, x2, x3, x4, x5, x6⟩ := T.out)
            | (go_at_call 32; refine (Tryd.strings_Contains_one _ 0 _).mono ?_; rintro e w' ⟨rfl, rfl⟩)
            | (go_at_call 31; refine (kupTo_S9e _ _ _).mono ?_; rintro e w' ⟨rfl, rfl⟩))
          go_ret
          exact ⟨ret_int HC.out.symm, B.out⟩
        · skip
          rcases (show 39 < (t.s.size : Int) ∨ (t.s.size : Int) ≤ 39 by omega) with h4 | h4
          · have HC := Lib.hid (S9e.chk_2 (show S9e.q0 t = true by first | (simp [S9e.q0, h0]; done) | (simp [S9e.q0, h0]; omega)) (show S9e.q1 t = true by first | (simp [S9e.q1, h1, h2, h3]; done) | (simp [S9e.q1, h1, h2, h3]; omega)) (show S9e.q2 t = false from decide_eq_false (by omega)))
            go_enter Tryd.func14, Tryd.ntmps14
            go_wp2_with (first
              | (go_at_call 30; refine (valid_any _ _ _ _ f.a f.b f.c).mono ?_; rintro e w' ⟨rfl, hb⟩; clear x0 x1 x2 x3 x4 x5 x6; replace T := Lib.hid (T.out.keep hb); replace B := Lib.hid (below_keep hb B.out); clear hb; obtain ⟨x0, x1, x2, x3, x4, x5, x6⟩ := T.out)
              | (go_at_call 32; refine (Tryd.strings_Contains_one _ 0 _).mono ?_; rintro e w' ⟨rfl, rfl⟩)
              | (go_at_call 31; refine (kupTo_S9e _ _ _).mono ?_; rintro e w' ⟨rfl, rfl⟩))
            go_ret
            exact ⟨ret_int HC.out.symm, B.out⟩
          · skip
            rcases h5 : S9e.nz t.s
            · have HC := Lib.hid (S9e.chk_3 (show S9e.q0 t = true by first | (simp [S9e.q0, h0]; done) | (simp [S9e.q0, h0]; omega)) (show S9e.q1 t = true by first | (simp [S9e.q1, h1, h2, h3]; done) | (simp [S9e.q1, h1, h2, h3]; omega)) (show S9e.q2 t = true from decide_eq_true (by omega)) (show S9e.q3 t = false by first | (simp [S9e.q3, h5]; done) | (simp [S9e.q3, h5]; omega)))
              have hz5 : decide (0 ≤ Lib.indexByte t.s.data.toList 0) = true := by rw [ker_idx, h5]; rfl
              go_enter Tryd.func14, Tryd.ntmps14
              go_wp2_with (first
                | (go_at_call 30; refine (valid_any _ _ _ _ f.a f.b f.c).mono ?_; rintro e w' ⟨rfl, hb⟩; clear x0 x1 x2 x3 x4 x5 x6; replace T := Lib.hid (T.out.keep hb); replace B := Lib.hid (below_keep hb B.out); clear hb; obtain ⟨x0, x1, x2, x3, x4, x5, x6⟩ := T.out)
                | (go_at_call 32; refine (Tryd.strings_Contains_one _ 0 _).mono ?_; rintro e w' ⟨rfl, rfl⟩)
                | (go_at_call 31; refine (kupTo_S9e _ _ _).mono ?_; rintro e w' ⟨rfl, rfl⟩))
              go_ret
              exact ⟨ret_int HC.out.symm, B.out⟩
            · skip
              have HC := Lib.hid (S9e.chk_ok (show S9e.q0 t = true by first | (simp [S9e.q0, h0]; done) | (simp [S9e.q0, h0]; omega)) (show S9e.q1 t = true by first | (simp [S9e.q1, h1, h2, h3]; done) | (simp [S9e.q1, h1, h2, h3]; omega)) (show S9e.q2 t = true from decide_eq_true (by omega)) (show S9e.q3 t = true by first | (simp [S9e.q3, h5]; done) | (simp [S9e.q3, h5]; omega)))
              have hz5 : decide (0 ≤ Lib.indexByte t.s.data.toList 0) = false := by rw [ker_idx, h5]; rfl
              go_enter Tryd.func14, Tryd.ntmps14
              go_wp2_with (first
                | (go_at_call 30; refine (valid_any _ _ _ _ f.a f.b f.c).mono ?_; rintro e w' ⟨rfl, hb⟩; clear x0 x1 x2 x3 x4 x5 x6; replace T := Lib.hid (T.out.keep hb); replace B := Lib.hid (below_keep hb B.out); clear hb; obtain ⟨x0, x1, x2, x3, x4, x5, x6⟩ := T.out)
                | (go_at_call 32; refine (Tryd.strings_Contains_one _ 0 _).mono ?_; rintro e w' ⟨rfl, rfl⟩)
                | (go_at_call 31; refine (kupTo_S9e _ _ _).mono ?_; rintro e w' ⟨rfl, rfl⟩))
              go_ret
              exact ⟨ret_int HC.out.symm, B.out⟩

end Go.Proofs.YtkhkmgblgonfoaaDoor
