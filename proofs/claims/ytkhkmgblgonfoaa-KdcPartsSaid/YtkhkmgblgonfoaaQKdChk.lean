/-
  What the checks of package kdcmessage return.
-/
import Derived.Test.YtkhkmgblgonfoaaQRqD
import Derived.Test.YtkhkmgblgonfoaaQPrinA
import Derived.Test.YtkhkmgblgonfoaaQKeyA
namespace Go.Proofs.Ytkhkmgblgonfoaa
open Go.RowKit
set_option maxRecDepth 100000

theorem kupTo_S9q (n m : Int) (w : World) : Calls Try.prog 65 #[.int .i64 n, .int .i64 m] w fun e w' => e = .returned (.bool (S9q.win n m)) ∧ w = w' := by
  by_cases h : 0 ≤ n
  · go_enter Try.func65, Try.ntmps65
    go_wp2
    go_ret
    exact ⟨ret_bool (by simp [S9q.win, h]), rfl⟩
  · have hn : n < 0 := by omega
    go_enter Try.func65, Try.ntmps65
    go_wp2
    go_ret
    exact ⟨ret_bool (by simp [S9q.win]; omega), rfl⟩

theorem kupTo_S9p (n m : Int) (w : World) : Calls Try.prog 65 #[.int .i64 n, .int .i64 m] w fun e w' => e = .returned (.bool (S9p.win n m)) ∧ w = w' := by
  by_cases h : 0 ≤ n
  · go_enter Try.func65, Try.ntmps65
    go_wp2
    go_ret
    exact ⟨ret_bool (by simp [S9p.win, h]), rfl⟩
  · have hn : n < 0 := by omega
    go_enter Try.func65, Try.ntmps65
    go_wp2
    go_ret
    exact ⟨ret_bool (by simp [S9p.win]; omega), rfl⟩

theorem kupTo_S9r (n m : Int) (w : World) : Calls Try.prog 65 #[.int .i64 n, .int .i64 m] w fun e w' => e = .returned (.bool (S9r.win n m)) ∧ w = w' := by
  by_cases h : 0 ≤ n
  · go_enter Try.func65, Try.ntmps65
    go_wp2
    go_ret
    exact ⟨ret_bool (by simp [S9r.win, h]), rfl⟩
  · have hn : n < 0 := by omega
    go_enter Try.func65, Try.ntmps65
    go_wp2
    go_ret
    exact ⟨ret_bool (by simp [S9r.win]; omega), rfl⟩

theorem kupTo_S9e (n m : Int) (w : World) : Calls Try.prog 65 #[.int .i64 n, .int .i64 m] w fun e w' => e = .returned (.bool (S9e.win n m)) ∧ w = w' := by
  by_cases h : 0 ≤ n
  · go_enter Try.func65, Try.ntmps65
    go_wp2
    go_ret
    exact ⟨ret_bool (by simp [S9e.win, h]), rfl⟩
  · have hn : n < 0 := by omega
    go_enter Try.func65, Try.ntmps65
    go_wp2
    go_ret
    exact ⟨ret_bool (by simp [S9e.win]; omega), rfl⟩

def krqChk (t : S9q.Rq) (w : World) (e : Ending) (w' : World) : Prop := e = .returned (.int .i64 (S9q.chkE t)) ∧ Below w.heap.size w w'

set_option maxHeartbeats 6400000 in
theorem krqcheck_any (t : S9q.Rq) (f : t.Fit) (w : World) : Calls Try.prog 24 #[t.val] w (krqChk t w) := by
  have B := Lib.hid (show Below w.heap.size w (w.alloc (.cells (t.cells) 25)) from (Below.refl _ _).alloc (Nat.le_refl _) _)
  have T := Lib.hid (RqAt.new w t 25)
  unfold S9q.Rq.val S9q.Rq.cells
  unfold S9q.Rq.cells at B T
  obtain ⟨x0, x1, x2, x3, x4, x5, x6, x7⟩ := T.out
  rcases h0 : S1.vP t.a.data.toList t.b.data.toList t.c.data.toList
  · have HC := Lib.hid (S9q.chk_0 (show S9q.q0 t = false by first | (simp [S9q.q0, S1.vInst, h0]; done) | (simp [S9q.q0, S1.vInst, h0]; omega)))
    go_enter Try.func24, Try.ntmps24
    go_wp2_with (first
      | (go_at_call 62; refine (valid_any _ _ _ _ f.a f.b f.c).mono ?_; rintro e w' ⟨rfl, hb⟩; clear x0 x1 x2 x3 x4 x5 x6 x7; replace T := Lib.hid (T.out.keep hb); replace B := Lib.hid (below_keep hb B.out); clear hb; obtain ⟨x0, x1, x2, x3, x4, x5, x6, x7⟩ := T.out)
      | (go_at_call 63; refine (validName_any _ _ f.s).mono ?_; rintro e w' ⟨rfl, rfl⟩)
      | (go_at_call 64; refine (validInstance_any _ _ f.i).mono ?_; rintro e w' ⟨rfl, rfl⟩)
      | (go_at_call 65; refine (kupTo_S9q _ _ _).mono ?_; rintro e w' ⟨rfl, rfl⟩))
    go_ret
    exact ⟨ret_int HC.out.symm, B.out⟩
  · skip
    rcases h1 : S1.vName t.s.data.toList
    · have HC := Lib.hid (S9q.chk_0 (show S9q.q0 t = false by first | (simp [S9q.q0, S1.vInst, h0, h1]; done) | (simp [S9q.q0, S1.vInst, h0, h1]; omega)))
      go_enter Try.func24, Try.ntmps24
      go_wp2_with (first
        | (go_at_call 62; refine (valid_any _ _ _ _ f.a f.b f.c).mono ?_; rintro e w' ⟨rfl, hb⟩; clear x0 x1 x2 x3 x4 x5 x6 x7; replace T := Lib.hid (T.out.keep hb); replace B := Lib.hid (below_keep hb B.out); clear hb; obtain ⟨x0, x1, x2, x3, x4, x5, x6, x7⟩ := T.out)
        | (go_at_call 63; refine (validName_any _ _ f.s).mono ?_; rintro e w' ⟨rfl, rfl⟩)
        | (go_at_call 64; refine (validInstance_any _ _ f.i).mono ?_; rintro e w' ⟨rfl, rfl⟩)
        | (go_at_call 65; refine (kupTo_S9q _ _ _).mono ?_; rintro e w' ⟨rfl, rfl⟩))
      go_ret
      exact ⟨ret_int HC.out.symm, B.out⟩
    · skip
      rcases h2 : S1.text [64] t.i.data.toList
      · have HC := Lib.hid (S9q.chk_0 (show S9q.q0 t = false by first | (simp [S9q.q0, S1.vInst, h0, h1, h2]; done) | (simp [S9q.q0, S1.vInst, h0, h1, h2]; omega)))
        go_enter Try.func24, Try.ntmps24
        go_wp2_with (first
          | (go_at_call 62; refine (valid_any _ _ _ _ f.a f.b f.c).mono ?_; rintro e w' ⟨rfl, hb⟩; clear x0 x1 x2 x3 x4 x5 x6 x7; replace T := Lib.hid (T.out.keep hb); replace B := Lib.hid (below_keep hb B.out); clear hb; obtain ⟨x0, x1, x2, x3, x4, x5, x6, x7⟩ := T.out)
          | (go_at_call 63; refine (validName_any _ _ f.s).mono ?_; rintro e w' ⟨rfl, rfl⟩)
          | (go_at_call 64; refine (validInstance_any _ _ f.i).mono ?_; rintro e w' ⟨rfl, rfl⟩)
          | (go_at_call 65; refine (kupTo_S9q _ _ _).mono ?_; rintro e w' ⟨rfl, rfl⟩))
        go_ret
        exact ⟨ret_int HC.out.symm, B.out⟩
      · skip
        rcases h3 : S9q.win t.tm 4294967295
        · have HC := Lib.hid (S9q.chk_1 (show S9q.q0 t = true by first | (simp [S9q.q0, S1.vInst, h0, h1, h2]; done) | (simp [S9q.q0, S1.vInst, h0, h1, h2]; omega)) (show S9q.q1 t = false by first | (simp [S9q.q1, h3]; done) | (simp [S9q.q1, h3]; omega)))
          go_enter Try.func24, Try.ntmps24
          go_wp2_with (first
            | (go_at_call 62; refine (valid_any _ _ _ _ f.a f.b f.c).mono ?_; rintro e w' ⟨rfl, hb⟩; clear x0 x1 x2 x3 x4 x5 x6 x7; replace T := Lib.hid (T.out.keep hb); replace B := Lib.hid (below_keep hb B.out); clear hb; obtain ⟨x0, x1, x2, x3, x4, x5, x6, x7⟩ := T.out)
            | (go_at_call 63; refine (validName_any _ _ f.s).mono ?_; rintro e w' ⟨rfl, rfl⟩)
            | (go_at_call 64; refine (validInstance_any _ _ f.i).mono ?_; rintro e w' ⟨rfl, rfl⟩)
            | (go_at_call 65; refine (kupTo_S9q _ _ _).mono ?_; rintro e w' ⟨rfl, rfl⟩))
          go_ret
          exact ⟨ret_int HC.out.symm, B.out⟩
        · skip
          rcases h4 : S9q.win t.li 255
          · have HC := Lib.hid (S9q.chk_1 (show S9q.q0 t = true by first | (simp [S9q.q0, S1.vInst, h0, h1, h2]; done) | (simp [S9q.q0, S1.vInst, h0, h1, h2]; omega)) (show S9q.q1 t = false by first | (simp [S9q.q1, h3, h4]; done) | (simp [S9q.q1, h3, h4]; omega)))
            go_enter Try.func24, Try.ntmps24
            go_wp2_with (first
              | (go_at_call 62; refine (valid_any _ _ _ _ f.a f.b f.c).mono ?_; rintro e w' ⟨rfl, hb⟩; clear x0 x1 x2 x3 x4 x5 x6 x7; replace T := Lib.hid (T.out.keep hb); replace B := Lib.hid (below_keep hb B.out); clear hb; obtain ⟨x0, x1, x2, x3, x4, x5, x6, x7⟩ := T.out)
              | (go_at_call 63; refine (validName_any _ _ f.s).mono ?_; rintro e w' ⟨rfl, rfl⟩)
              | (go_at_call 64; refine (validInstance_any _ _ f.i).mono ?_; rintro e w' ⟨rfl, rfl⟩)
              | (go_at_call 65; refine (kupTo_S9q _ _ _).mono ?_; rintro e w' ⟨rfl, rfl⟩))
            go_ret
            exact ⟨ret_int HC.out.symm, B.out⟩
          · skip
            have HC := Lib.hid (S9q.chk_ok (show S9q.q0 t = true by first | (simp [S9q.q0, S1.vInst, h0, h1, h2]; done) | (simp [S9q.q0, S1.vInst, h0, h1, h2]; omega)) (show S9q.q1 t = true by first | (simp [S9q.q1, h3, h4]; done) | (simp [S9q.q1, h3, h4]; omega)))
            go_enter Try.func24, Try.ntmps24
            go_wp2_with (first
              | (go_at_call 62; refine (valid_any _ _ _ _ f.a f.b f.c).mono ?_; rintro e w' ⟨rfl, hb⟩; clear x0 x1 x2 x3 x4 x5 x6 x7; replace T := Lib.hid (T.out.keep hb); replace B := Lib.hid (below_keep hb B.out); clear hb; obtain ⟨x0, x1, x2, x3, x4, x5, x6, x7⟩ := T.out)
              | (go_at_call 63; refine (validName_any _ _ f.s).mono ?_; rintro e w' ⟨rfl, rfl⟩)
              | (go_at_call 64; refine (validInstance_any _ _ f.i).mono ?_; rintro e w' ⟨rfl, rfl⟩)
              | (go_at_call 65; refine (kupTo_S9q _ _ _).mono ?_; rintro e w' ⟨rfl, rfl⟩))
            go_ret
            exact ⟨ret_int HC.out.symm, B.out⟩

def kptChk (t : S9p.Pt) (w : World) (e : Ending) (w' : World) : Prop := e = .returned (.int .i64 (S9p.chkE t)) ∧ Below w.heap.size w w'

set_option maxHeartbeats 6400000 in
theorem kptcheck_any (t : S9p.Pt) (A : Option Addr) (n cap : Nat) (f : t.Fit) (w : World) (hl : t.z.length = n) : Calls Try.prog 41 #[(t.val A n cap)] w (kptChk t w) := by
  have B := Lib.hid (show Below w.heap.size w (w.alloc (.cells (t.cells A n cap) 40)) from (Below.refl _ _).alloc (Nat.le_refl _) _)
  have T := Lib.hid (PtAt.new w t A n cap 40)
  unfold S9p.Pt.val S9p.Pt.cells
  unfold S9p.Pt.cells at B T
  obtain ⟨x0, x1, x2, x3, x4, x5, x6, x7⟩ := T.out
  rcases h0 : S3.vk t.k
  · have HC := Lib.hid (S9p.chk_0 (show S9p.q0 t = false by first | (simp [S9p.q0, h0]; done) | (simp [S9p.q0, h0]; omega)))
    go_enter Try.func41, Try.ntmps41
    go_wp2_with (first
      | (go_at_call 78; refine (kvalid_any _ _ f.k.1 f.k.2).mono ?_; rintro e w' ⟨rfl, rfl⟩)
      | (go_at_call 62; refine (valid_any _ _ _ _ f.a f.b f.c).mono ?_; rintro e w' ⟨rfl, hb⟩; clear x0 x1 x2 x3 x4 x5 x6 x7; replace T := Lib.hid (T.out.keep hb); replace B := Lib.hid (below_keep hb B.out); clear hb; obtain ⟨x0, x1, x2, x3, x4, x5, x6, x7⟩ := T.out)
      | (go_at_call 65; refine (kupTo_S9p _ _ _).mono ?_; rintro e w' ⟨rfl, rfl⟩))
    go_ret
    exact ⟨ret_int HC.out.symm, B.out⟩
  · skip
    rcases h1 : S1.vP t.a.data.toList t.b.data.toList t.c.data.toList
    · have HC := Lib.hid (S9p.chk_1 (show S9p.q0 t = true by first | (simp [S9p.q0, h0]; done) | (simp [S9p.q0, h0]; omega)) (show S9p.q1 t = false by first | (simp [S9p.q1, h1]; done) | (simp [S9p.q1, h1]; omega)))
      go_enter Try.func41, Try.ntmps41
      go_wp2_with (first
        | (go_at_call 78; refine (kvalid_any _ _ f.k.1 f.k.2).mono ?_; rintro e w' ⟨rfl, rfl⟩)
        | (go_at_call 62; refine (valid_any _ _ _ _ f.a f.b f.c).mono ?_; rintro e w' ⟨rfl, hb⟩; clear x0 x1 x2 x3 x4 x5 x6 x7; replace T := Lib.hid (T.out.keep hb); replace B := Lib.hid (below_keep hb B.out); clear hb; obtain ⟨x0, x1, x2, x3, x4, x5, x6, x7⟩ := T.out)
        | (go_at_call 65; refine (kupTo_S9p _ _ _).mono ?_; rintro e w' ⟨rfl, rfl⟩))
      go_ret
      exact ⟨ret_int HC.out.symm, B.out⟩
    · skip
      rcases h2 : S9p.win t.li 255
      · have HC := Lib.hid (S9p.chk_2 (show S9p.q0 t = true by first | (simp [S9p.q0, h0]; done) | (simp [S9p.q0, h0]; omega)) (show S9p.q1 t = true by first | (simp [S9p.q1, h1]; done) | (simp [S9p.q1, h1]; omega)) (show S9p.q2 t = false by first | (simp [S9p.q2, h2]; done) | (simp [S9p.q2, h2]; omega)))
        go_enter Try.func41, Try.ntmps41
        go_wp2_with (first
          | (go_at_call 78; refine (kvalid_any _ _ f.k.1 f.k.2).mono ?_; rintro e w' ⟨rfl, rfl⟩)
          | (go_at_call 62; refine (valid_any _ _ _ _ f.a f.b f.c).mono ?_; rintro e w' ⟨rfl, hb⟩; clear x0 x1 x2 x3 x4 x5 x6 x7; replace T := Lib.hid (T.out.keep hb); replace B := Lib.hid (below_keep hb B.out); clear hb; obtain ⟨x0, x1, x2, x3, x4, x5, x6, x7⟩ := T.out)
          | (go_at_call 65; refine (kupTo_S9p _ _ _).mono ?_; rintro e w' ⟨rfl, rfl⟩))
        go_ret
        exact ⟨ret_int HC.out.symm, B.out⟩
      · skip
        rcases h3 : S9p.win t.kv 255
        · have HC := Lib.hid (S9p.chk_2 (show S9p.q0 t = true by first | (simp [S9p.q0, h0]; done) | (simp [S9p.q0, h0]; omega)) (show S9p.q1 t = true by first | (simp [S9p.q1, h1]; done) | (simp [S9p.q1, h1]; omega)) (show S9p.q2 t = false by first | (simp [S9p.q2, h2, h3]; done) | (simp [S9p.q2, h2, h3]; omega)))
          go_enter Try.func41, Try.ntmps41
          go_wp2_with (first
            | (go_at_call 78; refine (kvalid_any _ _ f.k.1 f.k.2).mono ?_; rintro e w' ⟨rfl, rfl⟩)
            | (go_at_call 62; refine (valid_any _ _ _ _ f.a f.b f.c).mono ?_; rintro e w' ⟨rfl, hb⟩; clear x0 x1 x2 x3 x4 x5 x6 x7; replace T := Lib.hid (T.out.keep hb); replace B := Lib.hid (below_keep hb B.out); clear hb; obtain ⟨x0, x1, x2, x3, x4, x5, x6, x7⟩ := T.out)
            | (go_at_call 65; refine (kupTo_S9p _ _ _).mono ?_; rintro e w' ⟨rfl, rfl⟩))
          go_ret
          exact ⟨ret_int HC.out.symm, B.out⟩
        · skip
          rcases h4 : S9p.win t.tm 4294967295
          · have HC := Lib.hid (S9p.chk_2 (show S9p.q0 t = true by first | (simp [S9p.q0, h0]; done) | (simp [S9p.q0, h0]; omega)) (show S9p.q1 t = true by first | (simp [S9p.q1, h1]; done) | (simp [S9p.q1, h1]; omega)) (show S9p.q2 t = false by first | (simp [S9p.q2, h2, h3, h4]; done) | (simp [S9p.q2, h2, h3, h4]; omega)))
            go_enter Try.func41, Try.ntmps41
            go_wp2_with (first
              | (go_at_call 78; refine (kvalid_any _ _ f.k.1 f.k.2).mono ?_; rintro e w' ⟨rfl, rfl⟩)
              | (go_at_call 62; refine (valid_any _ _ _ _ f.a f.b f.c).mono ?_; rintro e w' ⟨rfl, hb⟩; clear x0 x1 x2 x3 x4 x5 x6 x7; replace T := Lib.hid (T.out.keep hb); replace B := Lib.hid (below_keep hb B.out); clear hb; obtain ⟨x0, x1, x2, x3, x4, x5, x6, x7⟩ := T.out)
              | (go_at_call 65; refine (kupTo_S9p _ _ _).mono ?_; rintro e w' ⟨rfl, rfl⟩))
            go_ret
            exact ⟨ret_int HC.out.symm, B.out⟩
          · skip
            rcases (show 255 < (n : Int) ∨ (n : Int) ≤ 255 by omega) with h5 | h5
            · have HC := Lib.hid (S9p.chk_3 (show S9p.q0 t = true by first | (simp [S9p.q0, h0]; done) | (simp [S9p.q0, h0]; omega)) (show S9p.q1 t = true by first | (simp [S9p.q1, h1]; done) | (simp [S9p.q1, h1]; omega)) (show S9p.q2 t = true by first | (simp [S9p.q2, h2, h3, h4]; done) | (simp [S9p.q2, h2, h3, h4]; omega)) (show S9p.q3 t = false from decide_eq_false (by omega)))
              go_enter Try.func41, Try.ntmps41
              go_wp2_with (first
                | (go_at_call 78; refine (kvalid_any _ _ f.k.1 f.k.2).mono ?_; rintro e w' ⟨rfl, rfl⟩)
                | (go_at_call 62; refine (valid_any _ _ _ _ f.a f.b f.c).mono ?_; rintro e w' ⟨rfl, hb⟩; clear x0 x1 x2 x3 x4 x5 x6 x7; replace T := Lib.hid (T.out.keep hb); replace B := Lib.hid (below_keep hb B.out); clear hb; obtain ⟨x0, x1, x2, x3, x4, x5, x6, x7⟩ := T.out)
                | (go_at_call 65; refine (kupTo_S9p _ _ _).mono ?_; rintro e w' ⟨rfl, rfl⟩))
              go_ret
              exact ⟨ret_int HC.out.symm, B.out⟩
            · skip
              have HC := Lib.hid (S9p.chk_ok (show S9p.q0 t = true by first | (simp [S9p.q0, h0]; done) | (simp [S9p.q0, h0]; omega)) (show S9p.q1 t = true by first | (simp [S9p.q1, h1]; done) | (simp [S9p.q1, h1]; omega)) (show S9p.q2 t = true by first | (simp [S9p.q2, h2, h3, h4]; done) | (simp [S9p.q2, h2, h3, h4]; omega)) (show S9p.q3 t = true from decide_eq_true (by omega)))
              go_enter Try.func41, Try.ntmps41
              go_wp2_with (first
                | (go_at_call 78; refine (kvalid_any _ _ f.k.1 f.k.2).mono ?_; rintro e w' ⟨rfl, rfl⟩)
                | (go_at_call 62; refine (valid_any _ _ _ _ f.a f.b f.c).mono ?_; rintro e w' ⟨rfl, hb⟩; clear x0 x1 x2 x3 x4 x5 x6 x7; replace T := Lib.hid (T.out.keep hb); replace B := Lib.hid (below_keep hb B.out); clear hb; obtain ⟨x0, x1, x2, x3, x4, x5, x6, x7⟩ := T.out)
                | (go_at_call 65; refine (kupTo_S9p _ _ _).mono ?_; rintro e w' ⟨rfl, rfl⟩))
              go_ret
              exact ⟨ret_int HC.out.symm, B.out⟩

def krpChk (t : S9r.Rp) (w : World) (e : Ending) (w' : World) : Prop := e = .returned (.int .i64 (S9r.chkE t)) ∧ Below w.heap.size w w'

set_option maxHeartbeats 6400000 in
theorem krpcheck_any (t : S9r.Rp) (A : Option Addr) (n cap : Nat) (f : t.Fit) (w : World) (hl : t.z.length = n) : Calls Try.prog 52 #[(t.val A n cap)] w (krpChk t w) := by
  have B := Lib.hid (show Below w.heap.size w (w.alloc (.cells (t.cells A n cap) 49)) from (Below.refl _ _).alloc (Nat.le_refl _) _)
  have T := Lib.hid (RpAt.new w t A n cap 49)
  unfold S9r.Rp.val S9r.Rp.cells
  unfold S9r.Rp.cells at B T
  obtain ⟨x0, x1, x2, x3, x4, x5, x6, x7⟩ := T.out
  rcases h0 : S1.vP t.a.data.toList t.b.data.toList t.c.data.toList
  · have HC := Lib.hid (S9r.chk_0 (show S9r.q0 t = false by first | (simp [S9r.q0, h0]; done) | (simp [S9r.q0, h0]; omega)))
    go_enter Try.func52, Try.ntmps52
    go_wp2_with (first
      | (go_at_call 62; refine (valid_any _ _ _ _ f.a f.b f.c).mono ?_; rintro e w' ⟨rfl, hb⟩; clear x0 x1 x2 x3 x4 x5 x6 x7; replace T := Lib.hid (T.out.keep hb); replace B := Lib.hid (below_keep hb B.out); clear hb; obtain ⟨x0, x1, x2, x3, x4, x5, x6, x7⟩ := T.out)
      | (go_at_call 65; refine (kupTo_S9r _ _ _).mono ?_; rintro e w' ⟨rfl, rfl⟩))
    go_ret
    exact ⟨ret_int HC.out.symm, B.out⟩
  · skip
    rcases h1 : S9r.win t.tm 4294967295
    · have HC := Lib.hid (S9r.chk_1 (show S9r.q0 t = true by first | (simp [S9r.q0, h0]; done) | (simp [S9r.q0, h0]; omega)) (show S9r.q1 t = false by first | (simp [S9r.q1, h1]; done) | (simp [S9r.q1, h1]; omega)))
      go_enter Try.func52, Try.ntmps52
      go_wp2_with (first
        | (go_at_call 62; refine (valid_any _ _ _ _ f.a f.b f.c).mono ?_; rintro e w' ⟨rfl, hb⟩; clear x0 x1 x2 x3 x4 x5 x6 x7; replace T := Lib.hid (T.out.keep hb); replace B := Lib.hid (below_keep hb B.out); clear hb; obtain ⟨x0, x1, x2, x3, x4, x5, x6, x7⟩ := T.out)
        | (go_at_call 65; refine (kupTo_S9r _ _ _).mono ?_; rintro e w' ⟨rfl, rfl⟩))
      go_ret
      exact ⟨ret_int HC.out.symm, B.out⟩
    · skip
      rcases h2 : S9r.win t.ex 4294967295
      · have HC := Lib.hid (S9r.chk_1 (show S9r.q0 t = true by first | (simp [S9r.q0, h0]; done) | (simp [S9r.q0, h0]; omega)) (show S9r.q1 t = false by first | (simp [S9r.q1, h1, h2]; done) | (simp [S9r.q1, h1, h2]; omega)))
        go_enter Try.func52, Try.ntmps52
        go_wp2_with (first
          | (go_at_call 62; refine (valid_any _ _ _ _ f.a f.b f.c).mono ?_; rintro e w' ⟨rfl, hb⟩; clear x0 x1 x2 x3 x4 x5 x6 x7; replace T := Lib.hid (T.out.keep hb); replace B := Lib.hid (below_keep hb B.out); clear hb; obtain ⟨x0, x1, x2, x3, x4, x5, x6, x7⟩ := T.out)
          | (go_at_call 65; refine (kupTo_S9r _ _ _).mono ?_; rintro e w' ⟨rfl, rfl⟩))
        go_ret
        exact ⟨ret_int HC.out.symm, B.out⟩
      · skip
        rcases h3 : S9r.win t.kv 255
        · have HC := Lib.hid (S9r.chk_1 (show S9r.q0 t = true by first | (simp [S9r.q0, h0]; done) | (simp [S9r.q0, h0]; omega)) (show S9r.q1 t = false by first | (simp [S9r.q1, h1, h2, h3]; done) | (simp [S9r.q1, h1, h2, h3]; omega)))
          go_enter Try.func52, Try.ntmps52
          go_wp2_with (first
            | (go_at_call 62; refine (valid_any _ _ _ _ f.a f.b f.c).mono ?_; rintro e w' ⟨rfl, hb⟩; clear x0 x1 x2 x3 x4 x5 x6 x7; replace T := Lib.hid (T.out.keep hb); replace B := Lib.hid (below_keep hb B.out); clear hb; obtain ⟨x0, x1, x2, x3, x4, x5, x6, x7⟩ := T.out)
            | (go_at_call 65; refine (kupTo_S9r _ _ _).mono ?_; rintro e w' ⟨rfl, rfl⟩))
          go_ret
          exact ⟨ret_int HC.out.symm, B.out⟩
        · skip
          rcases (show 1012 < (n : Int) ∨ (n : Int) ≤ 1012 by omega) with h4 | h4
          · have HC := Lib.hid (S9r.chk_2 (show S9r.q0 t = true by first | (simp [S9r.q0, h0]; done) | (simp [S9r.q0, h0]; omega)) (show S9r.q1 t = true by first | (simp [S9r.q1, h1, h2, h3]; done) | (simp [S9r.q1, h1, h2, h3]; omega)) (show S9r.q2 t = false from decide_eq_false (by omega)))
            go_enter Try.func52, Try.ntmps52
            go_wp2_with (first
              | (go_at_call 62; refine (valid_any _ _ _ _ f.a f.b f.c).mono ?_; rintro e w' ⟨rfl, hb⟩; clear x0 x1 x2 x3 x4 x5 x6 x7; replace T := Lib.hid (T.out.keep hb); replace B := Lib.hid (below_keep hb B.out); clear hb; obtain ⟨x0, x1, x2, x3, x4, x5, x6, x7⟩ := T.out)
              | (go_at_call 65; refine (kupTo_S9r _ _ _).mono ?_; rintro e w' ⟨rfl, rfl⟩))
            go_ret
            exact ⟨ret_int HC.out.symm, B.out⟩
          · skip
            have HC := Lib.hid (S9r.chk_ok (show S9r.q0 t = true by first | (simp [S9r.q0, h0]; done) | (simp [S9r.q0, h0]; omega)) (show S9r.q1 t = true by first | (simp [S9r.q1, h1, h2, h3]; done) | (simp [S9r.q1, h1, h2, h3]; omega)) (show S9r.q2 t = true from decide_eq_true (by omega)))
            go_enter Try.func52, Try.ntmps52
            go_wp2_with (first
              | (go_at_call 62; refine (valid_any _ _ _ _ f.a f.b f.c).mono ?_; rintro e w' ⟨rfl, hb⟩; clear x0 x1 x2 x3 x4 x5 x6 x7; replace T := Lib.hid (T.out.keep hb); replace B := Lib.hid (below_keep hb B.out); clear hb; obtain ⟨x0, x1, x2, x3, x4, x5, x6, x7⟩ := T.out)
              | (go_at_call 65; refine (kupTo_S9r _ _ _).mono ?_; rintro e w' ⟨rfl, rfl⟩))
            go_ret
            exact ⟨ret_int HC.out.symm, B.out⟩

def kerChk (t : S9e.Er) (w : World) (e : Ending) (w' : World) : Prop := e = .returned (.int .i64 (S9e.chkE t)) ∧ Below w.heap.size w w'

theorem ker_idx (s : ByteArray) : decide (0 ≤ Lib.indexByte s.data.toList 0) = !(S9e.nz s) := by
  rw [S1.idx_mem]
  unfold S9e.nz
  generalize s.data.toList = l
  induction l with
  | nil => rfl
  | cons b l ih =>
    rw [List.contains_cons, ih, List.all_cons, Bool.not_and]
    congr 1
    unfold S9e.nzB
    by_cases h : b = 0
    · rw [h]; rfl
    · have h1 : (0 == b) = false := by rw [beq_eq_false_iff_ne]; exact fun e => h e.symm
      have h2 : (b != 0) = true := by simpa using h
      rw [h1, h2]; rfl


end Go.Proofs.Ytkhkmgblgonfoaa
