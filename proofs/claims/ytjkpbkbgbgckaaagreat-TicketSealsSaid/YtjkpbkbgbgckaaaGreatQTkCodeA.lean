/-
  What Check of package ticket returns.
-/
import Derived.Test.YtjkpbkbgbgckaaaGreatQTkA
import Derived.Test.YtjkpbkbgbgckaaaGreatQKeyA
namespace Go.Proofs.YtjkpbkbgbgckaaaGreat
open Go.RowKit
set_option maxRecDepth 100000

theorem tupTo_any (n m : Int) (w : World) : Calls Tryz.prog 86 #[.int .i64 n, .int .i64 m] w fun e w' => e = .returned (.bool (S6.win n m)) ∧ w = w' := by
  by_cases h : 0 ≤ n
  · go_enter Tryz.func86, Tryz.ntmps86
    go_wp2
    go_ret
    exact ⟨ret_bool (by simp [S6.win, h]), rfl⟩
  · have hn : n < 0 := by omega
    go_enter Tryz.func86, Tryz.ntmps86
    go_wp2
    go_ret
    exact ⟨ret_bool (by simp [S6.win]; omega), rfl⟩

set_option maxHeartbeats 3200000 in
theorem tnames_any (t : S6.Tk) (f : t.Fit) (w : World) : Calls Tryz.prog 56 #[t.val] w fun e w' => e = .returned (.bool (S6.nm t)) ∧ Below w.heap.size w w' := by
  have Bw := Lib.hid (show Below w.heap.size w (w.alloc (.cells t.cells 27)) from (Below.refl _ _).alloc (Nat.le_refl _) _)
  have T0 := Lib.hid (TkAt.new w t 27)
  unfold S6.Tk.val S6.Tk.cells
  unfold S6.Tk.cells at Bw T0
  rcases hv : S1.vP t.a.data.toList t.b.data.toList t.c.data.toList
  · have HV := Lib.hid (show S6.nm t = false by unfold S6.nm; rw [hv]; rfl)
    go_enter Tryz.func56, Tryz.ntmps56
    go_wp2_with (go_at_call 83; refine (valid_any _ _ _ _ f.a f.b f.c).mono ?_; rintro e w1 ⟨rfl, hb1⟩; obtain ⟨x0, x1, x2, x3, x4, x5, x6, x7, x8, x9⟩ := T0.out.keep hb1; have B1 := Lib.hid (below_keep hb1 Bw.out); clear hb1)
    go_ret
    exact ⟨ret_bool HV.out.symm, B1.out⟩
  · rcases hs : S1.vName t.s.data.toList
    · have HV := Lib.hid (show S6.nm t = false by unfold S6.nm; rw [hv, hs]; rfl)
      go_enter Tryz.func56, Tryz.ntmps56
      go_wp2_with (first
        | (go_at_call 83; refine (valid_any _ _ _ _ f.a f.b f.c).mono ?_; rintro e w1 ⟨rfl, hb1⟩; obtain ⟨x0, x1, x2, x3, x4, x5, x6, x7, x8, x9⟩ := T0.out.keep hb1; have B1 := Lib.hid (below_keep hb1 Bw.out); clear hb1)
        | (go_at_call 84; refine (validName_any _ _ f.s).mono ?_; rintro e w' ⟨rfl, rfl⟩))
      go_ret
      exact ⟨ret_bool HV.out.symm, B1.out⟩
    · rcases hi : S1.text [64] t.i.data.toList
      · have HV := Lib.hid (show S6.nm t = false by unfold S6.nm S1.vInst; rw [hv, hs, hi]; rfl)
        go_enter Tryz.func56, Tryz.ntmps56
        go_wp2_with (first
          | (go_at_call 83; refine (valid_any _ _ _ _ f.a f.b f.c).mono ?_; rintro e w1 ⟨rfl, hb1⟩; obtain ⟨x0, x1, x2, x3, x4, x5, x6, x7, x8, x9⟩ := T0.out.keep hb1; have B1 := Lib.hid (below_keep hb1 Bw.out); clear hb1)
          | (go_at_call 84; refine (validName_any _ _ f.s).mono ?_; rintro e w' ⟨rfl, rfl⟩)
          | (go_at_call 85; refine (validInstance_any _ _ f.i).mono ?_; rintro e w' ⟨rfl, rfl⟩))
        go_ret
        exact ⟨ret_bool HV.out.symm, B1.out⟩
      · have HV := Lib.hid (show S6.nm t = true by unfold S6.nm S1.vInst; rw [hv, hs, hi]; rfl)
        go_enter Tryz.func56, Tryz.ntmps56
        go_wp2_with (first
          | (go_at_call 83; refine (valid_any _ _ _ _ f.a f.b f.c).mono ?_; rintro e w1 ⟨rfl, hb1⟩; obtain ⟨x0, x1, x2, x3, x4, x5, x6, x7, x8, x9⟩ := T0.out.keep hb1; have B1 := Lib.hid (below_keep hb1 Bw.out); clear hb1)
          | (go_at_call 84; refine (validName_any _ _ f.s).mono ?_; rintro e w' ⟨rfl, rfl⟩)
          | (go_at_call 85; refine (validInstance_any _ _ f.i).mono ?_; rintro e w' ⟨rfl, rfl⟩))
        go_ret
        exact ⟨ret_bool HV.out.symm, B1.out⟩

set_option maxHeartbeats 3200000 in
theorem tnumbers_any (t : S6.Tk) (w : World) : Calls Tryz.prog 58 #[t.val] w fun e w' => e = .returned (.bool (S6.rg t)) ∧ Below w.heap.size w w' := by
  have Bw := Lib.hid (show Below w.heap.size w (w.alloc (.cells t.cells 27)) from (Below.refl _ _).alloc (Nat.le_refl _) _)
  unfold S6.Tk.val S6.Tk.cells
  unfold S6.Tk.cells at Bw
  rcases h1 : S6.win t.ad 4294967295
  · have HV := Lib.hid (show S6.rg t = false by unfold S6.rg; rw [h1]; rfl)
    go_enter Tryz.func58, Tryz.ntmps58
    go_wp2_with ((go_at_call 86; refine (tupTo_any _ _ _).mono ?_; rintro e w' ⟨rfl, rfl⟩))
    go_ret
    exact ⟨ret_bool HV.out.symm, Bw.out⟩
  · rcases h2 : S6.win t.li 255
    · have HV := Lib.hid (show S6.rg t = false by unfold S6.rg; rw [h1, h2]; rfl)
      go_enter Tryz.func58, Tryz.ntmps58
      go_wp2_with ((go_at_call 86; refine (tupTo_any _ _ _).mono ?_; rintro e w' ⟨rfl, rfl⟩))
      go_ret
      exact ⟨ret_bool HV.out.symm, Bw.out⟩
    · have HV := Lib.hid (show S6.rg t = S6.win t.is 4294967295 by unfold S6.rg; rw [h1, h2]; rfl)
      go_enter Tryz.func58, Tryz.ntmps58
      go_wp2_with ((go_at_call 86; refine (tupTo_any _ _ _).mono ?_; rintro e w' ⟨rfl, rfl⟩))
      go_ret
      exact ⟨ret_bool HV.out.symm, Bw.out⟩

set_option maxHeartbeats 3200000 in
theorem tcheck_any (t : S6.Tk) (f : t.Fit) (w : World) : Calls Tryz.prog 26 #[t.val] w (ChkOut t w) := by
  have Bw := Lib.hid (show Below w.heap.size w (w.alloc (.cells t.cells 27)) from (Below.refl _ _).alloc (Nat.le_refl _) _)
  have T0 := Lib.hid (TkAt.new w t 27)
  have VN := Lib.hid (fun W => tnames_any t f W)
  have VR := Lib.hid (fun W => tnumbers_any t W)
  unfold S6.Tk.val S6.Tk.cells at VN VR
  unfold S6.Tk.val S6.Tk.cells
  unfold S6.Tk.cells at Bw T0
  rcases h1 : S6.nm t
  · have HC := Lib.hid (S6.chk_nm h1)
    rw [h1] at VN
    go_enter Tryz.func26, Tryz.ntmps26
    go_wp2_with (go_at_call 56; refine (VN.out _).mono ?_; rintro e w1 ⟨rfl, hb1⟩; obtain ⟨x0, x1, x2, x3, x4, x5, x6, x7, x8, x9⟩ := T0.out.keep hb1; have B1 := Lib.hid (below_keep hb1 Bw.out); clear hb1)
    go_ret
    exact ⟨ret_int HC.out.symm, B1.out⟩
  · rw [h1] at VN
    by_cases hk : S3.ck t.k = 2
    · rcases h2 : S6.rg t
      · have HC := Lib.hid (S6.chk_rg h1 hk h2)
        have hk2 : (S3.ck t.k != 2) = false := by simpa using hk
        rw [h2] at VR
        go_enter Tryz.func26, Tryz.ntmps26
        go_wp2_with (first
          | (go_at_call 56; refine (VN.out _).mono ?_; rintro e w1 ⟨rfl, hb1⟩; obtain ⟨x0, x1, x2, x3, x4, x5, x6, x7, x8, x9⟩ := T0.out.keep hb1; have B1 := Lib.hid (below_keep hb1 Bw.out); clear hb1)
          | ((go_at_call 57; refine (kclass_any _ _ f.k.1 f.k.2).mono ?_; rintro e w' ⟨rfl, rfl⟩))
          | (go_at_call 58; refine (VR.out _).mono ?_; rintro e w2 ⟨rfl, hb2⟩; have B2 := Lib.hid (below_keep hb2 B1.out); clear hb2))
        go_ret
        exact ⟨ret_int HC.out.symm, B2.out⟩
      · have HC := Lib.hid (S6.chk_ok h1 hk h2)
        have hk2 : (S3.ck t.k != 2) = false := by simpa using hk
        rw [h2] at VR
        go_enter Tryz.func26, Tryz.ntmps26
        go_wp2_with (first
          | (go_at_call 56; refine (VN.out _).mono ?_; rintro e w1 ⟨rfl, hb1⟩; obtain ⟨x0, x1, x2, x3, x4, x5, x6, x7, x8, x9⟩ := T0.out.keep hb1; have B1 := Lib.hid (below_keep hb1 Bw.out); clear hb1)
          | ((go_at_call 57; refine (kclass_any _ _ f.k.1 f.k.2).mono ?_; rintro e w' ⟨rfl, rfl⟩))
          | (go_at_call 58; refine (VR.out _).mono ?_; rintro e w2 ⟨rfl, hb2⟩; have B2 := Lib.hid (below_keep hb2 B1.out); clear hb2))
        go_ret
        exact ⟨ret_int HC.out.symm, B2.out⟩
    · have HC := Lib.hid (S6.chk_key h1 hk)
      have hk2 : (S3.ck t.k != 2) = true := by simpa using hk
      go_enter Tryz.func26, Tryz.ntmps26
      go_wp2_with (first
        | (go_at_call 56; refine (VN.out _).mono ?_; rintro e w1 ⟨rfl, hb1⟩; obtain ⟨x0, x1, x2, x3, x4, x5, x6, x7, x8, x9⟩ := T0.out.keep hb1; have B1 := Lib.hid (below_keep hb1 Bw.out); clear hb1)
        | ((go_at_call 57; refine (kclass_any _ _ f.k.1 f.k.2).mono ?_; rintro e w' ⟨rfl, rfl⟩)))
      go_ret
      exact ⟨ret_int HC.out.symm, B1.out⟩

end Go.Proofs.YtjkpbkbgbgckaaaGreat
