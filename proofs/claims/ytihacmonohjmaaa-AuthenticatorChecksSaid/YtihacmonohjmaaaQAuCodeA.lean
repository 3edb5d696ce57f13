/-
  What Check and Encode of package authenticator return.
-/
import Derived.Test.YtihacmonohjmaaaQAuB
import Derived.Test.YtihacmonohjmaaaQFieldO
import Derived.Test.YtihacmonohjmaaaQPrinA
namespace Go.Proofs.Ytihacmonohjmaaa
open Go.RowKit
set_option maxRecDepth 100000

theorem ainRange_any (n m : Int) (w : World) : Calls Try.prog 53 #[.int .i64 n, .int .i64 m] w fun e w' => e = .returned (.bool (S7.win n m)) ∧ w = w' := by
  by_cases h : 0 ≤ n
  · go_enter Try.func53, Try.ntmps53
    go_wp2
    go_ret
    exact ⟨ret_bool (by simp [S7.win, h]), rfl⟩
  · have hn : n < 0 := by omega
    go_enter Try.func53, Try.ntmps53
    go_wp2
    go_ret
    exact ⟨ret_bool (by simp [S7.win]; omega), rfl⟩

set_option maxHeartbeats 3200000 in
theorem anumbers_any (t : S7.Au) (w : World) : Calls Try.prog 27 #[t.val] w fun e w' => e = .returned (.bool (S7.rg t)) ∧ Below w.heap.size w w' := by
  have Bw := Lib.hid (show Below w.heap.size w (w.alloc (.cells t.cells 25)) from (Below.refl _ _).alloc (Nat.le_refl _) _)
  unfold S7.Au.val S7.Au.cells
  unfold S7.Au.cells at Bw
  rcases h1 : S7.win t.ck 4294967295
  · have HV := Lib.hid (show S7.rg t = false by unfold S7.rg; rw [h1]; rfl)
    go_enter Try.func27, Try.ntmps27
    go_wp2_with ((go_at_call 53; refine (ainRange_any _ _ _).mono ?_; rintro e w' ⟨rfl, rfl⟩))
    go_ret
    exact ⟨ret_bool HV.out.symm, Bw.out⟩
  · rcases h2 : S7.win t.ti 199
    · have HV := Lib.hid (show S7.rg t = false by unfold S7.rg; rw [h1, h2]; rfl)
      go_enter Try.func27, Try.ntmps27
      go_wp2_with ((go_at_call 53; refine (ainRange_any _ _ _).mono ?_; rintro e w' ⟨rfl, rfl⟩))
      go_ret
      exact ⟨ret_bool HV.out.symm, Bw.out⟩
    · have HV := Lib.hid (show S7.rg t = S7.win t.tm 4294967295 by unfold S7.rg; rw [h1, h2]; rfl)
      go_enter Try.func27, Try.ntmps27
      go_wp2_with ((go_at_call 53; refine (ainRange_any _ _ _).mono ?_; rintro e w' ⟨rfl, rfl⟩))
      go_ret
      exact ⟨ret_bool HV.out.symm, Bw.out⟩

set_option maxHeartbeats 3200000 in
theorem acheck_any (t : S7.Au) (f : t.Fit) (w : World) : Calls Try.prog 11 #[t.val] w (ChkOut7 t w) := by
  have Bw := Lib.hid (show Below w.heap.size w (w.alloc (.cells t.cells 25)) from (Below.refl _ _).alloc (Nat.le_refl _) _)
  have T0 := Lib.hid (AuAt.new w t 25)
  have VR := Lib.hid (fun W => anumbers_any t W)
  unfold S7.Au.val S7.Au.cells at VR
  unfold S7.Au.val S7.Au.cells
  unfold S7.Au.cells at Bw T0
  rcases hv : S1.vP t.a.data.toList t.b.data.toList t.c.data.toList
  · have HC := Lib.hid (S7.chk_nm (t := t) hv)
    go_enter Try.func11, Try.ntmps11
    go_wp2_with (go_at_call 26; refine (valid_any _ _ _ _ f.a f.b f.c).mono ?_; rintro e w1 ⟨rfl, hb1⟩; obtain ⟨x0, x1, x2, x3, x4, x5⟩ := T0.out.keep hb1; have B1 := Lib.hid (below_keep hb1 Bw.out); clear hb1)
    go_ret
    exact ⟨ret_int HC.out.symm, B1.out⟩
  · rcases h2 : S7.rg t
    · have HC := Lib.hid (S7.chk_rg (t := t) hv h2)
      rw [h2] at VR
      go_enter Try.func11, Try.ntmps11
      go_wp2_with (first
        | (go_at_call 26; refine (valid_any _ _ _ _ f.a f.b f.c).mono ?_; rintro e w1 ⟨rfl, hb1⟩; obtain ⟨x0, x1, x2, x3, x4, x5⟩ := T0.out.keep hb1; have B1 := Lib.hid (below_keep hb1 Bw.out); clear hb1)
        | (go_at_call 27; refine (VR.out _).mono ?_; rintro e w2 ⟨rfl, hb2⟩; have B2 := Lib.hid (below_keep hb2 B1.out); clear hb2))
      go_ret
      exact ⟨ret_int HC.out.symm, B2.out⟩
    · have HC := Lib.hid (S7.chk_ok (t := t) hv h2)
      rw [h2] at VR
      go_enter Try.func11, Try.ntmps11
      go_wp2_with (first
        | (go_at_call 26; refine (valid_any _ _ _ _ f.a f.b f.c).mono ?_; rintro e w1 ⟨rfl, hb1⟩; obtain ⟨x0, x1, x2, x3, x4, x5⟩ := T0.out.keep hb1; have B1 := Lib.hid (below_keep hb1 Bw.out); clear hb1)
        | (go_at_call 27; refine (VR.out _).mono ?_; rintro e w2 ⟨rfl, hb2⟩; have B2 := Lib.hid (below_keep hb2 B1.out); clear hb2))
      go_ret
      exact ⟨ret_int HC.out.symm, B2.out⟩

theorem aputOrder_any (b : Bool) (w : World) : Calls Try.prog 30 #[.bool b] w (BytesOut (S5.num1 (S7.flag b)) w) := by
  cases b
  all_goals
    go_enter Try.func30, Try.ntmps30
    go_wp2_with (fail)
    refine (fputOctet_any none 0 0 [] _ _ (Sl.nil _) (by omega)).mono ?_
    rintro e w1 ⟨A1, n1, c1, rfl, hs1, hb1, hf1⟩
    go_wp2_with (fail)
    go_ret
    exact ⟨A1, n1, c1, rfl, hs1, hb1, hf1⟩

theorem aencode_err (l : Bool) (t : S7.Au) (f : t.Fit) (w : World) (h : S7.chkE t ≠ 0) : Calls Try.prog 13 #[t.val, .bool l] w (EncOut7 l t w) := by
  have Bw := Lib.hid (show Below w.heap.size w (w.alloc (.cells t.cells 25)) from (Below.refl _ _).alloc (Nat.le_refl _) _)
  have CC := Lib.hid (fun W => acheck_any t f W)
  unfold S7.Au.val S7.Au.cells at CC
  unfold S7.Au.val S7.Au.cells
  unfold S7.Au.cells at Bw
  have hB := Lib.hid (show S7.encB l t = [] by unfold S7.encB; rw [if_neg h])
  have hne : (S7.chkE t != 0) = true := by simpa using h
  clear h
  go_enter Try.func13, Try.ntmps13
  go_wp2_with (fail)
  refine (CC.out _).mono ?_
  rintro e w1 ⟨rfl, hb1⟩
  have B1 := Lib.hid (below_keep hb1 Bw.out)
  clear hb1
  go_wp2_with (fail)
  go_ret2
  exact ⟨none, 0, 0, rfl, by rw [hB.out]; exact Sl.nil _, B1.out, Fresh.nil _⟩

set_option maxHeartbeats 3200000 in
theorem aencode_ok (l : Bool) (t : S7.Au) (f : t.Fit) (w : World) (h : S7.chkE t = 0) : Calls Try.prog 13 #[t.val, .bool l] w (EncOut7 l t w) := by
  have Bw := Lib.hid (show Below w.heap.size w (w.alloc (.cells t.cells 25)) from (Below.refl _ _).alloc (Nat.le_refl _) _)
  have T0 := Lib.hid (AuAt.new w t 25)
  have CC := Lib.hid (fun W => acheck_any t f W)
  have o := S7.ok_of h
  have la : t.a.size ≤ 39 := by have := (S5.vName_ok o.a).2; rwa [nums_len] at this
  have lb : t.b.size ≤ 39 := by have := (S5.vInst_ok o.b).2; rwa [nums_len] at this
  have lc : t.c.size ≤ 39 := by have := (S5.vRealm_ok o.c).2; rwa [nums_len] at this
  have hB := Lib.hid (show S7.encB l t = S7.enc l t by unfold S7.encB; rw [if_pos h])
  have hE := Lib.hid h
  unfold ChkOut7 at CC
  rw [h] at CC
  clear o h
  unfold S7.Au.val S7.Au.cells at CC
  unfold S7.Au.val S7.Au.cells
  unfold S7.Au.cells at Bw T0
  go_enter Try.func13, Try.ntmps13
  go_wp2_with (fail)
  refine (CC.out _).mono ?_
  rintro e w1 ⟨rfl, hb1⟩
  have T1 := Lib.hid (T0.out.keep hb1)
  have B1 := Lib.hid (below_keep hb1 Bw.out)
  clear hb1 Bw T0
  obtain ⟨x0, x1, x2, x3, x4, x5⟩ := T1.out
  go_wp2_with (fail)
  clear x0 x1 x2 x3 x4 x5
  refine (aputOrder_any l _).mono ?_
  rintro e w2 ⟨A2, n2, c2, rfl, hs2, hb2, _⟩
  have T2 := Lib.hid (T1.out.keep hb2)
  have B2 := Lib.hid (below_keep hb2 B1.out)
  have hn2 : n2 ≤ 1 := by have := hs2.len; simp [S5.num1] at this; omega
  replace hs2 := Lib.hid hs2
  clear hb2 T1 B1
  obtain ⟨x0, x1, x2, x3, x4, x5⟩ := T2.out
  go_wp2_with (fail)
  clear x0 x1 x2 x3 x4 x5
  refine (fputPrincipal_any _ _ _ _ t.a t.b t.c _ hs2.out (by omega) (by omega) (by omega) (by omega)).mono ?_
  rintro e w3 ⟨A3, n3, c3, rfl, hs3, hb3, _⟩
  have T3 := Lib.hid (T2.out.keep hb3)
  have B3 := Lib.hid (below_keep hb3 B2.out)
  have hn3 : n3 ≤ 200 := by have := hs3.len; simp [S5.num1, S5.three, S5.text, nums_len] at this; omega
  replace hs3 := Lib.hid hs3
  clear hb3 T2 B2 hs2
  obtain ⟨x0, x1, x2, x3, x4, x5⟩ := T3.out
  go_wp2_with (fail)
  clear x0 x1 x2 x3 x4 x5
  refine (fputNumber_any _ _ _ _ t.ck l _ hs3.out (by omega)).mono ?_
  rintro e w4 ⟨A4, n4, c4, rfl, hs4, hb4, _⟩
  have T4 := Lib.hid (T3.out.keep hb4)
  have B4 := Lib.hid (below_keep hb4 B3.out)
  have hn4 : n4 ≤ 204 := by have h1 := hs4.len; rw [List.length_append, hs3.out.len] at h1; simp [S5.num4_len] at h1; omega
  replace hs4 := Lib.hid hs4
  clear hb4 T3 B3 hs3
  obtain ⟨x0, x1, x2, x3, x4, x5⟩ := T4.out
  go_wp2_with (fail)
  clear x0 x1 x2 x3 x4 x5
  refine (fputOctet_any _ _ _ _ t.ti _ hs4.out (by omega)).mono ?_
  rintro e w5 ⟨A5, n5, c5, rfl, hs5, hb5, _⟩
  have T5 := Lib.hid (T4.out.keep hb5)
  have B5 := Lib.hid (below_keep hb5 B4.out)
  have hn5 : n5 ≤ 205 := by have h1 := hs5.len; rw [List.length_append, hs4.out.len] at h1; simp [S5.num1] at h1; omega
  replace hs5 := Lib.hid hs5
  clear hb5 T4 B4 hs4
  obtain ⟨x0, x1, x2, x3, x4, x5⟩ := T5.out
  go_wp2_with (fail)
  clear x0 x1 x2 x3 x4 x5
  refine (fputNumber_any _ _ _ _ t.tm l _ hs5.out (by omega)).mono ?_
  rintro e w6 ⟨A6, n6, c6, rfl, hs6, hb6, _⟩
  have T6 := Lib.hid (T5.out.keep hb6)
  have B6 := Lib.hid (below_keep hb6 B5.out)
  have hn6 : n6 ≤ 209 := by have h1 := hs6.len; rw [List.length_append, hs5.out.len] at h1; simp [S5.num4_len] at h1; omega
  replace hs6 := Lib.hid hs6
  clear hb6 T5 B5 hs5
  obtain ⟨x0, x1, x2, x3, x4, x5⟩ := T6.out
  go_wp2_with (fail)
  clear x0 x1 x2 x3 x4 x5
  refine (fpad_any _ _ _ _ _ hs6.out (by omega)).mono ?_
  rintro e w7 ⟨A7, n7, c7, rfl, hs7, hb7, hf7⟩
  have B7 := Lib.hid (below_keep hb7 B6.out)
  have hf := Lib.hid (hf7.le B6.out.size)
  have hz := Lib.hid (show S5.pad (S5.num1 (S7.flag l) ++ S5.three (nums t.a) (nums t.b) (nums t.c) ++ S5.num4 l t.ck ++ S5.num1 t.ti ++ S5.num4 l t.tm) = S7.enc l t by unfold S7.enc S7.raw S5.three; simp only [List.append_assoc])
  rw [hz.out] at hs7
  replace hs7 := Lib.hid hs7
  clear hb7 T6 hs6 B6 hz hf7
  go_wp2_with (fail)
  go_ret2
  exact ⟨A7, n7, c7, ret_two rfl (ival hE.out.symm), by rw [hB.out]; exact hs7.out, B7.out, hf.out⟩

theorem aencode_any (l : Bool) (t : S7.Au) (f : t.Fit) (w : World) : Calls Try.prog 13 #[t.val, .bool l] w (EncOut7 l t w) := by
  by_cases h : S7.chkE t = 0
  · exact aencode_ok l t f w h
  · exact aencode_err l t f w h

end Go.Proofs.Ytihacmonohjmaaa
