/-
  What Encode of package ticket returns.
-/
import Derived.Test.YtjkpbkbgbgckaaaGreatQTkCodeA
import Derived.Test.YtjkpbkbgbgckaaaGreatQTkB
import Derived.Test.YtjkpbkbgbgckaaaGreatQFieldO
import Derived.Test.YtjkpbkbgbgckaaaGreatQKeyBytes
namespace Go.Proofs.YtjkpbkbgbgckaaaGreat
open Go.RowKit
set_option maxRecDepth 100000

theorem torder_any (b : Bool) (w : World) : Calls Tryz.prog 28 #[.bool b] w fun e w' => e = .returned (.int .i64 (S6.flag b)) ∧ w = w' := by
  cases b
  · go_enter Tryz.func28, Tryz.ntmps28
    go_wp2
    go_ret
    exact ⟨rfl, rfl⟩
  · go_enter Tryz.func28, Tryz.ntmps28
    go_wp2
    go_ret
    exact ⟨rfl, rfl⟩

theorem tencode_err (t : S6.Tk) (f : t.Fit) (w : World) (h : S6.chkE t ≠ 0) : Calls Tryz.prog 13 #[t.val] w (EncOut t w) := by
  have Bw := Lib.hid (show Below w.heap.size w (w.alloc (.cells t.cells 27)) from (Below.refl _ _).alloc (Nat.le_refl _) _)
  have CC := Lib.hid (fun W => tcheck_any t f W)
  unfold S6.Tk.val S6.Tk.cells at CC
  unfold S6.Tk.val S6.Tk.cells
  unfold S6.Tk.cells at Bw
  have hB := Lib.hid (show S6.encB t = [] by unfold S6.encB; rw [if_neg h])
  have hne : (S6.chkE t != 0) = true := by simpa using h
  clear h
  go_enter Tryz.func13, Tryz.ntmps13
  go_wp2_with (fail)
  refine (CC.out _).mono ?_
  rintro e w1 ⟨rfl, hb1⟩
  have B1 := Lib.hid (below_keep hb1 Bw.out)
  clear hb1
  go_wp2_with (fail)
  go_ret2
  exact ⟨none, 0, 0, rfl, by rw [hB.out]; exact Sl.nil _, B1.out, Fresh.nil _⟩

set_option maxHeartbeats 3200000 in
theorem tencode_ok (t : S6.Tk) (f : t.Fit) (w : World) (h : S6.chkE t = 0) : Calls Tryz.prog 13 #[t.val] w (EncOut t w) := by
  have Bw := Lib.hid (show Below w.heap.size w (w.alloc (.cells t.cells 27)) from (Below.refl _ _).alloc (Nat.le_refl _) _)
  have T0 := Lib.hid (TkAt.new w t 27)
  have CC := Lib.hid (fun W => tcheck_any t f W)
  have o := S6.ok_of h
  have la : t.a.size ≤ 39 := by have := (S5.vName_ok o.a).2; rwa [nums_len] at this
  have lb : t.b.size ≤ 39 := by have := (S5.vInst_ok o.b).2; rwa [nums_len] at this
  have lc : t.c.size ≤ 39 := by have := (S5.vRealm_ok o.c).2; rwa [nums_len] at this
  have ls : t.s.size ≤ 39 := by have := (S5.vName_ok o.s).2; rwa [nums_len] at this
  have li : t.i.size ≤ 39 := by have := (S5.vInst_ok o.i).2; rwa [nums_len] at this
  have hB := Lib.hid (show S6.encB t = S6.enc t by unfold S6.encB; rw [if_pos h])
  have hE := Lib.hid h
  unfold ChkOut at CC
  rw [h] at CC
  clear o h
  unfold S6.Tk.val S6.Tk.cells at CC
  unfold S6.Tk.val S6.Tk.cells
  unfold S6.Tk.cells at Bw T0
  go_enter Tryz.func13, Tryz.ntmps13
  go_wp2_with (fail)
  refine (CC.out _).mono ?_
  rintro e w1 ⟨rfl, hb1⟩
  have T1 := Lib.hid (T0.out.keep hb1)
  have B1 := Lib.hid (below_keep hb1 Bw.out)
  clear hb1 Bw T0
  obtain ⟨x0, x1, x2, x3, x4, x5, x6, x7, x8, x9⟩ := T1.out
  go_wp2_with ((go_at_call 28; refine (torder_any _ _).mono ?_; rintro e w' ⟨rfl, rfl⟩))
  clear x0 x1 x2 x3 x4 x5 x6 x7 x8 x9
  refine (fputOctet_any none 0 0 [] (S6.flag t.l) _ (Sl.nil _) (by omega)).mono ?_
  rintro e w2 ⟨A2, n2, c2, rfl, hs2, hb2, _⟩
  have T2 := Lib.hid (T1.out.keep hb2)
  have B2 := Lib.hid (below_keep hb2 B1.out)
  have hn2 : n2 ≤ 1 := by have := hs2.len; simp [S5.num1] at this; omega
  replace hs2 := Lib.hid hs2
  clear hb2 T1 B1
  obtain ⟨x0, x1, x2, x3, x4, x5, x6, x7, x8, x9⟩ := T2.out
  go_wp2_with (fail)
  clear x0 x1 x2 x3 x4 x5 x6 x7 x8 x9
  refine (fputPrincipal_any _ _ _ _ t.a t.b t.c _ hs2.out (by omega) (by omega) (by omega) (by omega)).mono ?_
  rintro e w3 ⟨A3, n3, c3, rfl, hs3, hb3, _⟩
  have T3 := Lib.hid (T2.out.keep hb3)
  have B3 := Lib.hid (below_keep hb3 B2.out)
  have hn3 : n3 ≤ 200 := by have := hs3.len; simp [S5.num1, S5.three, S5.text, nums_len] at this; omega
  replace hs3 := Lib.hid hs3
  clear hb3 T2 B2 hs2
  obtain ⟨x0, x1, x2, x3, x4, x5, x6, x7, x8, x9⟩ := T3.out
  go_wp2_with (fail)
  clear x0 x1 x2 x3 x4 x5 x6 x7 x8 x9
  refine (fputNumberO_any _ _ _ _ t.ad t.l _ hs3.out (by omega)).mono ?_
  rintro e w4 ⟨v4, rfl, ho4, hb4⟩
  have T4 := Lib.hid (T3.out.keep hb4)
  have H34 := Lib.hid hb4
  have hr4 := Lib.hid (range_app hs3.out.range (S5.num4_range t.l t.ad))
  have hl4 := Lib.hid (show ([] ++ S5.num1 (S6.flag t.l) ++ S5.three (nums t.a) (nums t.b) (nums t.c) ++ S5.num4 t.l t.ad).length ≤ 204 by rw [List.length_append, hs3.out.len, S5.num4_len]; omega)
  replace ho4 := Lib.hid ho4
  clear hb4 hs3
  obtain ⟨x0, x1, x2, x3, x4, x5, x6, x7, x8, x9⟩ := T4.out
  go_wp2_with (fail)
  clear x0 x1 x2 x3 x4 x5 x6 x7 x8 x9
  refine (kbytes_any _ _ f.k.1 f.k.2).mono ?_
  rintro e w5 ⟨g5, c5, rfl, hg5, hc5, hr5, hb5⟩
  have H35 := Lib.hid (below_keep hb5 H34.out)
  have ho5 := Lib.hid (Own.below hb5 ho4.out)
  replace hr5 := Lib.hid hr5
  clear hb5 T4 H34 ho4 hg5 hc5
  go_wp2_with (at_builtin; refine wpList_push_row rfl (.tmp 25) (.tmp 28) 28 rfl Tryz.underlying28 u8_infoB (base := w3.heap.size) (v := v4) (ys := S3.bytes8 t.k) (A := some ⟨g5, 0, none⟩) (m := 8) (c := c5) rfl rfl ho5.out hr5.out (by have := hl4.out; omega) (by decide) H35.out.size ?_; intro v6 w6 ho6 hg6 _; have B36 := Own.grown H35.out ho5.out hg6; clear hg6; obtain ⟨A6, n6, c6, rfl, hs6, _⟩ := ho6.slf (range_app hr4.out (S3.bytes8_range _)); clear ho6; have T6 := Lib.hid (T3.out.keep B36); have B6 := Lib.hid (below_keep B36 B3.out); clear B36; have hn6 : n6 ≤ 212 := (by have h1 := hs6.len; have h2 := hl4.out; rw [List.length_append, S3.bytes8_len] at h1; omega); replace hs6 := Lib.hid hs6; obtain ⟨x0, x1, x2, x3, x4, x5, x6, x7, x8, x9⟩ := T6.out)
  clear x0 x1 x2 x3 x4 x5 x6 x7 x8 x9 T3 B3 H35 ho5 hr5 hr4 hl4
  refine (fputOctet_any _ _ _ _ t.li _ hs6.out (by omega)).mono ?_
  rintro e w7 ⟨A7, n7, c7, rfl, hs7, hb7, _⟩
  have T7 := Lib.hid (T6.out.keep hb7)
  have B7 := Lib.hid (below_keep hb7 B6.out)
  have hn7 : n7 ≤ 213 := by have h1 := hs7.len; rw [List.length_append, hs6.out.len] at h1; simp [S5.num1] at h1; omega
  replace hs7 := Lib.hid hs7
  clear hb7 T6 B6 hs6
  obtain ⟨x0, x1, x2, x3, x4, x5, x6, x7, x8, x9⟩ := T7.out
  go_wp2_with (fail)
  clear x0 x1 x2 x3 x4 x5 x6 x7 x8 x9
  refine (fputNumber_any _ _ _ _ t.is t.l _ hs7.out (by omega)).mono ?_
  rintro e w8 ⟨A8, n8, c8, rfl, hs8, hb8, _⟩
  have T8 := Lib.hid (T7.out.keep hb8)
  have B8 := Lib.hid (below_keep hb8 B7.out)
  have hn8 : n8 ≤ 217 := by have h1 := hs8.len; rw [List.length_append, hs7.out.len] at h1; simp [S5.num4_len] at h1; omega
  replace hs8 := Lib.hid hs8
  clear hb8 T7 B7 hs7
  obtain ⟨x0, x1, x2, x3, x4, x5, x6, x7, x8, x9⟩ := T8.out
  go_wp2_with (fail)
  clear x0 x1 x2 x3 x4 x5 x6 x7 x8 x9
  refine (fputText_any _ _ _ _ t.s _ hs8.out (by omega) (by omega)).mono ?_
  rintro e w9 ⟨A9, n9, c9, rfl, hs9, hb9, _⟩
  have T9 := Lib.hid (T8.out.keep hb9)
  have B9 := Lib.hid (below_keep hb9 B8.out)
  have hn9 : n9 ≤ 257 := by have h1 := hs9.len; rw [List.length_append, hs8.out.len] at h1; simp [S5.text, nums_len] at h1; omega
  replace hs9 := Lib.hid hs9
  clear hb9 T8 B8 hs8
  obtain ⟨x0, x1, x2, x3, x4, x5, x6, x7, x8, x9⟩ := T9.out
  go_wp2_with (fail)
  clear x0 x1 x2 x3 x4 x5 x6 x7 x8 x9
  refine (fputText_any _ _ _ _ t.i _ hs9.out (by omega) (by omega)).mono ?_
  rintro e w10 ⟨A10, n10, c10, rfl, hs10, hb10, _⟩
  have T10 := Lib.hid (T9.out.keep hb10)
  have B10 := Lib.hid (below_keep hb10 B9.out)
  have hn10 : n10 ≤ 297 := by have h1 := hs10.len; rw [List.length_append, hs9.out.len] at h1; simp [S5.text, nums_len] at h1; omega
  replace hs10 := Lib.hid hs10
  clear hb10 T9 B9 hs9
  obtain ⟨x0, x1, x2, x3, x4, x5, x6, x7, x8, x9⟩ := T10.out
  go_wp2_with (fail)
  clear x0 x1 x2 x3 x4 x5 x6 x7 x8 x9
  refine (fpad_any _ _ _ _ _ hs10.out (by omega)).mono ?_
  rintro e w11 ⟨A11, n11, c11, rfl, hs11, hb11, hf11⟩
  have B11 := Lib.hid (below_keep hb11 B10.out)
  have hf := Lib.hid (hf11.le B10.out.size)
  have hz := Lib.hid (show S5.pad ([] ++ S5.num1 (S6.flag t.l) ++ S5.three (nums t.a) (nums t.b) (nums t.c) ++ S5.num4 t.l t.ad ++ S3.bytes8 t.k ++ S5.num1 t.li ++ S5.num4 t.l t.is ++ S5.text (nums t.s) ++ S5.text (nums t.i)) = S6.enc t by unfold S6.enc S6.raw S5.three; simp only [List.nil_append, List.append_assoc])
  rw [hz.out] at hs11
  replace hs11 := Lib.hid hs11
  clear hb11 T10 hs10 B10 hz hf11
  go_wp2_with (fail)
  go_ret2
  exact ⟨A11, n11, c11, ret_two rfl (ival hE.out.symm), by rw [hB.out]; exact hs11.out, B11.out, hf.out⟩

theorem tencode_any (t : S6.Tk) (f : t.Fit) (w : World) : Calls Tryz.prog 13 #[t.val] w (EncOut t w) := by
  by_cases h : S6.chkE t = 0
  · exact tencode_ok t f w h
  · exact tencode_err t f w h

end Go.Proofs.YtjkpbkbgbgckaaaGreat
