/-
  What the encoders of package kdcmessage return.
-/
import Derived.Test.YtkhkmgblgonfoaaDoorQKdChk
import Derived.Test.YtkhkmgblgonfoaaDoorQFieldP
import Derived.Test.YtkhkmgblgonfoaaDoorQKeyBytes
import Derived.Test.YtkhkmgblgonfoaaDoorQHdCode
namespace Go.Proofs.YtkhkmgblgonfoaaDoor
open Go.RowKit
set_option maxRecDepth 100000


theorem krqenc_err (t : S9q.Rq) (f : t.Fit) (w : World) (h : S9q.chkE t ≠ 0) : Calls Tryd.prog 12 #[t.val] w (RqEnc t w) := by
  have Bw := Lib.hid (show Below w.heap.size w (w.alloc (.cells (t.cells) 40)) from (Below.refl _ _).alloc (Nat.le_refl _) _)
  have CC := Lib.hid (fun W => krqcheck_any t f W)
  unfold krqChk at CC
  unfold S9q.Rq.val S9q.Rq.cells at CC
  unfold S9q.Rq.val S9q.Rq.cells
  unfold S9q.Rq.cells at Bw
  have hB := Lib.hid (show S9q.encB t = [] by unfold S9q.encB; rw [if_neg h])
  have hne : (S9q.chkE t != 0) = true := by simpa using h
  clear h
  go_enter Tryd.func12, Tryd.ntmps12
  go_wp2_with (fail)
  refine (CC.out _).mono ?_
  rintro e w1 ⟨rfl, hb1⟩
  have B1 := Lib.hid (below_keep hb1 Bw.out)
  clear hb1
  go_wp2_with (fail)
  go_ret2
  exact ⟨none, 0, 0, rfl, by rw [hB.out]; exact Sl.nil _, B1.out, Fresh.nil _⟩

set_option maxHeartbeats 6400000 in
theorem krqenc_ok (t : S9q.Rq) (f : t.Fit) (w : World) (h : S9q.chkE t = 0) : Calls Tryd.prog 12 #[t.val] w (RqEnc t w) := by
  have Bw := Lib.hid (show Below w.heap.size w (w.alloc (.cells (t.cells) 40)) from (Below.refl _ _).alloc (Nat.le_refl _) _)
  have CC := Lib.hid (fun W => krqcheck_any t f W)
  unfold krqChk at CC
  have T0 := Lib.hid (RqAt.new w t 40)
  have o := S9q.ok_of h
  have l_a : t.a.size ≤ 39 := by have := (S5.vName_ok o.a).2; rwa [nums_len] at this
  have l_b : t.b.size ≤ 39 := by have := (S5.vInst_ok o.b).2; rwa [nums_len] at this
  have l_c : t.c.size ≤ 39 := by have := (S5.vRealm_ok o.c).2; rwa [nums_len] at this
  have l_s : t.s.size ≤ 39 := by have := (S5.vName_ok o.s).2; rwa [nums_len] at this
  have l_i : t.i.size ≤ 39 := by have := (S5.vInst_ok o.i).2; rwa [nums_len] at this
  have hB := Lib.hid (show S9q.encB t = S9q.enc t by unfold S9q.encB; rw [if_pos h])
  have hE := Lib.hid h
  rw [h] at CC
  clear o h
  unfold S9q.Rq.val S9q.Rq.cells at CC
  unfold S9q.Rq.val S9q.Rq.cells
  unfold S9q.Rq.cells at Bw T0
  go_enter Tryd.func12, Tryd.ntmps12
  go_wp2_with (fail)
  refine (CC.out _).mono ?_
  rintro e w1 ⟨rfl, hb1⟩
  have T1 := Lib.hid (T0.out.keep hb1)
  have B1 := Lib.hid (below_keep hb1 Bw.out)
  clear hb1 Bw T0
  obtain ⟨x0, x1, x2, x3, x4, x5, x6, x7⟩ := T1.out
  go_wp2_with (fail)
  clear x0 x1 x2 x3 x4 x5 x6 x7
  refine (hput_any 1 t.l _).mono ?_
  rintro e w2 ⟨A2, n2, c2, rfl, hs2, hb2, hf2⟩
  have T2 := Lib.hid (T1.out.keep hb2)
  have B2 := Lib.hid (below_keep hb2 B1.out)
  have hn2 : n2 ≤ 2 := by have h1 := hs2.len; simp [S8.put, S8.okK] at h1; omega
  replace hs2 := Lib.hid hs2
  clear hb2 hf2 T1 B1
  obtain ⟨x0, x1, x2, x3, x4, x5, x6, x7⟩ := T2.out
  go_wp2_with (fail)
  clear x0 x1 x2 x3 x4 x5 x6 x7
  refine (fputPrincipal_any _ _ _ _ t.a t.b t.c _ hs2.out (by omega) (by omega) (by omega) (by omega)).mono ?_
  rintro e w3 ⟨A3, n3, c3, rfl, hs3, hb3, hf3⟩
  have T3 := Lib.hid (T2.out.keep hb3)
  have B3 := Lib.hid (below_keep hb3 B2.out)
  have hn3 : n3 ≤ 122 := by have h1 := hs3.len; rw [List.length_append, hs2.out.len] at h1; simp [S5.three, S5.text, nums_len] at h1; omega
  replace hs3 := Lib.hid hs3
  clear hb3 hf3 T2 B2 hs2
  obtain ⟨x0, x1, x2, x3, x4, x5, x6, x7⟩ := T3.out
  go_wp2_with (fail)
  clear x0 x1 x2 x3 x4 x5 x6 x7
  refine (fputNumber_any _ _ _ _ t.tm t.l _ hs3.out (by omega)).mono ?_
  rintro e w4 ⟨A4, n4, c4, rfl, hs4, hb4, hf4⟩
  have T4 := Lib.hid (T3.out.keep hb4)
  have B4 := Lib.hid (below_keep hb4 B3.out)
  have hn4 : n4 ≤ 126 := by have h1 := hs4.len; rw [List.length_append, hs3.out.len] at h1; simp [S5.num4_len] at h1; omega
  replace hs4 := Lib.hid hs4
  clear hb4 hf4 T3 B3 hs3
  obtain ⟨x0, x1, x2, x3, x4, x5, x6, x7⟩ := T4.out
  go_wp2_with (fail)
  clear x0 x1 x2 x3 x4 x5 x6 x7
  refine (fputOctet_any _ _ _ _ t.li _ hs4.out (by omega)).mono ?_
  rintro e w5 ⟨A5, n5, c5, rfl, hs5, hb5, hf5⟩
  have T5 := Lib.hid (T4.out.keep hb5)
  have B5 := Lib.hid (below_keep hb5 B4.out)
  have hn5 : n5 ≤ 127 := by have h1 := hs5.len; rw [List.length_append, hs4.out.len] at h1; simp [S5.num1] at h1; omega
  replace hs5 := Lib.hid hs5
  clear hb5 hf5 T4 B4 hs4
  obtain ⟨x0, x1, x2, x3, x4, x5, x6, x7⟩ := T5.out
  go_wp2_with (fail)
  clear x0 x1 x2 x3 x4 x5 x6 x7
  refine (fputText_any _ _ _ _ t.s _ hs5.out (by omega) (by omega)).mono ?_
  rintro e w6 ⟨A6, n6, c6, rfl, hs6, hb6, hf6⟩
  have T6 := Lib.hid (T5.out.keep hb6)
  have B6 := Lib.hid (below_keep hb6 B5.out)
  have hn6 : n6 ≤ 167 := by have h1 := hs6.len; rw [List.length_append, hs5.out.len] at h1; simp [S5.text, nums_len] at h1; omega
  replace hs6 := Lib.hid hs6
  clear hb6 hf6 T5 B5 hs5
  obtain ⟨x0, x1, x2, x3, x4, x5, x6, x7⟩ := T6.out
  go_wp2_with (fail)
  clear x0 x1 x2 x3 x4 x5 x6 x7
  refine (fputText_any _ _ _ _ t.i _ hs6.out (by omega) (by omega)).mono ?_
  rintro e w7 ⟨A7, n7, c7, rfl, hs7, hb7, hf7⟩
  have T7 := Lib.hid (T6.out.keep hb7)
  have hf := Lib.hid (hf7.le B6.out.size)
  have B7 := Lib.hid (below_keep hb7 B6.out)
  have hn7 : n7 ≤ 207 := by have h1 := hs7.len; rw [List.length_append, hs6.out.len] at h1; simp [S5.text, nums_len] at h1; omega
  replace hs7 := Lib.hid hs7
  clear hb7 hf7 T6 B6 hs6
  have hq := Lib.hid (show S8.put 1 t.l ++ S5.three (nums t.a) (nums t.b) (nums t.c) ++ S5.num4 t.l t.tm ++ S5.num1 t.li ++ S5.text (nums t.s) ++ S5.text (nums t.i) = S9q.enc t by unfold S9q.enc S9q.raw S5.three; simp only [List.append_assoc])
  have hs := hs7.out
  rw [hq.out] at hs
  replace hs := Lib.hid hs
  clear hs7 hq
  go_wp2_with (fail)
  go_ret2
  exact ⟨A7, n7, c7, ret_two rfl (ival hE.out.symm), by rw [hB.out]; exact hs.out, B7.out, hf.out⟩

theorem krqenc_any (t : S9q.Rq) (f : t.Fit) (w : World) : Calls Tryd.prog 12 #[t.val] w (RqEnc t w) := by
  by_cases h : S9q.chkE t = 0
  · exact krqenc_ok t f w h
  · exact krqenc_err t f w h







theorem kerenc_err (t : S9e.Er) (f : t.Fit) (w : World) (h : S9e.chkE t ≠ 0) : Calls Tryd.prog 8 #[t.val] w (ErEnc t w) := by
  have Bw := Lib.hid (show Below w.heap.size w (w.alloc (.cells (t.cells) 26)) from (Below.refl _ _).alloc (Nat.le_refl _) _)
  have CC := Lib.hid (fun W => kercheck_any t f W)
  unfold kerChk at CC
  unfold S9e.Er.val S9e.Er.cells at CC
  unfold S9e.Er.val S9e.Er.cells
  unfold S9e.Er.cells at Bw
  have hB := Lib.hid (show S9e.encB t = [] by unfold S9e.encB; rw [if_neg h])
  have hne : (S9e.chkE t != 0) = true := by simpa using h
  clear h
  go_enter Tryd.func8, Tryd.ntmps8
  go_wp2_with (fail)
  refine (CC.out _).mono ?_
  rintro e w1 ⟨rfl, hb1⟩
  have B1 := Lib.hid (below_keep hb1 Bw.out)
  clear hb1
  go_wp2_with (fail)
  go_ret2
  exact ⟨none, 0, 0, rfl, by rw [hB.out]; exact Sl.nil _, B1.out, Fresh.nil _⟩

set_option maxHeartbeats 6400000 in
theorem kerenc_ok (t : S9e.Er) (f : t.Fit) (w : World) (h : S9e.chkE t = 0) : Calls Tryd.prog 8 #[t.val] w (ErEnc t w) := by
  have Bw := Lib.hid (show Below w.heap.size w (w.alloc (.cells (t.cells) 26)) from (Below.refl _ _).alloc (Nat.le_refl _) _)
  have CC := Lib.hid (fun W => kercheck_any t f W)
  unfold kerChk at CC
  have T0 := Lib.hid (ErAt.new w t 26)
  have o := S9e.ok_of h
  have l_a : t.a.size ≤ 39 := by have := (S5.vName_ok o.a).2; rwa [nums_len] at this
  have l_b : t.b.size ≤ 39 := by have := (S5.vInst_ok o.b).2; rwa [nums_len] at this
  have l_c : t.c.size ≤ 39 := by have := (S5.vRealm_ok o.c).2; rwa [nums_len] at this
  have l_s : t.s.size ≤ 39 := o.sl
  have hB := Lib.hid (show S9e.encB t = S9e.enc t by unfold S9e.encB; rw [if_pos h])
  have hE := Lib.hid h
  rw [h] at CC
  clear o h
  unfold S9e.Er.val S9e.Er.cells at CC
  unfold S9e.Er.val S9e.Er.cells
  unfold S9e.Er.cells at Bw T0
  go_enter Tryd.func8, Tryd.ntmps8
  go_wp2_with (fail)
  refine (CC.out _).mono ?_
  rintro e w1 ⟨rfl, hb1⟩
  have T1 := Lib.hid (T0.out.keep hb1)
  have B1 := Lib.hid (below_keep hb1 Bw.out)
  clear hb1 Bw T0
  obtain ⟨x0, x1, x2, x3, x4, x5, x6⟩ := T1.out
  go_wp2_with (fail)
  clear x0 x1 x2 x3 x4 x5 x6
  refine (hput_any 5 t.l _).mono ?_
  rintro e w2 ⟨A2, n2, c2, rfl, hs2, hb2, hf2⟩
  have T2 := Lib.hid (T1.out.keep hb2)
  have B2 := Lib.hid (below_keep hb2 B1.out)
  have hn2 : n2 ≤ 2 := by have h1 := hs2.len; simp [S8.put, S8.okK] at h1; omega
  replace hs2 := Lib.hid hs2
  clear hb2 hf2 T1 B1
  obtain ⟨x0, x1, x2, x3, x4, x5, x6⟩ := T2.out
  go_wp2_with (fail)
  clear x0 x1 x2 x3 x4 x5 x6
  refine (fputPrincipal_any _ _ _ _ t.a t.b t.c _ hs2.out (by omega) (by omega) (by omega) (by omega)).mono ?_
  rintro e w3 ⟨A3, n3, c3, rfl, hs3, hb3, hf3⟩
  have T3 := Lib.hid (T2.out.keep hb3)
  have B3 := Lib.hid (below_keep hb3 B2.out)
  have hn3 : n3 ≤ 122 := by have h1 := hs3.len; rw [List.length_append, hs2.out.len] at h1; simp [S5.three, S5.text, nums_len] at h1; omega
  replace hs3 := Lib.hid hs3
  clear hb3 hf3 T2 B2 hs2
  obtain ⟨x0, x1, x2, x3, x4, x5, x6⟩ := T3.out
  go_wp2_with (fail)
  clear x0 x1 x2 x3 x4 x5 x6
  refine (fputNumber_any _ _ _ _ t.tm t.l _ hs3.out (by omega)).mono ?_
  rintro e w4 ⟨A4, n4, c4, rfl, hs4, hb4, hf4⟩
  have T4 := Lib.hid (T3.out.keep hb4)
  have B4 := Lib.hid (below_keep hb4 B3.out)
  have hn4 : n4 ≤ 126 := by have h1 := hs4.len; rw [List.length_append, hs3.out.len] at h1; simp [S5.num4_len] at h1; omega
  replace hs4 := Lib.hid hs4
  clear hb4 hf4 T3 B3 hs3
  obtain ⟨x0, x1, x2, x3, x4, x5, x6⟩ := T4.out
  go_wp2_with (fail)
  clear x0 x1 x2 x3 x4 x5 x6
  refine (fputNumber_any _ _ _ _ t.co t.l _ hs4.out (by omega)).mono ?_
  rintro e w5 ⟨A5, n5, c5, rfl, hs5, hb5, hf5⟩
  have T5 := Lib.hid (T4.out.keep hb5)
  have B5 := Lib.hid (below_keep hb5 B4.out)
  have hn5 : n5 ≤ 130 := by have h1 := hs5.len; rw [List.length_append, hs4.out.len] at h1; simp [S5.num4_len] at h1; omega
  replace hs5 := Lib.hid hs5
  clear hb5 hf5 T4 B4 hs4
  obtain ⟨x0, x1, x2, x3, x4, x5, x6⟩ := T5.out
  go_wp2_with (fail)
  clear x0 x1 x2 x3 x4 x5 x6
  refine (fputText_any _ _ _ _ t.s _ hs5.out (by omega) (by omega)).mono ?_
  rintro e w6 ⟨A6, n6, c6, rfl, hs6, hb6, hf6⟩
  have T6 := Lib.hid (T5.out.keep hb6)
  have hf := Lib.hid (hf6.le B5.out.size)
  have B6 := Lib.hid (below_keep hb6 B5.out)
  have hn6 : n6 ≤ 170 := by have h1 := hs6.len; rw [List.length_append, hs5.out.len] at h1; simp [S5.text, nums_len] at h1; omega
  replace hs6 := Lib.hid hs6
  clear hb6 hf6 T5 B5 hs5
  have hq := Lib.hid (show S8.put 5 t.l ++ S5.three (nums t.a) (nums t.b) (nums t.c) ++ S5.num4 t.l t.tm ++ S5.num4 t.l t.co ++ S5.text (nums t.s) = S9e.enc t by unfold S9e.enc S9e.raw S5.three; simp only [List.append_assoc])
  have hs := hs6.out
  rw [hq.out] at hs
  replace hs := Lib.hid hs
  clear hs6 hq
  go_wp2_with (fail)
  go_ret2
  exact ⟨A6, n6, c6, ret_two rfl (ival hE.out.symm), by rw [hB.out]; exact hs.out, B6.out, hf.out⟩

theorem kerenc_any (t : S9e.Er) (f : t.Fit) (w : World) : Calls Tryd.prog 8 #[t.val] w (ErEnc t w) := by
  by_cases h : S9e.chkE t = 0
  · exact kerenc_ok t f w h
  · exact kerenc_err t f w h

end Go.Proofs.YtkhkmgblgonfoaaDoor
