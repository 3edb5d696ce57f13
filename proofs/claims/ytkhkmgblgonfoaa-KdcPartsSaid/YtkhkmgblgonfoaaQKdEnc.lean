/-
  What the encoders of package kdcmessage return.
-/
import Derived.Test.YtkhkmgblgonfoaaQKdChk
import Derived.Test.YtkhkmgblgonfoaaQFieldP
import Derived.Test.YtkhkmgblgonfoaaQKeyBytes
import Derived.Test.YtkhkmgblgonfoaaQHdCode
namespace Go.Proofs.Ytkhkmgblgonfoaa
open Go.RowKit
set_option maxRecDepth 100000

theorem korder_any (b : Bool) (w : World) : Calls Try.prog 42 #[.bool b] w fun e w' => e = .returned (.int .i64 (S9p.flag b)) ∧ w = w' := by
  cases b
  · go_enter Try.func42, Try.ntmps42
    go_wp2
    go_ret
    exact ⟨rfl, rfl⟩
  · go_enter Try.func42, Try.ntmps42
    go_wp2
    go_ret
    exact ⟨rfl, rfl⟩

theorem krqenc_err (t : S9q.Rq) (f : t.Fit) (w : World) (h : S9q.chkE t ≠ 0) : Calls Try.prog 9 #[t.val] w (RqEnc t w) := by
  have Bw := Lib.hid (show Below w.heap.size w (w.alloc (.cells (t.cells) 25)) from (Below.refl _ _).alloc (Nat.le_refl _) _)
  have CC := Lib.hid (fun W => krqcheck_any t f W)
  unfold krqChk at CC
  unfold S9q.Rq.val S9q.Rq.cells at CC
  unfold S9q.Rq.val S9q.Rq.cells
  unfold S9q.Rq.cells at Bw
  have hB := Lib.hid (show S9q.encB t = [] by unfold S9q.encB; rw [if_neg h])
  have hne : (S9q.chkE t != 0) = true := by simpa using h
  clear h
  go_enter Try.func9, Try.ntmps9
  go_wp2_with (fail)
  refine (CC.out _).mono ?_
  rintro e w1 ⟨rfl, hb1⟩
  have B1 := Lib.hid (below_keep hb1 Bw.out)
  clear hb1
  go_wp2_with (fail)
  go_ret2
  exact ⟨none, 0, 0, rfl, by rw [hB.out]; exact Sl.nil _, B1.out, Fresh.nil _⟩

set_option maxHeartbeats 6400000 in
theorem krqenc_ok (t : S9q.Rq) (f : t.Fit) (w : World) (h : S9q.chkE t = 0) : Calls Try.prog 9 #[t.val] w (RqEnc t w) := by
  have Bw := Lib.hid (show Below w.heap.size w (w.alloc (.cells (t.cells) 25)) from (Below.refl _ _).alloc (Nat.le_refl _) _)
  have CC := Lib.hid (fun W => krqcheck_any t f W)
  unfold krqChk at CC
  have T0 := Lib.hid (RqAt.new w t 25)
  have o := S9q.ok_of h
  have l_a : t.a.size ≤ 39 := by have := (S5.vName_ok o.a).2; rwa [nums_len] at this
  have l_b : t.b.size ≤ 39 := by have := (S5.vInst_ok o.b).2; rwa [nums_len] at this
  have l_c : t.c.size ≤ 39 := by have := (S5.vRealm_ok o.c).2; rwa [nums_len] at this
  have l_s : t.s.size ≤ 39 := by have := (S5.vName_ok o.s).2; rwa [nums_len] at this
  have l_i : t.i.size ≤ 39 := by have := (S5.vInst_ok o.i).2; rwa [nums_len] at this
  have hB := Lib.hid (show S9q.encB t = S9q.enc t by unfold S9q.encB; rw [if_pos h])
  have hE := Lib.hid h
  rw [h] at CC
  clear o h
  unfold S9q.Rq.val S9q.Rq.cells at CC
  unfold S9q.Rq.val S9q.Rq.cells
  unfold S9q.Rq.cells at Bw T0
  go_enter Try.func9, Try.ntmps9
  go_wp2_with (fail)
  refine (CC.out _).mono ?_
  rintro e w1 ⟨rfl, hb1⟩
  have T1 := Lib.hid (T0.out.keep hb1)
  have B1 := Lib.hid (below_keep hb1 Bw.out)
  clear hb1 Bw T0
  obtain ⟨x0, x1, x2, x3, x4, x5, x6, x7⟩ := T1.out
  go_wp2_with (fail)
  clear x0 x1 x2 x3 x4 x5 x6 x7
  refine (hput_any 1 t.l _).mono ?_
  rintro e w2 ⟨A2, n2, c2, rfl, hs2, hb2, hf2⟩
  have T2 := Lib.hid (T1.out.keep hb2)
  have B2 := Lib.hid (below_keep hb2 B1.out)
  have hn2 : n2 ≤ 2 := by have h1 := hs2.len; simp [S8.put, S8.okK] at h1; omega
  replace hs2 := Lib.hid hs2
  clear hb2 hf2 T1 B1
  obtain ⟨x0, x1, x2, x3, x4, x5, x6, x7⟩ := T2.out
  go_wp2_with (fail)
  clear x0 x1 x2 x3 x4 x5 x6 x7
  refine (fputPrincipal_any _ _ _ _ t.a t.b t.c _ hs2.out (by omega) (by omega) (by omega) (by omega)).mono ?_
  rintro e w3 ⟨A3, n3, c3, rfl, hs3, hb3, hf3⟩
  have T3 := Lib.hid (T2.out.keep hb3)
  have B3 := Lib.hid (below_keep hb3 B2.out)
  have hn3 : n3 ≤ 122 := by have h1 := hs3.len; rw [List.length_append, hs2.out.len] at h1; simp [S5.three, S5.text, nums_len] at h1; omega
  replace hs3 := Lib.hid hs3
  clear hb3 hf3 T2 B2 hs2
  obtain ⟨x0, x1, x2, x3, x4, x5, x6, x7⟩ := T3.out
  go_wp2_with (fail)
  clear x0 x1 x2 x3 x4 x5 x6 x7
  refine (fputNumber_any _ _ _ _ t.tm t.l _ hs3.out (by omega)).mono ?_
  rintro e w4 ⟨A4, n4, c4, rfl, hs4, hb4, hf4⟩
  have T4 := Lib.hid (T3.out.keep hb4)
  have B4 := Lib.hid (below_keep hb4 B3.out)
  have hn4 : n4 ≤ 126 := by have h1 := hs4.len; rw [List.length_append, hs3.out.len] at h1; simp [S5.num4_len] at h1; omega
  replace hs4 := Lib.hid hs4
  clear hb4 hf4 T3 B3 hs3
  obtain ⟨x0, x1, x2, x3, x4, x5, x6, x7⟩ := T4.out
  go_wp2_with (fail)
  clear x0 x1 x2 x3 x4 x5 x6 x7
  refine (fputOctet_any _ _ _ _ t.li _ hs4.out (by omega)).mono ?_
  rintro e w5 ⟨A5, n5, c5, rfl, hs5, hb5, hf5⟩
  have T5 := Lib.hid (T4.out.keep hb5)
  have B5 := Lib.hid (below_keep hb5 B4.out)
  have hn5 : n5 ≤ 127 := by have h1 := hs5.len; rw [List.length_append, hs4.out.len] at h1; simp [S5.num1] at h1; omega
  replace hs5 := Lib.hid hs5
  clear hb5 hf5 T4 B4 hs4
  obtain ⟨x0, x1, x2, x3, x4, x5, x6, x7⟩ := T5.out
  go_wp2_with (fail)
  clear x0 x1 x2 x3 x4 x5 x6 x7
  refine (fputText_any _ _ _ _ t.s _ hs5.out (by omega) (by omega)).mono ?_
  rintro e w6 ⟨A6, n6, c6, rfl, hs6, hb6, hf6⟩
  have T6 := Lib.hid (T5.out.keep hb6)
  have B6 := Lib.hid (below_keep hb6 B5.out)
  have hn6 : n6 ≤ 167 := by have h1 := hs6.len; rw [List.length_append, hs5.out.len] at h1; simp [S5.text, nums_len] at h1; omega
  replace hs6 := Lib.hid hs6
  clear hb6 hf6 T5 B5 hs5
  obtain ⟨x0, x1, x2, x3, x4, x5, x6, x7⟩ := T6.out
  go_wp2_with (fail)
  clear x0 x1 x2 x3 x4 x5 x6 x7
  refine (fputText_any _ _ _ _ t.i _ hs6.out (by omega) (by omega)).mono ?_
  rintro e w7 ⟨A7, n7, c7, rfl, hs7, hb7, hf7⟩
  have T7 := Lib.hid (T6.out.keep hb7)
  have hf := Lib.hid (hf7.le B6.out.size)
  have B7 := Lib.hid (below_keep hb7 B6.out)
  have hn7 : n7 ≤ 207 := by have h1 := hs7.len; rw [List.length_append, hs6.out.len] at h1; simp [S5.text, nums_len] at h1; omega
  replace hs7 := Lib.hid hs7
  clear hb7 hf7 T6 B6 hs6
  have hq := Lib.hid (show S8.put 1 t.l ++ S5.three (nums t.a) (nums t.b) (nums t.c) ++ S5.num4 t.l t.tm ++ S5.num1 t.li ++ S5.text (nums t.s) ++ S5.text (nums t.i) = S9q.enc t by unfold S9q.enc S9q.raw S5.three; simp only [List.append_assoc])
  have hs := hs7.out
  rw [hq.out] at hs
  replace hs := Lib.hid hs
  clear hs7 hq
  go_wp2_with (fail)
  go_ret2
  exact ⟨A7, n7, c7, ret_two rfl (ival hE.out.symm), by rw [hB.out]; exact hs.out, B7.out, hf.out⟩

theorem krqenc_any (t : S9q.Rq) (f : t.Fit) (w : World) : Calls Try.prog 9 #[t.val] w (RqEnc t w) := by
  by_cases h : S9q.chkE t = 0
  · exact krqenc_ok t f w h
  · exact krqenc_err t f w h

theorem kptenc_err (l : Bool) (t : S9p.Pt) (A : Option Addr) (n cap : Nat) (f : t.Fit) (w : World) (hz : Sl w A n cap t.z) (h : S9p.chkE t ≠ 0) : Calls Try.prog 13 #[(t.val A n cap), .bool l] w (PtEnc l t w) := by
  have Bw := Lib.hid (show Below w.heap.size w (w.alloc (.cells (t.cells A n cap) 40)) from (Below.refl _ _).alloc (Nat.le_refl _) _)
  have CC := Lib.hid (fun W => kptcheck_any t A n cap f W hz.len)
  unfold kptChk at CC
  unfold S9p.Pt.val S9p.Pt.cells at CC
  unfold S9p.Pt.val S9p.Pt.cells
  unfold S9p.Pt.cells at Bw
  have hB := Lib.hid (show S9p.encB l t = [] by unfold S9p.encB; rw [if_neg h])
  have hne : (S9p.chkE t != 0) = true := by simpa using h
  clear h hz
  go_enter Try.func13, Try.ntmps13
  go_wp2_with (fail)
  refine (CC.out _).mono ?_
  rintro e w1 ⟨rfl, hb1⟩
  have B1 := Lib.hid (below_keep hb1 Bw.out)
  clear hb1
  go_wp2_with (fail)
  go_ret2
  exact ⟨none, 0, 0, rfl, by rw [hB.out]; exact Sl.nil _, B1.out, Fresh.nil _⟩

set_option maxHeartbeats 6400000 in
theorem kptenc_ok (l : Bool) (t : S9p.Pt) (A : Option Addr) (n cap : Nat) (f : t.Fit) (w : World) (hz : Sl w A n cap t.z) (h : S9p.chkE t = 0) : Calls Try.prog 13 #[(t.val A n cap), .bool l] w (PtEnc l t w) := by
  have Bw := Lib.hid (show Below w.heap.size w (w.alloc (.cells (t.cells A n cap) 40)) from (Below.refl _ _).alloc (Nat.le_refl _) _)
  have CC := Lib.hid (fun W => kptcheck_any t A n cap f W hz.len)
  unfold kptChk at CC
  have T0 := Lib.hid (PtAt.new w t A n cap 40)
  have o := S9p.ok_of h
  have l_a : t.a.size ≤ 39 := by have := (S5.vName_ok o.a).2; rwa [nums_len] at this
  have l_b : t.b.size ≤ 39 := by have := (S5.vInst_ok o.b).2; rwa [nums_len] at this
  have l_c : t.c.size ≤ 39 := by have := (S5.vRealm_ok o.c).2; rwa [nums_len] at this
  have hln := Lib.hid hz.len
  have hlz : n ≤ 255 := by have h1 := o.z; have h2 := hz.len; omega
  have Z0 := Lib.hid (hz.keep Bw.out)
  have hB := Lib.hid (show S9p.encB l t = S9p.enc l t by unfold S9p.encB; rw [if_pos h])
  have hE := Lib.hid h
  rw [h] at CC
  clear o h hz
  unfold S9p.Pt.val S9p.Pt.cells at CC
  unfold S9p.Pt.val S9p.Pt.cells
  unfold S9p.Pt.cells at Bw T0 Z0
  go_enter Try.func13, Try.ntmps13
  go_wp2_with (fail)
  refine (CC.out _).mono ?_
  rintro e w1 ⟨rfl, hb1⟩
  have T1 := Lib.hid (T0.out.keep hb1)
  have B1 := Lib.hid (below_keep hb1 Bw.out)
  have Z1 := Lib.hid (Z0.out.keep hb1)
  clear hb1 Bw T0 Z0
  obtain ⟨x0, x1, x2, x3, x4, x5, x6, x7⟩ := T1.out
  go_wp2_with ((go_at_call 42; refine (korder_any _ _).mono ?_; rintro e w' ⟨rfl, rfl⟩))
  clear x0 x1 x2 x3 x4 x5 x6 x7
  refine (fputOctetO_any none 0 0 [] (S9p.flag l) _ (Sl.nil _) (by omega)).mono ?_
  rintro e w2 ⟨v2, rfl, ho2, hb2⟩
  have T2 := Lib.hid (T1.out.keep hb2)
  have H2 := Lib.hid hb2
  have Z2 := Lib.hid (Z1.out.keep hb2)
  have hr2 := Lib.hid (show ∀ z ∈ [] ++ S5.num1 (S9p.flag l), 0 ≤ z ∧ z ≤ 255 from S5.num1_range (S9p.flag l))
  have hl2 := Lib.hid (show ([] ++ S5.num1 (S9p.flag l)).length ≤ 1 by simp [S5.num1])
  replace ho2 := Lib.hid ho2
  clear hb2
  obtain ⟨x0, x1, x2, x3, x4, x5, x6, x7⟩ := T2.out
  go_wp2_with (fail)
  clear x0 x1 x2 x3 x4 x5 x6 x7
  refine (kbytes_any _ _ f.k.1 f.k.2).mono ?_
  rintro e w2k ⟨gk, ck, rfl, hgk, hck, hrk, hbk⟩
  have H2k := Lib.hid (below_keep hbk H2.out)
  have ho2k := Lib.hid (Own.below hbk ho2.out)
  replace hrk := Lib.hid hrk
  clear hbk T2 H2 ho2 hgk hck Z2
  go_wp2_with (at_builtin; refine wpList_push_row rfl (.tmp 16) (.tmp 19) 26 rfl Try.underlying26 u8_infoB (base := w1.heap.size) (v := v2) (ys := S3.bytes8 t.k) (A := some ⟨gk, 0, none⟩) (m := 8) (c := ck) rfl rfl ho2k.out hrk.out (by have := hl2.out; omega) (by decide) H2k.out.size ?_; intro v3 w3 ho3 hg3 _; have J := Own.grown H2k.out ho2k.out hg3; clear hg3; obtain ⟨A3, n3, c3, rfl, hs3, hf3⟩ := ho3.slf (range_app hr2.out (S3.bytes8_range _)); clear ho3; have T3 := Lib.hid (T1.out.keep J); have hf3 := Lib.hid (hf3.le B1.out.size); have B3 := Lib.hid (below_keep J B1.out); have Z3 := Lib.hid (Z1.out.keep J); clear J; have hn3 : n3 ≤ 9 := (by have h1 := hs3.len; have h2 := hl2.out; rw [List.length_append, S3.bytes8_len] at h1; omega); replace hs3 := Lib.hid hs3; clear hrk H2k ho2k hr2 hl2 T1 B1 Z1; clear hf3; obtain ⟨x0, x1, x2, x3, x4, x5, x6, x7⟩ := T3.out)
  clear x0 x1 x2 x3 x4 x5 x6 x7
  refine (fputPrincipal_any _ _ _ _ t.a t.b t.c _ hs3.out (by omega) (by omega) (by omega) (by omega)).mono ?_
  rintro e w4 ⟨A4, n4, c4, rfl, hs4, hb4, hf4⟩
  have T4 := Lib.hid (T3.out.keep hb4)
  have B4 := Lib.hid (below_keep hb4 B3.out)
  have Z4 := Lib.hid (Z3.out.keep hb4)
  have hn4 : n4 ≤ 129 := by have h1 := hs4.len; rw [List.length_append, hs3.out.len] at h1; simp [S5.three, S5.text, nums_len] at h1; omega
  replace hs4 := Lib.hid hs4
  clear hb4 hf4 T3 B3 hs3 Z3
  obtain ⟨x0, x1, x2, x3, x4, x5, x6, x7⟩ := T4.out
  go_wp2_with (fail)
  clear x0 x1 x2 x3 x4 x5 x6 x7
  refine (fputOctet_any _ _ _ _ t.li _ hs4.out (by omega)).mono ?_
  rintro e w5 ⟨A5, n5, c5, rfl, hs5, hb5, hf5⟩
  have T5 := Lib.hid (T4.out.keep hb5)
  have B5 := Lib.hid (below_keep hb5 B4.out)
  have Z5 := Lib.hid (Z4.out.keep hb5)
  have hn5 : n5 ≤ 130 := by have h1 := hs5.len; rw [List.length_append, hs4.out.len] at h1; simp [S5.num1] at h1; omega
  replace hs5 := Lib.hid hs5
  clear hb5 hf5 T4 B4 hs4 Z4
  obtain ⟨x0, x1, x2, x3, x4, x5, x6, x7⟩ := T5.out
  go_wp2_with (fail)
  clear x0 x1 x2 x3 x4 x5 x6 x7
  refine (fputOctet_any _ _ _ _ t.kv _ hs5.out (by omega)).mono ?_
  rintro e w6 ⟨A6, n6, c6, rfl, hs6, hb6, hf6⟩
  have T6 := Lib.hid (T5.out.keep hb6)
  have B6 := Lib.hid (below_keep hb6 B5.out)
  have Z6 := Lib.hid (Z5.out.keep hb6)
  have hn6 : n6 ≤ 131 := by have h1 := hs6.len; rw [List.length_append, hs5.out.len] at h1; simp [S5.num1] at h1; omega
  replace hs6 := Lib.hid hs6
  clear hb6 hf6 T5 B5 hs5 Z5
  obtain ⟨x0, x1, x2, x3, x4, x5, x6, x7⟩ := T6.out
  go_wp2_with (fail)
  clear x0 x1 x2 x3 x4 x5 x6 x7
  refine (fputOctetO_any _ _ _ _ (n : Int) _ hs6.out (by omega)).mono ?_
  rintro e w7 ⟨v7, rfl, ho7, hb7⟩
  have T7 := Lib.hid (T6.out.keep hb7)
  have H7 := Lib.hid hb7
  have Z7 := Lib.hid (Z6.out.keep hb7)
  have hr7 := Lib.hid (range_app hs6.out.range (S5.num1_range (n : Int)))
  have hl7 := Lib.hid (show ([] ++ S5.num1 (S9p.flag l) ++ S3.bytes8 t.k ++ S5.three (nums t.a) (nums t.b) (nums t.c) ++ S5.num1 t.li ++ S5.num1 t.kv ++ S5.num1 (n : Int)).length ≤ 132 by rw [List.length_append, hs6.out.len]; simp [S5.num1]; omega)
  replace ho7 := Lib.hid ho7
  clear hb7 hs6
  obtain ⟨x0, x1, x2, x3, x4, x5, x6, x7⟩ := T7.out
  clear T7
  go_wp2_with (at_builtin; refine wpList_push_row rfl (.tmp 38) (.tmp 40) 26 rfl Try.underlying26 u8_infoB (base := w6.heap.size) (v := v7) (ys := t.z) (A := A) (m := n) (c := cap) rfl rfl ho7.out Z7.out.row (by have := hl7.out; omega) (by decide) H7.out.size ?_; intro v8 w8 ho8 hg8 _; have J := Own.grown H7.out ho7.out hg8; clear hg8; obtain ⟨A8, n8, c8, rfl, hs8, hf8⟩ := ho8.slf (range_app hr7.out f.z); clear ho8; have T8 := Lib.hid (T6.out.keep J); have hf8 := Lib.hid (hf8.le B6.out.size); have B8 := Lib.hid (below_keep J B6.out); have Z8 := Lib.hid (Z6.out.keep J); clear J; have hn8 : n8 ≤ 387 := (by have h1 := hs8.len; have h2 := hl7.out; rw [List.length_append, hln.out] at h1; omega); replace hs8 := Lib.hid hs8; clear Z7 H7 ho7 hr7 hl7 T6 B6 Z6 x0 x1 x2 x3 x4 x5 x6 x7; clear hf8; obtain ⟨x0, x1, x2, x3, x4, x5, x6, x7⟩ := T8.out)
  clear x0 x1 x2 x3 x4 x5 x6 x7
  refine (fputNumber_any _ _ _ _ t.tm l _ hs8.out (by omega)).mono ?_
  rintro e w9 ⟨A9, n9, c9, rfl, hs9, hb9, hf9⟩
  have T9 := Lib.hid (T8.out.keep hb9)
  have B9 := Lib.hid (below_keep hb9 B8.out)
  have Z9 := Lib.hid (Z8.out.keep hb9)
  have hn9 : n9 ≤ 391 := by have h1 := hs9.len; rw [List.length_append, hs8.out.len] at h1; simp [S5.num4_len] at h1; omega
  replace hs9 := Lib.hid hs9
  clear hb9 hf9 T8 B8 hs8 Z8
  obtain ⟨x0, x1, x2, x3, x4, x5, x6, x7⟩ := T9.out
  go_wp2_with (fail)
  clear x0 x1 x2 x3 x4 x5 x6 x7
  refine (fpad_any _ _ _ _ _ hs9.out (by omega)).mono ?_
  rintro e w10 ⟨A10, n10, c10, rfl, hs10, hb10, hf10⟩
  have hf := Lib.hid (hf10.le B9.out.size)
  have B10 := Lib.hid (below_keep hb10 B9.out)
  clear hb10 T9 hs9 B9 hf10 Z9
  replace hs10 := Lib.hid hs10
  have hq := Lib.hid (show S5.pad ([] ++ S5.num1 (S9p.flag l) ++ S3.bytes8 t.k ++ S5.three (nums t.a) (nums t.b) (nums t.c) ++ S5.num1 t.li ++ S5.num1 t.kv ++ S5.num1 (n : Int) ++ t.z ++ S5.num4 l t.tm) = S9p.enc l t by unfold S9p.enc S9p.raw S5.three; rw [hln.out]; simp only [List.nil_append, List.append_assoc])
  have hs := hs10.out
  rw [hq.out] at hs
  replace hs := Lib.hid hs
  clear hs10 hq
  go_wp2_with (fail)
  go_ret2
  exact ⟨A10, n10, c10, ret_two rfl (ival hE.out.symm), by rw [hB.out]; exact hs.out, B10.out, hf.out⟩

theorem kptenc_any (l : Bool) (t : S9p.Pt) (A : Option Addr) (n cap : Nat) (f : t.Fit) (w : World) (hz : Sl w A n cap t.z) : Calls Try.prog 13 #[(t.val A n cap), .bool l] w (PtEnc l t w) := by
  by_cases h : S9p.chkE t = 0
  · exact kptenc_ok l t A n cap f w hz h
  · exact kptenc_err l t A n cap f w hz h

theorem krpenc_err (t : S9r.Rp) (A : Option Addr) (n cap : Nat) (f : t.Fit) (w : World) (hz : Sl w A n cap t.z) (h : S9r.chkE t ≠ 0) : Calls Try.prog 18 #[(t.val A n cap)] w (RpEnc t w) := by
  have Bw := Lib.hid (show Below w.heap.size w (w.alloc (.cells (t.cells A n cap) 49)) from (Below.refl _ _).alloc (Nat.le_refl _) _)
  have CC := Lib.hid (fun W => krpcheck_any t A n cap f W hz.len)
  unfold krpChk at CC
  unfold S9r.Rp.val S9r.Rp.cells at CC
  unfold S9r.Rp.val S9r.Rp.cells
  unfold S9r.Rp.cells at Bw
  have hB := Lib.hid (show S9r.encB t = [] by unfold S9r.encB; rw [if_neg h])
  have hne : (S9r.chkE t != 0) = true := by simpa using h
  clear h hz
  go_enter Try.func18, Try.ntmps18
  go_wp2_with (fail)
  refine (CC.out _).mono ?_
  rintro e w1 ⟨rfl, hb1⟩
  have B1 := Lib.hid (below_keep hb1 Bw.out)
  clear hb1
  go_wp2_with (fail)
  go_ret2
  exact ⟨none, 0, 0, rfl, by rw [hB.out]; exact Sl.nil _, B1.out, Fresh.nil _⟩

set_option maxHeartbeats 6400000 in
theorem krpenc_ok (t : S9r.Rp) (A : Option Addr) (n cap : Nat) (f : t.Fit) (w : World) (hz : Sl w A n cap t.z) (h : S9r.chkE t = 0) : Calls Try.prog 18 #[(t.val A n cap)] w (RpEnc t w) := by
  have Bw := Lib.hid (show Below w.heap.size w (w.alloc (.cells (t.cells A n cap) 49)) from (Below.refl _ _).alloc (Nat.le_refl _) _)
  have CC := Lib.hid (fun W => krpcheck_any t A n cap f W hz.len)
  unfold krpChk at CC
  have T0 := Lib.hid (RpAt.new w t A n cap 49)
  have o := S9r.ok_of h
  have l_a : t.a.size ≤ 39 := by have := (S5.vName_ok o.a).2; rwa [nums_len] at this
  have l_b : t.b.size ≤ 39 := by have := (S5.vInst_ok o.b).2; rwa [nums_len] at this
  have l_c : t.c.size ≤ 39 := by have := (S5.vRealm_ok o.c).2; rwa [nums_len] at this
  have hln := Lib.hid hz.len
  have hlz : n ≤ 1012 := by have h1 := o.z; have h2 := hz.len; omega
  have Z0 := Lib.hid (hz.keep Bw.out)
  have hB := Lib.hid (show S9r.encB t = S9r.enc t by unfold S9r.encB; rw [if_pos h])
  have hE := Lib.hid h
  rw [h] at CC
  clear o h hz
  unfold S9r.Rp.val S9r.Rp.cells at CC
  unfold S9r.Rp.val S9r.Rp.cells
  unfold S9r.Rp.cells at Bw T0 Z0
  go_enter Try.func18, Try.ntmps18
  go_wp2_with (fail)
  refine (CC.out _).mono ?_
  rintro e w1 ⟨rfl, hb1⟩
  have T1 := Lib.hid (T0.out.keep hb1)
  have B1 := Lib.hid (below_keep hb1 Bw.out)
  have Z1 := Lib.hid (Z0.out.keep hb1)
  clear hb1 Bw T0 Z0
  obtain ⟨x0, x1, x2, x3, x4, x5, x6, x7⟩ := T1.out
  go_wp2_with (fail)
  clear x0 x1 x2 x3 x4 x5 x6 x7
  refine (hput_any 2 t.l _).mono ?_
  rintro e w2 ⟨A2, n2, c2, rfl, hs2, hb2, hf2⟩
  have T2 := Lib.hid (T1.out.keep hb2)
  have B2 := Lib.hid (below_keep hb2 B1.out)
  have Z2 := Lib.hid (Z1.out.keep hb2)
  have hn2 : n2 ≤ 2 := by have h1 := hs2.len; simp [S8.put, S8.okK] at h1; omega
  replace hs2 := Lib.hid hs2
  clear hb2 hf2 T1 B1 Z1
  obtain ⟨x0, x1, x2, x3, x4, x5, x6, x7⟩ := T2.out
  go_wp2_with (fail)
  clear x0 x1 x2 x3 x4 x5 x6 x7
  refine (fputPrincipal_any _ _ _ _ t.a t.b t.c _ hs2.out (by omega) (by omega) (by omega) (by omega)).mono ?_
  rintro e w3 ⟨A3, n3, c3, rfl, hs3, hb3, hf3⟩
  have T3 := Lib.hid (T2.out.keep hb3)
  have B3 := Lib.hid (below_keep hb3 B2.out)
  have Z3 := Lib.hid (Z2.out.keep hb3)
  have hn3 : n3 ≤ 122 := by have h1 := hs3.len; rw [List.length_append, hs2.out.len] at h1; simp [S5.three, S5.text, nums_len] at h1; omega
  replace hs3 := Lib.hid hs3
  clear hb3 hf3 T2 B2 hs2 Z2
  obtain ⟨x0, x1, x2, x3, x4, x5, x6, x7⟩ := T3.out
  go_wp2_with (fail)
  clear x0 x1 x2 x3 x4 x5 x6 x7
  refine (fputNumber_any _ _ _ _ t.tm t.l _ hs3.out (by omega)).mono ?_
  rintro e w4 ⟨A4, n4, c4, rfl, hs4, hb4, hf4⟩
  have T4 := Lib.hid (T3.out.keep hb4)
  have B4 := Lib.hid (below_keep hb4 B3.out)
  have Z4 := Lib.hid (Z3.out.keep hb4)
  have hn4 : n4 ≤ 126 := by have h1 := hs4.len; rw [List.length_append, hs3.out.len] at h1; simp [S5.num4_len] at h1; omega
  replace hs4 := Lib.hid hs4
  clear hb4 hf4 T3 B3 hs3 Z3
  obtain ⟨x0, x1, x2, x3, x4, x5, x6, x7⟩ := T4.out
  go_wp2_with (fail)
  clear x0 x1 x2 x3 x4 x5 x6 x7
  refine (fputOctet_any _ _ _ _ 1 _ hs4.out (by omega)).mono ?_
  rintro e w5 ⟨A5, n5, c5, rfl, hs5, hb5, hf5⟩
  have T5 := Lib.hid (T4.out.keep hb5)
  have B5 := Lib.hid (below_keep hb5 B4.out)
  have Z5 := Lib.hid (Z4.out.keep hb5)
  have hn5 : n5 ≤ 127 := by have h1 := hs5.len; rw [List.length_append, hs4.out.len] at h1; simp [S5.num1] at h1; omega
  replace hs5 := Lib.hid hs5
  clear hb5 hf5 T4 B4 hs4 Z4
  obtain ⟨x0, x1, x2, x3, x4, x5, x6, x7⟩ := T5.out
  go_wp2_with (fail)
  clear x0 x1 x2 x3 x4 x5 x6 x7
  refine (fputNumber_any _ _ _ _ t.ex t.l _ hs5.out (by omega)).mono ?_
  rintro e w6 ⟨A6, n6, c6, rfl, hs6, hb6, hf6⟩
  have T6 := Lib.hid (T5.out.keep hb6)
  have B6 := Lib.hid (below_keep hb6 B5.out)
  have Z6 := Lib.hid (Z5.out.keep hb6)
  have hn6 : n6 ≤ 131 := by have h1 := hs6.len; rw [List.length_append, hs5.out.len] at h1; simp [S5.num4_len] at h1; omega
  replace hs6 := Lib.hid hs6
  clear hb6 hf6 T5 B5 hs5 Z5
  obtain ⟨x0, x1, x2, x3, x4, x5, x6, x7⟩ := T6.out
  go_wp2_with (fail)
  clear x0 x1 x2 x3 x4 x5 x6 x7
  refine (fputOctet_any _ _ _ _ t.kv _ hs6.out (by omega)).mono ?_
  rintro e w7 ⟨A7, n7, c7, rfl, hs7, hb7, hf7⟩
  have T7 := Lib.hid (T6.out.keep hb7)
  have B7 := Lib.hid (below_keep hb7 B6.out)
  have Z7 := Lib.hid (Z6.out.keep hb7)
  have hn7 : n7 ≤ 132 := by have h1 := hs7.len; rw [List.length_append, hs6.out.len] at h1; simp [S5.num1] at h1; omega
  replace hs7 := Lib.hid hs7
  clear hb7 hf7 T6 B6 hs6 Z6
  obtain ⟨x0, x1, x2, x3, x4, x5, x6, x7⟩ := T7.out
  go_wp2_with (fail)
  clear x0 x1 x2 x3 x4 x5 x6 x7
  refine (fputShortO_any _ _ _ _ (n : Int) t.l _ hs7.out (by omega)).mono ?_
  rintro e w8 ⟨v8, rfl, ho8, hb8⟩
  have T8 := Lib.hid (T7.out.keep hb8)
  have H8 := Lib.hid hb8
  have Z8 := Lib.hid (Z7.out.keep hb8)
  have hr8 := Lib.hid (range_app hs7.out.range (S5.num2_range t.l (n : Int)))
  have hl8 := Lib.hid (show (S8.put 2 t.l ++ S5.three (nums t.a) (nums t.b) (nums t.c) ++ S5.num4 t.l t.tm ++ S5.num1 1 ++ S5.num4 t.l t.ex ++ S5.num1 t.kv ++ S5.num2 t.l (n : Int)).length ≤ 134 by rw [List.length_append, hs7.out.len]; simp [S5.num2_len]; omega)
  replace ho8 := Lib.hid ho8
  clear hb8 hs7
  obtain ⟨x0, x1, x2, x3, x4, x5, x6, x7⟩ := T8.out
  clear T8
  go_wp2_with (at_builtin; refine wpList_push_row rfl (.tmp 43) (.tmp 45) 26 rfl Try.underlying26 u8_infoB (base := w7.heap.size) (v := v8) (ys := t.z) (A := A) (m := n) (c := cap) rfl rfl ho8.out Z8.out.row (by have := hl8.out; omega) (by decide) H8.out.size ?_; intro v9 w9 ho9 hg9 _; have J := Own.grown H8.out ho8.out hg9; clear hg9; obtain ⟨A9, n9, c9, rfl, hs9, hf9⟩ := ho9.slf (range_app hr8.out f.z); clear ho9; have T9 := Lib.hid (T7.out.keep J); have hf9 := Lib.hid (hf9.le B7.out.size); have B9 := Lib.hid (below_keep J B7.out); have Z9 := Lib.hid (Z7.out.keep J); clear J; have hn9 : n9 ≤ 1146 := (by have h1 := hs9.len; have h2 := hl8.out; rw [List.length_append, hln.out] at h1; omega); replace hs9 := Lib.hid hs9; clear Z8 H8 ho8 hr8 hl8 T7 B7 Z7 x0 x1 x2 x3 x4 x5 x6 x7; have hf := hf9)
  have hq := Lib.hid (show S8.put 2 t.l ++ S5.three (nums t.a) (nums t.b) (nums t.c) ++ S5.num4 t.l t.tm ++ S5.num1 1 ++ S5.num4 t.l t.ex ++ S5.num1 t.kv ++ S5.num2 t.l (n : Int) ++ t.z = S9r.enc t by unfold S9r.enc S9r.raw S5.three; rw [hln.out]; simp only [List.append_assoc])
  have hs := hs9.out
  rw [hq.out] at hs
  replace hs := Lib.hid hs
  clear hs9 hq
  go_wp2_with (fail)
  go_ret2
  exact ⟨A9, n9, c9, ret_two rfl (ival hE.out.symm), by rw [hB.out]; exact hs.out, B9.out, hf.out⟩

theorem krpenc_any (t : S9r.Rp) (A : Option Addr) (n cap : Nat) (f : t.Fit) (w : World) (hz : Sl w A n cap t.z) : Calls Try.prog 18 #[(t.val A n cap)] w (RpEnc t w) := by
  by_cases h : S9r.chkE t = 0
  · exact krpenc_ok t A n cap f w hz h
  · exact krpenc_err t A n cap f w hz h




end Go.Proofs.Ytkhkmgblgonfoaa
