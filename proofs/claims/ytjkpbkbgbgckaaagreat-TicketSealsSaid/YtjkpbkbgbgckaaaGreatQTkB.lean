/-
  What Encode of the document's answer for tickets returns.
-/
import Derived.Test.YtjkpbkbgbgckaaaGreatQTkA
import Derived.Test.YtjkpbkbgbgckaaaGreatQFieldR
import Derived.Test.YtjkpbkbgbgckaaaGreatQFieldRP
import Derived.Test.YtjkpbkbgbgckaaaGreatQKeyRB
import Derived.Test.YtjkpbkbgbgckaaaGreatQGrow
import Derived.Deep.RegionHeld3
namespace Go.Proofs.YtjkpbkbgbgckaaaGreat
open Go.RowKit

/-- What Encode returns. -/
def EncOut (t : S6.Tk) (w : World) (e : Ending) (w' : World) : Prop :=
  ∃ A n cap, e = .returned (.tuple #[.slice A n cap, .int .i64 (S6.chkE t)]) ∧ Sl w' A n cap (S6.encB t) ∧ Below w.heap.size w w' ∧ Fresh w.heap.size A

set_option maxRecDepth 100000 in
set_option maxHeartbeats 3200000 in
theorem r6encode_err (t : S6.Tk) (f : t.Fit) (w : World) (h : S6.chkE t ≠ 0) : Calls Tryz.prog 20 #[t.val] w (EncOut t w) := by
  have HB := Lib.hid (show S6.encB t = [] by unfold S6.encB; rw [if_neg h])
  have Bw := Lib.hid (show Below w.heap.size w (w.alloc (.cells t.cells 27)) from (Below.refl _ _).alloc (Nat.le_refl _) _)
  have CH := Lib.hid (fun W => r6check_any t f W)
  unfold S6.Tk.val S6.Tk.cells at CH
  unfold S6.Tk.val S6.Tk.cells
  unfold S6.Tk.cells at Bw
  have h0 : (S6.chkE t != 0) = true := by simpa using h
  clear h
  go_enter Tryz.func20, Tryz.ntmps20
  go_wp2_with (fail)
  refine (CH.out _).mono ?_
  rintro e w1 ⟨rfl, hb1⟩
  have B1 := below_keep hb1 Bw.out
  go_wp2_with (fail)
  go_ret2
  exact ⟨none, 0, 0, rfl, by rw [HB.out]; exact Sl.nil _, B1, Fresh.nil _⟩

set_option maxRecDepth 100000 in
set_option maxHeartbeats 3200000 in
theorem r6encode_true (t : S6.Tk) (f : t.Fit) (w : World) (h : S6.chkE t = 0) (hl : t.l = true) : Calls Tryz.prog 20 #[t.val] w (EncOut t w) := by
  have HE := Lib.hid h
  have hne : (S6.chkE t != 0) = false := by simpa using h
  have HB := Lib.hid (show S6.encB t = S6.enc t by unfold S6.encB; rw [if_pos h])
  have HO := Lib.hid (S6.ok_of h)
  have Bw := Lib.hid (show Below w.heap.size w (w.alloc (.cells t.cells 27)) from (Below.refl _ _).alloc (Nat.le_refl _) _)
  have T0 := Lib.hid (TkAt.new w t 27)
  have CH := Lib.hid (fun W => r6check_any t f W)
  unfold S6.Tk.val S6.Tk.cells at CH
  unfold S6.Tk.val S6.Tk.cells
  unfold S6.Tk.cells at Bw T0
  rw [hl] at CH Bw T0
  have la : t.a.size ≤ 39 := by have := (S5.vName_ok HO.out.a).2; rwa [nums_len] at this
  have lb : t.b.size ≤ 39 := by have := (S5.vInst_ok HO.out.b).2; rwa [nums_len] at this
  have lc : t.c.size ≤ 39 := by have := (S5.vRealm_ok HO.out.c).2; rwa [nums_len] at this
  have ls : t.s.size ≤ 39 := by have := (S5.vName_ok HO.out.s).2; rwa [nums_len] at this
  have li : t.i.size ≤ 39 := by have := (S5.vInst_ok HO.out.i).2; rwa [nums_len] at this
  go_enter Tryz.func20, Tryz.ntmps20
  go_wp2_with (fail)
  refine (CH.out _).mono ?_
  rintro e w1 ⟨rfl, hb1⟩
  have B1 := Lib.hid (below_keep hb1 Bw.out)
  have T1 := Lib.hid (T0.out.keep hb1)
  obtain ⟨x0, x1, x2, x3, x4, x5, x6, x7, x8, x9⟩ := T0.out.keep hb1
  clear hb1 h
  go_wp2_with (fail)
  clear x0 x1 x2 x3 x4 x5 x6 x7 x8 x9
  refine wp_region_held_drew (S := (fun W => Below w1.heap.size w1 W ∧ TkAt W w.heap.size t)) (by kernel_rfl) ⟨(Below.refl _ _).drew, T1.out.drew⟩ (fun hS => ?_)
  clear T1
  refine' wpAnyH_take (i := 0) (v := ?va0) rfl (by kernel_rfl) (by kernel_rfl) (by kernel_rfl) (fun _ _ _ h => h) (Or.inl ⟨by kernel_rfl, fun W hW => ?ya0⟩) hS ?ra0
  case ya0 => (go_simp; first | done | with_reducible rfl | (rw [if_pos (by omega)]))
  refine' wpAnyH_take (i := 2) (v := ?va2) rfl (by kernel_rfl) (by kernel_rfl) (by kernel_rfl) (fun _ _ _ h => h) (Or.inl ⟨by kernel_rfl, fun W hW => ?ya2⟩) hS ?ra2
  case ya2 => (go_simp; first | done | with_reducible rfl | (rw [if_pos (by omega)]))
  refine' wpAnyH_take (i := 3) (v := ?va3) rfl (by kernel_rfl) (by kernel_rfl) (by kernel_rfl) (fun _ _ _ h => h) (Or.inl ⟨by kernel_rfl, fun W hW => ?ya3⟩) hS ?ra3
  case ya3 => (obtain ⟨x0, x1, x2, x3, x4, x5, x6, x7, x8, x9⟩ := hW.2; go_simp; first | done | with_reducible rfl | (rw [if_pos (by omega)]))
  refine wpAnyH_ready (rs := [1]) (by kernel_rfl) (by simp) ?_
  refine AllReadyH.cons rfl (fun K hK => ?_) AllReadyH.nil
  go_simp
  refine (r5putOctet_any none 0 0 [] (S6.flag true) _ (Sl.nil _) (by decide)).mono ?_
  rintro e w2 ⟨A2, n2, c2, rfl, hs2, hb2, _⟩
  go_wp2_with (fail)
  have hb2' := below_keep hb2 hS.1
  refine hK.out _ _ ⟨hb2', hS.2.keep hb2⟩ (fun hS2 => ?_)
  clear hK K
  have B2 := Lib.hid (below_keep hb2' B1.out)
  replace hs2 := Lib.hid hs2
  refine held_grow (S' := (fun W => Below w2.heap.size w2 W ∧ TkAt W w.heap.size t)) (fun W hW => ⟨below_keep hW.1 hb2', hW.2⟩) _ _ _ _ ?_
  replace hS : Below w2.heap.size w2 w2 ∧ TkAt w2 w.heap.size t := ⟨Below.refl _ _, hS2.2⟩
  clear hS2 hb2 hb2' B1
  refine wpAnyH_ready (rs := [4]) (by kernel_rfl) (by simp) ?_
  refine AllReadyH.cons rfl (fun K hK => ?_) AllReadyH.nil
  go_simp
  refine (r5putPrincipal_any _ _ _ _ t.a t.b t.c _ (hs2.out.keep hS.1) (by have := hs2.out.len; simp [S5.num1] at this; omega) (by omega) (by omega) (by omega)).mono ?_
  rintro e w3 ⟨A3, n3, c3, rfl, hs3, hb3, _⟩
  go_wp2_with (fail)
  have hb3' := below_keep hb3 hS.1
  refine hK.out _ _ ⟨hb3', hS.2.keep hb3⟩ (fun hS2 => ?_)
  clear hK K
  have B3 := Lib.hid (below_keep hb3' B2.out)
  replace hs3 := Lib.hid hs3
  clear hs2
  refine held_grow (S' := (fun W => Below w3.heap.size w3 W ∧ TkAt W w.heap.size t)) (fun W hW => ⟨below_keep hW.1 hb3', hW.2⟩) _ _ _ _ ?_
  replace hS : Below w3.heap.size w3 w3 ∧ TkAt w3 w.heap.size t := ⟨Below.refl _ _, hS2.2⟩
  clear hS2 hb3 hb3' B2
  refine' wpAnyH_take (i := 5) (v := ?va5) rfl (by kernel_rfl) (by kernel_rfl) (by kernel_rfl) (fun _ _ _ h => h) (Or.inl ⟨by kernel_rfl, fun W hW => ?ya5⟩) hS ?ra5
  case ya5 => (go_simp; first | done | with_reducible rfl | (rw [if_pos (by omega)]))
  refine wpAnyH_done (by kernel_rfl) ?_ _
  have T3 := Lib.hid hS.2
  clear hS
  go_wp2_with (fail)
  refine wp_region_held_drew (S := (fun W => Below w3.heap.size w3 W ∧ TkAt W w.heap.size t)) (by kernel_rfl) ⟨(Below.refl _ _).drew, T3.out.drew⟩ (fun hS => ?_)
  refine' wpAnyH_take (i := 0) (v := ?vb0) rfl (by kernel_rfl) (by kernel_rfl) (by kernel_rfl) (fun _ _ _ h => h) (Or.inl ⟨by kernel_rfl, fun W hW => ?yb0⟩) hS ?rb0
  case yb0 => (go_simp; first | done | with_reducible rfl | (rw [if_pos (by omega)]))
  refine' wpAnyH_take (i := 1) (v := ?vb1) rfl (by kernel_rfl) (by kernel_rfl) (by kernel_rfl) (fun _ _ _ h => h) (Or.inl ⟨by kernel_rfl, fun W hW => ?yb1⟩) hS ?rb1
  case yb1 => (go_simp; first | done | with_reducible rfl | (rw [if_pos (by omega)]))
  refine' wpAnyH_take (i := 2) (v := ?vb2) rfl (by kernel_rfl) (by kernel_rfl) (by kernel_rfl) (fun _ _ _ h => h) (Or.inl ⟨by kernel_rfl, fun W hW => ?yb2⟩) hS ?rb2
  case yb2 => (obtain ⟨x0, x1, x2, x3, x4, x5, x6, x7, x8, x9⟩ := hW.2; go_simp; first | done | with_reducible rfl | (rw [if_pos (by omega)]))
  refine' wpAnyH_take (i := 3) (v := ?vb3) rfl (by kernel_rfl) (by kernel_rfl) (by kernel_rfl) (fun _ _ _ h => h) (Or.inl ⟨by kernel_rfl, fun W hW => ?yb3⟩) hS ?rb3
  case yb3 => (go_simp; first | done | with_reducible rfl | (rw [if_pos (by omega)]))
  refine' wpAnyH_take (i := 4) (v := ?vb4) rfl (by kernel_rfl) (by kernel_rfl) (by kernel_rfl) (fun _ _ _ h => h) (Or.inl ⟨by kernel_rfl, fun W hW => ?yb4⟩) hS ?rb4
  case yb4 => (obtain ⟨x0, x1, x2, x3, x4, x5, x6, x7, x8, x9⟩ := hW.2; go_simp; first | done | with_reducible rfl | (rw [if_pos (by omega)]))
  refine' wpAnyH_take (i := 6) (v := ?vb6) rfl (by kernel_rfl) (by kernel_rfl) (by kernel_rfl) (fun _ _ _ h => h) (Or.inl ⟨by kernel_rfl, fun W hW => ?yb6⟩) hS ?rb6
  case yb6 => (go_simp; first | done | with_reducible rfl | (rw [if_pos (by omega)]))
  refine' wpAnyH_take (i := 7) (v := ?vb7) rfl (by kernel_rfl) (by kernel_rfl) (by kernel_rfl) (fun _ _ _ h => h) (Or.inl ⟨by kernel_rfl, fun W hW => ?yb7⟩) hS ?rb7
  case yb7 => (obtain ⟨x0, x1, x2, x3, x4, x5, x6, x7, x8, x9⟩ := hW.2; go_simp; first | done | with_reducible rfl | (rw [if_pos (by omega)]))
  refine wpAnyH_ready (rs := [5]) (by kernel_rfl) (by simp) ?_
  refine AllReadyH.cons rfl (fun K hK => ?_) AllReadyH.nil
  go_simp
  refine (r5putNumberO_any _ _ _ _ t.ad true _ (hs3.out.keep hS.1) (by have := hs3.out.len; simp [S5.num1, S5.three, S5.text, nums_len] at this; omega)).mono ?_
  rintro e w4 ⟨v4, rfl, ho4, hb4⟩
  go_wp2_with (fail)
  replace ho4 := Lib.hid (ho4.base hS.1.size)
  have hS' := And.intro (below_keep hb4 hS.1) (hS.2.keep hb4)
  refine hK.out _ _ hS' (fun hS2 => ?_)
  clear hK K hS' hS
  have hS := hS2
  clear hS2
  clear hb4
  refine wpAnyH_ready (rs := [8]) (by kernel_rfl) (by simp) ?_
  refine AllReadyH.cons rfl (fun K hK => ?_) AllReadyH.nil
  go_simp
  refine (r3bytes_any t.k _ f.k.1 f.k.2).mono ?_
  rintro e w5 ⟨g5, c5, rfl, hg5, hr5, hb5⟩
  go_wp2_with (fail)
  replace ho4 := Lib.hid (Own.below hb5 ho4.out)
  replace hr5 := Lib.hid hr5
  have hS' := And.intro (below_keep hb5 hS.1) (hS.2.keep hb5)
  refine hK.out _ _ hS' (fun hS2 => ?_)
  clear hK K hS' hS
  have hS := hS2
  clear hS2
  clear hb5 hg5
  refine wpAnyH_ready (rs := [9]) (by kernel_rfl) (by simp) ?_
  refine AllReadyH.cons rfl (fun K hK => ?_) AllReadyH.nil
  have hl3 := Lib.hid hs3.out.len
  refine wp_push_row (.tmp 24) (.tmp 27) 28 rfl Tryz.underlying28 u8_infoB (base := w3.heap.size) (v := v4) (ys := S3.bytes8 t.k) (A := some ⟨g5, 0, none⟩) (m := 8) (c := c5) (by kernel_rfl) (by kernel_rfl) ho4.out hr5.out (by simp [S5.num1, S5.three, S5.text, nums_len, S5.num4_len]; omega) (by decide) hS.1.size ?_
  intro v6 w6 ho6 hg6 _
  have B36 := Own.grown hS.1 ho4.out hg6
  obtain ⟨A6, n6, c6, rfl, hs6, _⟩ := ho6.slf (range_app (range_app hs3.out.range (S5.num4_range _ _)) (S3.bytes8_range _))
  have hn6 : n6 ≤ 200 := by have := hs6.len; simp [S5.num1, S5.three, S5.text, nums_len, S5.num4_len, S3.bytes8_len] at this; omega
  have hS' := And.intro B36 (T3.out.keep B36)
  refine hK.out _ _ hS' (fun hS2 => ?_)
  clear hK K hS' hS hl3 hs3 ho4 hr5 hg6 ho6 B36
  have hS := hS2
  clear hS2
  obtain ⟨Z6, hZ6⟩ : ∃ Z6, Z6 = [] ++ S5.num1 (S6.flag true) ++ S5.three (nums t.a) (nums t.b) (nums t.c) ++ S5.num4 true t.ad ++ S3.bytes8 t.k := ⟨_, rfl⟩
  rw [← hZ6] at hs6
  replace hZ6 := Lib.hid hZ6
  replace hs6 := Lib.hid hs6
  refine' wpAnyH_take (i := 10) (v := ?vb10) rfl (by kernel_rfl) (by kernel_rfl) (by kernel_rfl) (fun _ _ _ h => h) (Or.inl ⟨by kernel_rfl, fun W hW => ?yb10⟩) hS ?rb10
  case yb10 => (go_simp; first | done | with_reducible rfl | (rw [if_pos (by omega)]))
  refine wpAnyH_done (by kernel_rfl) ?_ _
  have T6 := Lib.hid hS.2
  have B6 := Lib.hid (below_keep hS.1 B3.out)
  clear hS B3 T3
  go_wp2_with (fail)
  refine wp_region_held_drew (S := (fun W => Below w6.heap.size w6 W ∧ TkAt W w.heap.size t)) (by kernel_rfl) ⟨(Below.refl _ _).drew, T6.out.drew⟩ (fun hS => ?_)
  refine' wpAnyH_take (i := 0) (v := ?vc0) rfl (by kernel_rfl) (by kernel_rfl) (by kernel_rfl) (fun _ _ _ h => h) (Or.inl ⟨by kernel_rfl, fun W hW => ?yc0⟩) hS ?rc0
  case yc0 => (go_simp; first | done | with_reducible rfl | (rw [if_pos (by omega)]))
  refine' wpAnyH_take (i := 1) (v := ?vc1) rfl (by kernel_rfl) (by kernel_rfl) (by kernel_rfl) (fun _ _ _ h => h) (Or.inl ⟨by kernel_rfl, fun W hW => ?yc1⟩) hS ?rc1
  case yc1 => (go_simp; first | done | with_reducible rfl | (rw [if_pos (by omega)]))
  refine' wpAnyH_take (i := 2) (v := ?vc2) rfl (by kernel_rfl) (by kernel_rfl) (by kernel_rfl) (fun _ _ _ h => h) (Or.inl ⟨by kernel_rfl, fun W hW => ?yc2⟩) hS ?rc2
  case yc2 => (obtain ⟨x0, x1, x2, x3, x4, x5, x6, x7, x8, x9⟩ := hW.2; go_simp; first | done | with_reducible rfl | (rw [if_pos (by omega)]))
  refine' wpAnyH_take (i := 4) (v := ?vc4) rfl (by kernel_rfl) (by kernel_rfl) (by kernel_rfl) (fun _ _ _ h => h) (Or.inl ⟨by kernel_rfl, fun W hW => ?yc4⟩) hS ?rc4
  case yc4 => (go_simp; first | done | with_reducible rfl | (rw [if_pos (by omega)]))
  refine' wpAnyH_take (i := 5) (v := ?vc5) rfl (by kernel_rfl) (by kernel_rfl) (by kernel_rfl) (fun _ _ _ h => h) (Or.inl ⟨by kernel_rfl, fun W hW => ?yc5⟩) hS ?rc5
  case yc5 => (obtain ⟨x0, x1, x2, x3, x4, x5, x6, x7, x8, x9⟩ := hW.2; go_simp; first | done | with_reducible rfl | (rw [if_pos (by omega)]))
  refine' wpAnyH_take (i := 6) (v := ?vc6) rfl (by kernel_rfl) (by kernel_rfl) (by kernel_rfl) (fun _ _ _ h => h) (Or.inl ⟨by kernel_rfl, fun W hW => ?yc6⟩) hS ?rc6
  case yc6 => (go_simp; first | done | with_reducible rfl | (rw [if_pos (by omega)]))
  refine' wpAnyH_take (i := 7) (v := ?vc7) rfl (by kernel_rfl) (by kernel_rfl) (by kernel_rfl) (fun _ _ _ h => h) (Or.inl ⟨by kernel_rfl, fun W hW => ?yc7⟩) hS ?rc7
  case yc7 => (obtain ⟨x0, x1, x2, x3, x4, x5, x6, x7, x8, x9⟩ := hW.2; go_simp; first | done | with_reducible rfl | (rw [if_pos (by omega)]))
  refine wpAnyH_ready (rs := [3]) (by kernel_rfl) (by simp) ?_
  refine AllReadyH.cons rfl (fun K hK => ?_) AllReadyH.nil
  go_simp
  refine (r5putOctet_any _ _ _ _ t.li _ (hs6.out.keep hS.1) (by omega)).mono ?_
  rintro e w7 ⟨A7, n7, c7, rfl, hs7, hb7, _⟩
  go_wp2_with (fail)
  have hn7 : n7 ≤ 201 := by have := hs7.len; simp [S5.num1, hs6.out.len] at this; omega
  replace hs7 := Lib.hid hs7
  have hS' := And.intro (below_keep hb7 hS.1) (hS.2.keep hb7)
  refine hK.out _ _ hS' (fun hS2 => ?_)
  clear hK K hS' hS
  have hS := hS2
  clear hS2
  clear hb7
  refine wpAnyH_ready (rs := [8]) (by kernel_rfl) (by simp) ?_
  refine AllReadyH.cons rfl (fun K hK => ?_) AllReadyH.nil
  go_simp
  refine (r5putNumber_any _ _ _ _ t.is true _ hs7.out (by omega)).mono ?_
  rintro e w8 ⟨A8, n8, c8, rfl, hs8, hb8, _⟩
  go_wp2_with (fail)
  have hn8 : n8 ≤ 205 := by have := hs8.len; rw [List.length_append, hs7.out.len, S5.num4_len] at this; omega
  replace hs8 := Lib.hid hs8
  have hS' := And.intro (below_keep hb8 hS.1) (hS.2.keep hb8)
  refine hK.out _ _ hS' (fun hS2 => ?_)
  clear hK K hS' hS
  have hS := hS2
  clear hS2
  clear hb8
  refine' wpAnyH_take (i := 9) (v := ?vc9) rfl (by kernel_rfl) (by kernel_rfl) (by kernel_rfl) (fun _ _ _ h => h) (Or.inl ⟨by kernel_rfl, fun W hW => ?yc9⟩) hS ?rc9
  case yc9 => (go_simp; first | done | with_reducible rfl | (rw [if_pos (by omega)]))
  refine wpAnyH_done (by kernel_rfl) ?_ _
  have T8 := Lib.hid hS.2
  have B8 := Lib.hid (below_keep hS.1 B6.out)
  clear hS B6 T6
  go_wp2_with (fail)
  refine wp_region_held_drew (S := (fun W => Below w8.heap.size w8 W ∧ TkAt W w.heap.size t)) (by kernel_rfl) ⟨(Below.refl _ _).drew, T8.out.drew⟩ (fun hS => ?_)
  refine' wpAnyH_take (i := 0) (v := ?vd0) rfl (by kernel_rfl) (by kernel_rfl) (by kernel_rfl) (fun _ _ _ h => h) (Or.inl ⟨by kernel_rfl, fun W hW => ?yd0⟩) hS ?rd0
  case yd0 => (go_simp; first | done | with_reducible rfl | (rw [if_pos (by omega)]))
  refine' wpAnyH_take (i := 1) (v := ?vd1) rfl (by kernel_rfl) (by kernel_rfl) (by kernel_rfl) (fun _ _ _ h => h) (Or.inl ⟨by kernel_rfl, fun W hW => ?yd1⟩) hS ?rd1
  case yd1 => (go_simp; first | done | with_reducible rfl | (rw [if_pos (by omega)]))
  refine' wpAnyH_take (i := 2) (v := ?vd2) rfl (by kernel_rfl) (by kernel_rfl) (by kernel_rfl) (fun _ _ _ h => h) (Or.inl ⟨by kernel_rfl, fun W hW => ?yd2⟩) hS ?rd2
  case yd2 => (obtain ⟨x0, x1, x2, x3, x4, x5, x6, x7, x8, x9⟩ := hW.2; go_simp; first | done | with_reducible rfl | (rw [if_pos (by omega)]))
  refine' wpAnyH_take (i := 4) (v := ?vd4) rfl (by kernel_rfl) (by kernel_rfl) (by kernel_rfl) (fun _ _ _ h => h) (Or.inl ⟨by kernel_rfl, fun W hW => ?yd4⟩) hS ?rd4
  case yd4 => (go_simp; first | done | with_reducible rfl | (rw [if_pos (by omega)]))
  refine' wpAnyH_take (i := 5) (v := ?vd5) rfl (by kernel_rfl) (by kernel_rfl) (by kernel_rfl) (fun _ _ _ h => h) (Or.inl ⟨by kernel_rfl, fun W hW => ?yd5⟩) hS ?rd5
  case yd5 => (obtain ⟨x0, x1, x2, x3, x4, x5, x6, x7, x8, x9⟩ := hW.2; go_simp; first | done | with_reducible rfl | (rw [if_pos (by omega)]))
  refine wpAnyH_ready (rs := [3]) (by kernel_rfl) (by simp) ?_
  refine AllReadyH.cons rfl (fun K hK => ?_) AllReadyH.nil
  go_simp
  refine (r5putText_any _ _ _ _ t.s _ (hs8.out.keep hS.1) (by omega) (by omega)).mono ?_
  rintro e w9 ⟨A9, n9, d9, rfl, hs9, hb9, _⟩
  go_wp2_with (fail)
  have hn9 : n9 ≤ 245 := by have := hs9.len; rw [List.length_append, hs8.out.len] at this; simp [S5.text, nums_len] at this; omega
  replace hs9 := Lib.hid hs9
  have hS' := And.intro (below_keep hb9 hS.1) (hS.2.keep hb9)
  refine hK.out _ _ hS' (fun hS2 => ?_)
  clear hK K hS' hS
  have hS := hS2
  clear hS2
  clear hb9
  refine wpAnyH_ready (rs := [6]) (by kernel_rfl) (by simp) ?_
  refine AllReadyH.cons rfl (fun K hK => ?_) AllReadyH.nil
  go_simp
  refine (r5putText_any _ _ _ _ t.i _ hs9.out (by omega) (by omega)).mono ?_
  rintro e w10 ⟨A10, n10, d10, rfl, hs10, hb10, _⟩
  go_wp2_with (fail)
  have hn10 : n10 ≤ 285 := by have := hs10.len; rw [List.length_append, hs9.out.len] at this; simp [S5.text, nums_len] at this; omega
  replace hs10 := Lib.hid hs10
  have hS' := And.intro (below_keep hb10 hS.1) (hS.2.keep hb10)
  refine hK.out _ _ hS' (fun hS2 => ?_)
  clear hK K hS' hS
  have hS := hS2
  clear hS2
  clear hb10
  refine wpAnyH_ready (rs := [7]) (by kernel_rfl) (by simp) ?_
  refine AllReadyH.cons rfl (fun K hK => ?_) AllReadyH.nil
  go_simp
  refine (r5pad_any _ _ _ _ _ hs10.out (by omega)).mono ?_
  rintro e w11 ⟨A11, n11, d11, rfl, hs11, hb11, hf11⟩
  go_wp2_with (fail)
  have hf := hf11.le (Nat.le_trans B8.out.size hS.1.size)
  replace hs11 := Lib.hid hs11
  have hS' := And.intro (below_keep hb11 hS.1) (hS.2.keep hb11)
  refine hK.out _ _ hS' (fun hS2 => ?_)
  clear hK K hS' hS
  have hS := hS2
  clear hS2
  clear hb11
  refine' wpAnyH_take (i := 8) (v := ?vd8) rfl (by kernel_rfl) (by kernel_rfl) (by kernel_rfl) (fun _ _ _ h => h) (Or.inl ⟨by kernel_rfl, fun W hW => ?yd8⟩) hS ?rd8
  case yd8 => (go_simp; first | done | with_reducible rfl | (rw [if_pos (by omega)]))
  refine' wpAnyH_take (i := 9) (v := ?vd9) rfl (by kernel_rfl) (by kernel_rfl) (by kernel_rfl) (fun _ _ _ h => h) (Or.inl ⟨by kernel_rfl, fun W hW => ?yd9⟩) hS ?rd9
  case yd9 => (go_simp; first | done | with_reducible rfl | (rw [if_pos (by omega)]))
  refine wpAnyH_done (by kernel_rfl) ?_ _
  have B11 := below_keep hS.1 B8.out
  clear hS
  go_wp2_with (fail)
  go_ret2
  have hfin : S5.pad (Z6 ++ S5.num1 t.li ++ S5.num4 true t.is ++ S5.text (nums t.s) ++ S5.text (nums t.i)) = S6.encB t := by
    rw [HB.out, hZ6.out]
    unfold S6.enc S6.raw
    rw [hl]
    congr 1
    simp [S5.three]
  exact ⟨A11, n11, d11, ret_two rfl (ival HE.out.symm), by rw [← hfin]; exact hs11.out, B11, hf⟩

set_option maxRecDepth 100000 in
set_option maxHeartbeats 3200000 in
theorem r6encode_false (t : S6.Tk) (f : t.Fit) (w : World) (h : S6.chkE t = 0) (hl : t.l = false) : Calls Tryz.prog 20 #[t.val] w (EncOut t w) := by
  have HE := Lib.hid h
  have hne : (S6.chkE t != 0) = false := by simpa using h
  have HB := Lib.hid (show S6.encB t = S6.enc t by unfold S6.encB; rw [if_pos h])
  have HO := Lib.hid (S6.ok_of h)
  have Bw := Lib.hid (show Below w.heap.size w (w.alloc (.cells t.cells 27)) from (Below.refl _ _).alloc (Nat.le_refl _) _)
  have T0 := Lib.hid (TkAt.new w t 27)
  have CH := Lib.hid (fun W => r6check_any t f W)
  unfold S6.Tk.val S6.Tk.cells at CH
  unfold S6.Tk.val S6.Tk.cells
  unfold S6.Tk.cells at Bw T0
  rw [hl] at CH Bw T0
  have la : t.a.size ≤ 39 := by have := (S5.vName_ok HO.out.a).2; rwa [nums_len] at this
  have lb : t.b.size ≤ 39 := by have := (S5.vInst_ok HO.out.b).2; rwa [nums_len] at this
  have lc : t.c.size ≤ 39 := by have := (S5.vRealm_ok HO.out.c).2; rwa [nums_len] at this
  have ls : t.s.size ≤ 39 := by have := (S5.vName_ok HO.out.s).2; rwa [nums_len] at this
  have li : t.i.size ≤ 39 := by have := (S5.vInst_ok HO.out.i).2; rwa [nums_len] at this
  go_enter Tryz.func20, Tryz.ntmps20
  go_wp2_with (fail)
  refine (CH.out _).mono ?_
  rintro e w1 ⟨rfl, hb1⟩
  have B1 := Lib.hid (below_keep hb1 Bw.out)
  have T1 := Lib.hid (T0.out.keep hb1)
  obtain ⟨x0, x1, x2, x3, x4, x5, x6, x7, x8, x9⟩ := T0.out.keep hb1
  clear hb1 h
  go_wp2_with (fail)
  clear x0 x1 x2 x3 x4 x5 x6 x7 x8 x9
  refine wp_region_held_drew (S := (fun W => Below w1.heap.size w1 W ∧ TkAt W w.heap.size t)) (by kernel_rfl) ⟨(Below.refl _ _).drew, T1.out.drew⟩ (fun hS => ?_)
  clear T1
  refine' wpAnyH_take (i := 0) (v := ?va0) rfl (by kernel_rfl) (by kernel_rfl) (by kernel_rfl) (fun _ _ _ h => h) (Or.inl ⟨by kernel_rfl, fun W hW => ?ya0⟩) hS ?ra0
  case ya0 => (go_simp; first | done | with_reducible rfl | (rw [if_pos (by omega)]))
  refine' wpAnyH_take (i := 2) (v := ?va2) rfl (by kernel_rfl) (by kernel_rfl) (by kernel_rfl) (fun _ _ _ h => h) (Or.inl ⟨by kernel_rfl, fun W hW => ?ya2⟩) hS ?ra2
  case ya2 => (go_simp; first | done | with_reducible rfl | (rw [if_pos (by omega)]))
  refine' wpAnyH_take (i := 3) (v := ?va3) rfl (by kernel_rfl) (by kernel_rfl) (by kernel_rfl) (fun _ _ _ h => h) (Or.inl ⟨by kernel_rfl, fun W hW => ?ya3⟩) hS ?ra3
  case ya3 => (obtain ⟨x0, x1, x2, x3, x4, x5, x6, x7, x8, x9⟩ := hW.2; go_simp; first | done | with_reducible rfl | (rw [if_pos (by omega)]))
  refine wpAnyH_ready (rs := [1]) (by kernel_rfl) (by simp) ?_
  refine AllReadyH.cons rfl (fun K hK => ?_) AllReadyH.nil
  go_simp
  refine (r5putOctet_any none 0 0 [] (S6.flag false) _ (Sl.nil _) (by decide)).mono ?_
  rintro e w2 ⟨A2, n2, c2, rfl, hs2, hb2, _⟩
  go_wp2_with (fail)
  have hb2' := below_keep hb2 hS.1
  refine hK.out _ _ ⟨hb2', hS.2.keep hb2⟩ (fun hS2 => ?_)
  clear hK K
  have B2 := Lib.hid (below_keep hb2' B1.out)
  replace hs2 := Lib.hid hs2
  refine held_grow (S' := (fun W => Below w2.heap.size w2 W ∧ TkAt W w.heap.size t)) (fun W hW => ⟨below_keep hW.1 hb2', hW.2⟩) _ _ _ _ ?_
  replace hS : Below w2.heap.size w2 w2 ∧ TkAt w2 w.heap.size t := ⟨Below.refl _ _, hS2.2⟩
  clear hS2 hb2 hb2' B1
  refine wpAnyH_ready (rs := [4]) (by kernel_rfl) (by simp) ?_
  refine AllReadyH.cons rfl (fun K hK => ?_) AllReadyH.nil
  go_simp
  refine (r5putPrincipal_any _ _ _ _ t.a t.b t.c _ (hs2.out.keep hS.1) (by have := hs2.out.len; simp [S5.num1] at this; omega) (by omega) (by omega) (by omega)).mono ?_
  rintro e w3 ⟨A3, n3, c3, rfl, hs3, hb3, _⟩
  go_wp2_with (fail)
  have hb3' := below_keep hb3 hS.1
  refine hK.out _ _ ⟨hb3', hS.2.keep hb3⟩ (fun hS2 => ?_)
  clear hK K
  have B3 := Lib.hid (below_keep hb3' B2.out)
  replace hs3 := Lib.hid hs3
  clear hs2
  refine held_grow (S' := (fun W => Below w3.heap.size w3 W ∧ TkAt W w.heap.size t)) (fun W hW => ⟨below_keep hW.1 hb3', hW.2⟩) _ _ _ _ ?_
  replace hS : Below w3.heap.size w3 w3 ∧ TkAt w3 w.heap.size t := ⟨Below.refl _ _, hS2.2⟩
  clear hS2 hb3 hb3' B2
  refine' wpAnyH_take (i := 5) (v := ?va5) rfl (by kernel_rfl) (by kernel_rfl) (by kernel_rfl) (fun _ _ _ h => h) (Or.inl ⟨by kernel_rfl, fun W hW => ?ya5⟩) hS ?ra5
  case ya5 => (go_simp; first | done | with_reducible rfl | (rw [if_pos (by omega)]))
  refine wpAnyH_done (by kernel_rfl) ?_ _
  have T3 := Lib.hid hS.2
  clear hS
  go_wp2_with (fail)
  refine wp_region_held_drew (S := (fun W => Below w3.heap.size w3 W ∧ TkAt W w.heap.size t)) (by kernel_rfl) ⟨(Below.refl _ _).drew, T3.out.drew⟩ (fun hS => ?_)
  refine' wpAnyH_take (i := 0) (v := ?vb0) rfl (by kernel_rfl) (by kernel_rfl) (by kernel_rfl) (fun _ _ _ h => h) (Or.inl ⟨by kernel_rfl, fun W hW => ?yb0⟩) hS ?rb0
  case yb0 => (go_simp; first | done | with_reducible rfl | (rw [if_pos (by omega)]))
  refine' wpAnyH_take (i := 1) (v := ?vb1) rfl (by kernel_rfl) (by kernel_rfl) (by kernel_rfl) (fun _ _ _ h => h) (Or.inl ⟨by kernel_rfl, fun W hW => ?yb1⟩) hS ?rb1
  case yb1 => (go_simp; first | done | with_reducible rfl | (rw [if_pos (by omega)]))
  refine' wpAnyH_take (i := 2) (v := ?vb2) rfl (by kernel_rfl) (by kernel_rfl) (by kernel_rfl) (fun _ _ _ h => h) (Or.inl ⟨by kernel_rfl, fun W hW => ?yb2⟩) hS ?rb2
  case yb2 => (obtain ⟨x0, x1, x2, x3, x4, x5, x6, x7, x8, x9⟩ := hW.2; go_simp; first | done | with_reducible rfl | (rw [if_pos (by omega)]))
  refine' wpAnyH_take (i := 3) (v := ?vb3) rfl (by kernel_rfl) (by kernel_rfl) (by kernel_rfl) (fun _ _ _ h => h) (Or.inl ⟨by kernel_rfl, fun W hW => ?yb3⟩) hS ?rb3
  case yb3 => (go_simp; first | done | with_reducible rfl | (rw [if_pos (by omega)]))
  refine' wpAnyH_take (i := 4) (v := ?vb4) rfl (by kernel_rfl) (by kernel_rfl) (by kernel_rfl) (fun _ _ _ h => h) (Or.inl ⟨by kernel_rfl, fun W hW => ?yb4⟩) hS ?rb4
  case yb4 => (obtain ⟨x0, x1, x2, x3, x4, x5, x6, x7, x8, x9⟩ := hW.2; go_simp; first | done | with_reducible rfl | (rw [if_pos (by omega)]))
  refine' wpAnyH_take (i := 6) (v := ?vb6) rfl (by kernel_rfl) (by kernel_rfl) (by kernel_rfl) (fun _ _ _ h => h) (Or.inl ⟨by kernel_rfl, fun W hW => ?yb6⟩) hS ?rb6
  case yb6 => (go_simp; first | done | with_reducible rfl | (rw [if_pos (by omega)]))
  refine' wpAnyH_take (i := 7) (v := ?vb7) rfl (by kernel_rfl) (by kernel_rfl) (by kernel_rfl) (fun _ _ _ h => h) (Or.inl ⟨by kernel_rfl, fun W hW => ?yb7⟩) hS ?rb7
  case yb7 => (obtain ⟨x0, x1, x2, x3, x4, x5, x6, x7, x8, x9⟩ := hW.2; go_simp; first | done | with_reducible rfl | (rw [if_pos (by omega)]))
  refine wpAnyH_ready (rs := [5]) (by kernel_rfl) (by simp) ?_
  refine AllReadyH.cons rfl (fun K hK => ?_) AllReadyH.nil
  go_simp
  refine (r5putNumberO_any _ _ _ _ t.ad false _ (hs3.out.keep hS.1) (by have := hs3.out.len; simp [S5.num1, S5.three, S5.text, nums_len] at this; omega)).mono ?_
  rintro e w4 ⟨v4, rfl, ho4, hb4⟩
  go_wp2_with (fail)
  replace ho4 := Lib.hid (ho4.base hS.1.size)
  have hS' := And.intro (below_keep hb4 hS.1) (hS.2.keep hb4)
  refine hK.out _ _ hS' (fun hS2 => ?_)
  clear hK K hS' hS
  have hS := hS2
  clear hS2
  clear hb4
  refine wpAnyH_ready (rs := [8]) (by kernel_rfl) (by simp) ?_
  refine AllReadyH.cons rfl (fun K hK => ?_) AllReadyH.nil
  go_simp
  refine (r3bytes_any t.k _ f.k.1 f.k.2).mono ?_
  rintro e w5 ⟨g5, c5, rfl, hg5, hr5, hb5⟩
  go_wp2_with (fail)
  replace ho4 := Lib.hid (Own.below hb5 ho4.out)
  replace hr5 := Lib.hid hr5
  have hS' := And.intro (below_keep hb5 hS.1) (hS.2.keep hb5)
  refine hK.out _ _ hS' (fun hS2 => ?_)
  clear hK K hS' hS
  have hS := hS2
  clear hS2
  clear hb5 hg5
  refine wpAnyH_ready (rs := [9]) (by kernel_rfl) (by simp) ?_
  refine AllReadyH.cons rfl (fun K hK => ?_) AllReadyH.nil
  have hl3 := Lib.hid hs3.out.len
  refine wp_push_row (.tmp 24) (.tmp 27) 28 rfl Tryz.underlying28 u8_infoB (base := w3.heap.size) (v := v4) (ys := S3.bytes8 t.k) (A := some ⟨g5, 0, none⟩) (m := 8) (c := c5) (by kernel_rfl) (by kernel_rfl) ho4.out hr5.out (by simp [S5.num1, S5.three, S5.text, nums_len, S5.num4_len]; omega) (by decide) hS.1.size ?_
  intro v6 w6 ho6 hg6 _
  have B36 := Own.grown hS.1 ho4.out hg6
  obtain ⟨A6, n6, c6, rfl, hs6, _⟩ := ho6.slf (range_app (range_app hs3.out.range (S5.num4_range _ _)) (S3.bytes8_range _))
  have hn6 : n6 ≤ 200 := by have := hs6.len; simp [S5.num1, S5.three, S5.text, nums_len, S5.num4_len, S3.bytes8_len] at this; omega
  have hS' := And.intro B36 (T3.out.keep B36)
  refine hK.out _ _ hS' (fun hS2 => ?_)
  clear hK K hS' hS hl3 hs3 ho4 hr5 hg6 ho6 B36
  have hS := hS2
  clear hS2
  obtain ⟨Z6, hZ6⟩ : ∃ Z6, Z6 = [] ++ S5.num1 (S6.flag false) ++ S5.three (nums t.a) (nums t.b) (nums t.c) ++ S5.num4 false t.ad ++ S3.bytes8 t.k := ⟨_, rfl⟩
  rw [← hZ6] at hs6
  replace hZ6 := Lib.hid hZ6
  replace hs6 := Lib.hid hs6
  refine' wpAnyH_take (i := 10) (v := ?vb10) rfl (by kernel_rfl) (by kernel_rfl) (by kernel_rfl) (fun _ _ _ h => h) (Or.inl ⟨by kernel_rfl, fun W hW => ?yb10⟩) hS ?rb10
  case yb10 => (go_simp; first | done | with_reducible rfl | (rw [if_pos (by omega)]))
  refine wpAnyH_done (by kernel_rfl) ?_ _
  have T6 := Lib.hid hS.2
  have B6 := Lib.hid (below_keep hS.1 B3.out)
  clear hS B3 T3
  go_wp2_with (fail)
  refine wp_region_held_drew (S := (fun W => Below w6.heap.size w6 W ∧ TkAt W w.heap.size t)) (by kernel_rfl) ⟨(Below.refl _ _).drew, T6.out.drew⟩ (fun hS => ?_)
  refine' wpAnyH_take (i := 0) (v := ?vc0) rfl (by kernel_rfl) (by kernel_rfl) (by kernel_rfl) (fun _ _ _ h => h) (Or.inl ⟨by kernel_rfl, fun W hW => ?yc0⟩) hS ?rc0
  case yc0 => (go_simp; first | done | with_reducible rfl | (rw [if_pos (by omega)]))
  refine' wpAnyH_take (i := 1) (v := ?vc1) rfl (by kernel_rfl) (by kernel_rfl) (by kernel_rfl) (fun _ _ _ h => h) (Or.inl ⟨by kernel_rfl, fun W hW => ?yc1⟩) hS ?rc1
  case yc1 => (go_simp; first | done | with_reducible rfl | (rw [if_pos (by omega)]))
  refine' wpAnyH_take (i := 2) (v := ?vc2) rfl (by kernel_rfl) (by kernel_rfl) (by kernel_rfl) (fun _ _ _ h => h) (Or.inl ⟨by kernel_rfl, fun W hW => ?yc2⟩) hS ?rc2
  case yc2 => (obtain ⟨x0, x1, x2, x3, x4, x5, x6, x7, x8, x9⟩ := hW.2; go_simp; first | done | with_reducible rfl | (rw [if_pos (by omega)]))
  refine' wpAnyH_take (i := 4) (v := ?vc4) rfl (by kernel_rfl) (by kernel_rfl) (by kernel_rfl) (fun _ _ _ h => h) (Or.inl ⟨by kernel_rfl, fun W hW => ?yc4⟩) hS ?rc4
  case yc4 => (go_simp; first | done | with_reducible rfl | (rw [if_pos (by omega)]))
  refine' wpAnyH_take (i := 5) (v := ?vc5) rfl (by kernel_rfl) (by kernel_rfl) (by kernel_rfl) (fun _ _ _ h => h) (Or.inl ⟨by kernel_rfl, fun W hW => ?yc5⟩) hS ?rc5
  case yc5 => (obtain ⟨x0, x1, x2, x3, x4, x5, x6, x7, x8, x9⟩ := hW.2; go_simp; first | done | with_reducible rfl | (rw [if_pos (by omega)]))
  refine' wpAnyH_take (i := 6) (v := ?vc6) rfl (by kernel_rfl) (by kernel_rfl) (by kernel_rfl) (fun _ _ _ h => h) (Or.inl ⟨by kernel_rfl, fun W hW => ?yc6⟩) hS ?rc6
  case yc6 => (go_simp; first | done | with_reducible rfl | (rw [if_pos (by omega)]))
  refine' wpAnyH_take (i := 7) (v := ?vc7) rfl (by kernel_rfl) (by kernel_rfl) (by kernel_rfl) (fun _ _ _ h => h) (Or.inl ⟨by kernel_rfl, fun W hW => ?yc7⟩) hS ?rc7
  case yc7 => (obtain ⟨x0, x1, x2, x3, x4, x5, x6, x7, x8, x9⟩ := hW.2; go_simp; first | done | with_reducible rfl | (rw [if_pos (by omega)]))
  refine wpAnyH_ready (rs := [3]) (by kernel_rfl) (by simp) ?_
  refine AllReadyH.cons rfl (fun K hK => ?_) AllReadyH.nil
  go_simp
  refine (r5putOctet_any _ _ _ _ t.li _ (hs6.out.keep hS.1) (by omega)).mono ?_
  rintro e w7 ⟨A7, n7, c7, rfl, hs7, hb7, _⟩
  go_wp2_with (fail)
  have hn7 : n7 ≤ 201 := by have := hs7.len; simp [S5.num1, hs6.out.len] at this; omega
  replace hs7 := Lib.hid hs7
  have hS' := And.intro (below_keep hb7 hS.1) (hS.2.keep hb7)
  refine hK.out _ _ hS' (fun hS2 => ?_)
  clear hK K hS' hS
  have hS := hS2
  clear hS2
  clear hb7
  refine wpAnyH_ready (rs := [8]) (by kernel_rfl) (by simp) ?_
  refine AllReadyH.cons rfl (fun K hK => ?_) AllReadyH.nil
  go_simp
  refine (r5putNumber_any _ _ _ _ t.is false _ hs7.out (by omega)).mono ?_
  rintro e w8 ⟨A8, n8, c8, rfl, hs8, hb8, _⟩
  go_wp2_with (fail)
  have hn8 : n8 ≤ 205 := by have := hs8.len; rw [List.length_append, hs7.out.len, S5.num4_len] at this; omega
  replace hs8 := Lib.hid hs8
  have hS' := And.intro (below_keep hb8 hS.1) (hS.2.keep hb8)
  refine hK.out _ _ hS' (fun hS2 => ?_)
  clear hK K hS' hS
  have hS := hS2
  clear hS2
  clear hb8
  refine' wpAnyH_take (i := 9) (v := ?vc9) rfl (by kernel_rfl) (by kernel_rfl) (by kernel_rfl) (fun _ _ _ h => h) (Or.inl ⟨by kernel_rfl, fun W hW => ?yc9⟩) hS ?rc9
  case yc9 => (go_simp; first | done | with_reducible rfl | (rw [if_pos (by omega)]))
  refine wpAnyH_done (by kernel_rfl) ?_ _
  have T8 := Lib.hid hS.2
  have B8 := Lib.hid (below_keep hS.1 B6.out)
  clear hS B6 T6
  go_wp2_with (fail)
  refine wp_region_held_drew (S := (fun W => Below w8.heap.size w8 W ∧ TkAt W w.heap.size t)) (by kernel_rfl) ⟨(Below.refl _ _).drew, T8.out.drew⟩ (fun hS => ?_)
  refine' wpAnyH_take (i := 0) (v := ?vd0) rfl (by kernel_rfl) (by kernel_rfl) (by kernel_rfl) (fun _ _ _ h => h) (Or.inl ⟨by kernel_rfl, fun W hW => ?yd0⟩) hS ?rd0
  case yd0 => (go_simp; first | done | with_reducible rfl | (rw [if_pos (by omega)]))
  refine' wpAnyH_take (i := 1) (v := ?vd1) rfl (by kernel_rfl) (by kernel_rfl) (by kernel_rfl) (fun _ _ _ h => h) (Or.inl ⟨by kernel_rfl, fun W hW => ?yd1⟩) hS ?rd1
  case yd1 => (go_simp; first | done | with_reducible rfl | (rw [if_pos (by omega)]))
  refine' wpAnyH_take (i := 2) (v := ?vd2) rfl (by kernel_rfl) (by kernel_rfl) (by kernel_rfl) (fun _ _ _ h => h) (Or.inl ⟨by kernel_rfl, fun W hW => ?yd2⟩) hS ?rd2
  case yd2 => (obtain ⟨x0, x1, x2, x3, x4, x5, x6, x7, x8, x9⟩ := hW.2; go_simp; first | done | with_reducible rfl | (rw [if_pos (by omega)]))
  refine' wpAnyH_take (i := 4) (v := ?vd4) rfl (by kernel_rfl) (by kernel_rfl) (by kernel_rfl) (fun _ _ _ h => h) (Or.inl ⟨by kernel_rfl, fun W hW => ?yd4⟩) hS ?rd4
  case yd4 => (go_simp; first | done | with_reducible rfl | (rw [if_pos (by omega)]))
  refine' wpAnyH_take (i := 5) (v := ?vd5) rfl (by kernel_rfl) (by kernel_rfl) (by kernel_rfl) (fun _ _ _ h => h) (Or.inl ⟨by kernel_rfl, fun W hW => ?yd5⟩) hS ?rd5
  case yd5 => (obtain ⟨x0, x1, x2, x3, x4, x5, x6, x7, x8, x9⟩ := hW.2; go_simp; first | done | with_reducible rfl | (rw [if_pos (by omega)]))
  refine wpAnyH_ready (rs := [3]) (by kernel_rfl) (by simp) ?_
  refine AllReadyH.cons rfl (fun K hK => ?_) AllReadyH.nil
  go_simp
  refine (r5putText_any _ _ _ _ t.s _ (hs8.out.keep hS.1) (by omega) (by omega)).mono ?_
  rintro e w9 ⟨A9, n9, d9, rfl, hs9, hb9, _⟩
  go_wp2_with (fail)
  have hn9 : n9 ≤ 245 := by have := hs9.len; rw [List.length_append, hs8.out.len] at this; simp [S5.text, nums_len] at this; omega
  replace hs9 := Lib.hid hs9
  have hS' := And.intro (below_keep hb9 hS.1) (hS.2.keep hb9)
  refine hK.out _ _ hS' (fun hS2 => ?_)
  clear hK K hS' hS
  have hS := hS2
  clear hS2
  clear hb9
  refine wpAnyH_ready (rs := [6]) (by kernel_rfl) (by simp) ?_
  refine AllReadyH.cons rfl (fun K hK => ?_) AllReadyH.nil
  go_simp
  refine (r5putText_any _ _ _ _ t.i _ hs9.out (by omega) (by omega)).mono ?_
  rintro e w10 ⟨A10, n10, d10, rfl, hs10, hb10, _⟩
  go_wp2_with (fail)
  have hn10 : n10 ≤ 285 := by have := hs10.len; rw [List.length_append, hs9.out.len] at this; simp [S5.text, nums_len] at this; omega
  replace hs10 := Lib.hid hs10
  have hS' := And.intro (below_keep hb10 hS.1) (hS.2.keep hb10)
  refine hK.out _ _ hS' (fun hS2 => ?_)
  clear hK K hS' hS
  have hS := hS2
  clear hS2
  clear hb10
  refine wpAnyH_ready (rs := [7]) (by kernel_rfl) (by simp) ?_
  refine AllReadyH.cons rfl (fun K hK => ?_) AllReadyH.nil
  go_simp
  refine (r5pad_any _ _ _ _ _ hs10.out (by omega)).mono ?_
  rintro e w11 ⟨A11, n11, d11, rfl, hs11, hb11, hf11⟩
  go_wp2_with (fail)
  have hf := hf11.le (Nat.le_trans B8.out.size hS.1.size)
  replace hs11 := Lib.hid hs11
  have hS' := And.intro (below_keep hb11 hS.1) (hS.2.keep hb11)
  refine hK.out _ _ hS' (fun hS2 => ?_)
  clear hK K hS' hS
  have hS := hS2
  clear hS2
  clear hb11
  refine' wpAnyH_take (i := 8) (v := ?vd8) rfl (by kernel_rfl) (by kernel_rfl) (by kernel_rfl) (fun _ _ _ h => h) (Or.inl ⟨by kernel_rfl, fun W hW => ?yd8⟩) hS ?rd8
  case yd8 => (go_simp; first | done | with_reducible rfl | (rw [if_pos (by omega)]))
  refine' wpAnyH_take (i := 9) (v := ?vd9) rfl (by kernel_rfl) (by kernel_rfl) (by kernel_rfl) (fun _ _ _ h => h) (Or.inl ⟨by kernel_rfl, fun W hW => ?yd9⟩) hS ?rd9
  case yd9 => (go_simp; first | done | with_reducible rfl | (rw [if_pos (by omega)]))
  refine wpAnyH_done (by kernel_rfl) ?_ _
  have B11 := below_keep hS.1 B8.out
  clear hS
  go_wp2_with (fail)
  go_ret2
  have hfin : S5.pad (Z6 ++ S5.num1 t.li ++ S5.num4 false t.is ++ S5.text (nums t.s) ++ S5.text (nums t.i)) = S6.encB t := by
    rw [HB.out, hZ6.out]
    unfold S6.enc S6.raw
    rw [hl]
    congr 1
    simp [S5.three]
  exact ⟨A11, n11, d11, ret_two rfl (ival HE.out.symm), by rw [← hfin]; exact hs11.out, B11, hf⟩

theorem r6encode_any (t : S6.Tk) (f : t.Fit) (w : World) : Calls Tryz.prog 20 #[t.val] w (EncOut t w) := by
  by_cases h : S6.chkE t = 0
  · rcases hl : t.l
    · exact r6encode_false t f w h hl
    · exact r6encode_true t f w h hl
  · exact r6encode_err t f w h

end Go.Proofs.YtjkpbkbgbgckaaaGreat
