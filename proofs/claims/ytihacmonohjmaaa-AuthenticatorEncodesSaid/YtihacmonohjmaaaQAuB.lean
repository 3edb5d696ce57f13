/-
  What Encode of the document's answer for authenticators returns.
-/
import Derived.Test.YtihacmonohjmaaaQAuA
import Derived.Test.YtihacmonohjmaaaQFieldRP
import Derived.Test.YtihacmonohjmaaaQGrow
import Derived.Deep.RegionHeld3
namespace Go.Proofs.Ytihacmonohjmaaa
open Go.RowKit

/-- What Encode returns. -/
def EncOut7 (l : Bool) (t : S7.Au) (w : World) (e : Ending) (w' : World) : Prop :=
  ∃ A n cap, e = .returned (.tuple #[.slice A n cap, .int .i64 (S7.chkE t)]) ∧ Sl w' A n cap (S7.encB l t) ∧ Below w.heap.size w w' ∧ Fresh w.heap.size A

set_option maxRecDepth 100000 in
set_option maxHeartbeats 3200000 in
theorem r7encode_err (l : Bool) (t : S7.Au) (f : t.Fit) (w : World) (h : S7.chkE t ≠ 0) : Calls Try.prog 14 #[t.val, .bool l] w (EncOut7 l t w) := by
  have HB := Lib.hid (show S7.encB l t = [] by unfold S7.encB; rw [if_neg h])
  have Bw := Lib.hid (show Below w.heap.size w (w.alloc (.cells t.cells 25)) from (Below.refl _ _).alloc (Nat.le_refl _) _)
  have CH := Lib.hid (fun W => r7check_any t f W)
  unfold S7.Au.val S7.Au.cells at CH
  unfold S7.Au.val S7.Au.cells
  unfold S7.Au.cells at Bw
  have h0 : (S7.chkE t != 0) = true := by simpa using h
  clear h
  go_enter Try.func14, Try.ntmps14
  go_wp2_with (fail)
  refine (CH.out _).mono ?_
  rintro e w1 ⟨rfl, hb1⟩
  have B1 := below_keep hb1 Bw.out
  go_wp2_with (fail)
  go_ret2
  exact ⟨none, 0, 0, rfl, by rw [HB.out]; exact Sl.nil _, B1, Fresh.nil _⟩

set_option maxRecDepth 100000 in
set_option maxHeartbeats 6400000 in
theorem r7encode_ok (l : Bool) (t : S7.Au) (f : t.Fit) (w : World) (h : S7.chkE t = 0) : Calls Try.prog 14 #[t.val, .bool l] w (EncOut7 l t w) := by
  have HE := Lib.hid h
  have hne : (S7.chkE t != 0) = false := by simpa using h
  have HB := Lib.hid (show S7.encB l t = S7.enc l t by unfold S7.encB; rw [if_pos h])
  have HO := Lib.hid (S7.ok_of h)
  have Bw := Lib.hid (show Below w.heap.size w (w.alloc (.cells t.cells 25)) from (Below.refl _ _).alloc (Nat.le_refl _) _)
  have T0 := Lib.hid (AuAt.new w t 25)
  have CH := Lib.hid (fun W => r7check_any t f W)
  unfold S7.Au.val S7.Au.cells at CH
  unfold S7.Au.val S7.Au.cells
  unfold S7.Au.cells at Bw T0
  have la : t.a.size ≤ 39 := by have := (S5.vName_ok HO.out.a).2; rwa [nums_len] at this
  have lb : t.b.size ≤ 39 := by have := (S5.vInst_ok HO.out.b).2; rwa [nums_len] at this
  have lc : t.c.size ≤ 39 := by have := (S5.vRealm_ok HO.out.c).2; rwa [nums_len] at this
  go_enter Try.func14, Try.ntmps14
  go_wp2_with (fail)
  refine (CH.out _).mono ?_
  rintro e w1 ⟨rfl, hb1⟩
  have B1 := Lib.hid (below_keep hb1 Bw.out)
  have T1 := Lib.hid (T0.out.keep hb1)
  obtain ⟨x0, x1, x2, x3, x4, x5⟩ := T0.out.keep hb1
  clear hb1 h
  go_wp2_with (fail)
  clear x0 x1 x2 x3 x4 x5
  refine wp_region_held_drew (S := (fun W => Below w1.heap.size w1 W ∧ AuAt W w.heap.size t)) (by kernel_rfl) ⟨(Below.refl _ _).drew, T1.out.drew⟩ (fun hS => ?_)
  refine' wpAnyH_take (i := 0) (v := ?va0) rfl (by kernel_rfl) (by kernel_rfl) (by kernel_rfl) (fun _ _ _ h => h) (Or.inl ⟨by kernel_rfl, fun W hW => ?ya0⟩) hS ?ra0
  case ya0 => (go_simp; first | done | with_reducible rfl | (rw [if_pos (by omega)]))
  refine' wpAnyH_take (i := 2) (v := ?va2) rfl (by kernel_rfl) (by kernel_rfl) (by kernel_rfl) (fun _ _ _ h => h) (Or.inl ⟨by kernel_rfl, fun W hW => ?ya2⟩) hS ?ra2
  case ya2 => (go_simp; first | done | with_reducible rfl | (rw [if_pos (by omega)]))
  refine' wpAnyH_take (i := 3) (v := ?va3) rfl (by kernel_rfl) (by kernel_rfl) (by kernel_rfl) (fun _ _ _ h => h) (Or.inl ⟨by kernel_rfl, fun W hW => ?ya3⟩) hS ?ra3
  case ya3 => (obtain ⟨x0, x1, x2, x3, x4, x5⟩ := hW.2; go_simp; first | done | with_reducible rfl | (rw [if_pos (by omega)]))
  refine wpAnyH_ready (rs := [1]) (by kernel_rfl) (by simp) ?_
  refine AllReadyH.cons rfl (fun K hK => ?_) AllReadyH.nil
  go_simp
  refine (r5putOrder_any none 0 0 [] l _ (Sl.nil _) (by decide)).mono ?_
  rintro e w2 ⟨A2, n2, c2, rfl, hs2, hb2, _⟩
  go_wp2_with (fail)
  have hn2 : n2 ≤ 1 := by have := hs2.len; simp [S5.num1] at this; omega
  replace hs2 := Lib.hid hs2
  have hS' := And.intro (below_keep hb2 hS.1) (hS.2.keep hb2)
  refine hK.out _ _ hS' (fun hS2 => ?_)
  clear hK K hS' hS
  have hS := hS2
  clear hS2
  clear hb2
  refine wpAnyH_ready (rs := [4]) (by kernel_rfl) (by simp) ?_
  refine AllReadyH.cons rfl (fun K hK => ?_) AllReadyH.nil
  go_simp
  refine (r5putPrincipal_any _ _ _ _ t.a t.b t.c _ hs2.out (by omega) (by omega) (by omega) (by omega)).mono ?_
  rintro e w3 ⟨A3, n3, c3, rfl, hs3, hb3, _⟩
  go_wp2_with (fail)
  have hn3 : n3 ≤ 121 := by have := hs3.len; rw [List.length_append, hs2.out.len] at this; simp [S5.three, S5.text, nums_len] at this; omega
  replace hs3 := Lib.hid hs3
  have hS' := And.intro (below_keep hb3 hS.1) (hS.2.keep hb3)
  refine hK.out _ _ hS' (fun hS2 => ?_)
  clear hK K hS' hS
  have hS := hS2
  clear hS2
  clear hb3
  refine' wpAnyH_take (i := 5) (v := ?va5) rfl (by kernel_rfl) (by kernel_rfl) (by kernel_rfl) (fun _ _ _ h => h) (Or.inl ⟨by kernel_rfl, fun W hW => ?ya5⟩) hS ?ra5
  case ya5 => (go_simp; first | done | with_reducible rfl | (rw [if_pos (by omega)]))
  refine wpAnyH_done (by kernel_rfl) ?_ _
  have T3 := Lib.hid hS.2
  have B3 := Lib.hid (below_keep hS.1 B1.out)
  clear hS B1 T1
  obtain ⟨x0, x1, x2, x3, x4, x5⟩ := T3.out
  go_wp2_with (fail)
  refine (r5putNumber_any _ _ _ _ t.ck l _ hs3.out (by omega)).mono ?_
  rintro e w4 ⟨A4, n4, c4, rfl, hs4, hb4, _⟩
  clear x0 x1 x2 x3 x4 x5
  have T4 := Lib.hid (T3.out.keep hb4)
  have B4 := Lib.hid (below_keep hb4 B3.out)
  have hn4 : n4 ≤ 125 := by have := hs4.len; rw [List.length_append, hs3.out.len, S5.num4_len] at this; omega
  replace hs4 := Lib.hid hs4
  clear hb4 B3 T3
  go_wp2_with (fail)
  refine wp_region_held_drew (S := (fun W => Below w4.heap.size w4 W ∧ AuAt W w.heap.size t)) (by kernel_rfl) ⟨(Below.refl _ _).drew, T4.out.drew⟩ (fun hS => ?_)
  refine' wpAnyH_take (i := 0) (v := ?vb0) rfl (by kernel_rfl) (by kernel_rfl) (by kernel_rfl) (fun _ _ _ h => h) (Or.inl ⟨by kernel_rfl, fun W hW => ?yb0⟩) hS ?rb0
  case yb0 => (go_simp; first | done | with_reducible rfl | (rw [if_pos (by omega)]))
  refine' wpAnyH_take (i := 1) (v := ?vb1) rfl (by kernel_rfl) (by kernel_rfl) (by kernel_rfl) (fun _ _ _ h => h) (Or.inl ⟨by kernel_rfl, fun W hW => ?yb1⟩) hS ?rb1
  case yb1 => (go_simp; first | done | with_reducible rfl | (rw [if_pos (by omega)]))
  refine' wpAnyH_take (i := 2) (v := ?vb2) rfl (by kernel_rfl) (by kernel_rfl) (by kernel_rfl) (fun _ _ _ h => h) (Or.inl ⟨by kernel_rfl, fun W hW => ?yb2⟩) hS ?rb2
  case yb2 => (obtain ⟨x0, x1, x2, x3, x4, x5⟩ := hW.2; go_simp; first | done | with_reducible rfl | (rw [if_pos (by omega)]))
  refine' wpAnyH_take (i := 4) (v := ?vb4) rfl (by kernel_rfl) (by kernel_rfl) (by kernel_rfl) (fun _ _ _ h => h) (Or.inl ⟨by kernel_rfl, fun W hW => ?yb4⟩) hS ?rb4
  case yb4 => (go_simp; first | done | with_reducible rfl | (rw [if_pos (by omega)]))
  refine' wpAnyH_take (i := 5) (v := ?vb5) rfl (by kernel_rfl) (by kernel_rfl) (by kernel_rfl) (fun _ _ _ h => h) (Or.inl ⟨by kernel_rfl, fun W hW => ?yb5⟩) hS ?rb5
  case yb5 => (obtain ⟨x0, x1, x2, x3, x4, x5⟩ := hW.2; go_simp; first | done | with_reducible rfl | (rw [if_pos (by omega)]))
  refine' wpAnyH_take (i := 6) (v := ?vb6) rfl (by kernel_rfl) (by kernel_rfl) (by kernel_rfl) (fun _ _ _ h => h) (Or.inl ⟨by kernel_rfl, fun W hW => ?yb6⟩) hS ?rb6
  case yb6 => (go_simp; first | done | with_reducible rfl | (rw [if_pos (by omega)]))
  refine wpAnyH_ready (rs := [3]) (by kernel_rfl) (by simp) ?_
  refine AllReadyH.cons rfl (fun K hK => ?_) AllReadyH.nil
  go_simp
  refine (r5putOctet_any _ _ _ _ t.ti _ (hs4.out.keep hS.1) (by omega)).mono ?_
  rintro e w5 ⟨A5, n5, c5, rfl, hs5, hb5, _⟩
  go_wp2_with (fail)
  have hn5 : n5 ≤ 126 := by have := hs5.len; rw [List.length_append, hs4.out.len] at this; simp [S5.num1] at this; omega
  replace hs5 := Lib.hid hs5
  have hS' := And.intro (below_keep hb5 hS.1) (hS.2.keep hb5)
  refine hK.out _ _ hS' (fun hS2 => ?_)
  clear hK K hS' hS
  have hS := hS2
  clear hS2
  clear hb5
  refine wpAnyH_ready (rs := [7]) (by kernel_rfl) (by simp) ?_
  refine AllReadyH.cons rfl (fun K hK => ?_) AllReadyH.nil
  go_simp
  refine (r5putNumber_any _ _ _ _ t.tm l _ hs5.out (by omega)).mono ?_
  rintro e w6 ⟨A6, n6, c6, rfl, hs6, hb6, _⟩
  go_wp2_with (fail)
  have hn6 : n6 ≤ 130 := by have := hs6.len; rw [List.length_append, hs5.out.len, S5.num4_len] at this; omega
  replace hs6 := Lib.hid hs6
  have hS' := And.intro (below_keep hb6 hS.1) (hS.2.keep hb6)
  refine hK.out _ _ hS' (fun hS2 => ?_)
  clear hK K hS' hS
  have hS := hS2
  clear hS2
  clear hb6
  refine wpAnyH_ready (rs := [8]) (by kernel_rfl) (by simp) ?_
  refine AllReadyH.cons rfl (fun K hK => ?_) AllReadyH.nil
  go_simp
  refine (r5pad_any _ _ _ _ _ hs6.out (by omega)).mono ?_
  rintro e w7 ⟨A7, n7, c7, rfl, hs7, hb7, hf7⟩
  go_wp2_with (fail)
  have hf := hf7.le (Nat.le_trans B4.out.size hS.1.size)
  replace hs7 := Lib.hid hs7
  have hS' := And.intro (below_keep hb7 hS.1) (hS.2.keep hb7)
  refine hK.out _ _ hS' (fun hS2 => ?_)
  clear hK K hS' hS
  have hS := hS2
  clear hS2
  clear hb7
  refine' wpAnyH_take (i := 9) (v := ?vb9) rfl (by kernel_rfl) (by kernel_rfl) (by kernel_rfl) (fun _ _ _ h => h) (Or.inl ⟨by kernel_rfl, fun W hW => ?yb9⟩) hS ?rb9
  case yb9 => (go_simp; first | done | with_reducible rfl | (rw [if_pos (by omega)]))
  refine' wpAnyH_take (i := 10) (v := ?vb10) rfl (by kernel_rfl) (by kernel_rfl) (by kernel_rfl) (fun _ _ _ h => h) (Or.inl ⟨by kernel_rfl, fun W hW => ?yb10⟩) hS ?rb10
  case yb10 => (go_simp; first | done | with_reducible rfl | (rw [if_pos (by omega)]))
  refine wpAnyH_done (by kernel_rfl) ?_ _
  have B7 := below_keep hS.1 B4.out
  clear hS
  go_wp2_with (fail)
  go_ret2
  have hfin : S5.pad ([] ++ S5.num1 (S7.flag l) ++ S5.three (nums t.a) (nums t.b) (nums t.c) ++ S5.num4 l t.ck ++ S5.num1 t.ti ++ S5.num4 l t.tm) = S7.encB l t := by
    rw [HB.out]
    unfold S7.enc S7.raw
    congr 1
    simp [S5.three]
  exact ⟨A7, n7, c7, ret_two rfl (ival HE.out.symm), by rw [← hfin]; exact hs7.out, B7, hf⟩

theorem r7encode_any (l : Bool) (t : S7.Au) (f : t.Fit) (w : World) : Calls Try.prog 14 #[t.val, .bool l] w (EncOut7 l t w) := by
  by_cases h : S7.chkE t = 0
  · exact r7encode_ok l t f w h
  · exact r7encode_err l t f w h

end Go.Proofs.Ytihacmonohjmaaa
