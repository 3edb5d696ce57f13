/-
  Tickets that are made of plain data: they are valid.
-/
import Derived.Test.YtkhkmgblgonfoaaQDataT
import Derived.Test.YtkhkmgblgonfoaaQTkA
import Derived.Test.YtkhkmgblgonfoaaQGrow
import Derived.Deep.DeepCutAuto
import Derived.RegionTactic
namespace Go.Proofs.Ytkhkmgblgonfoaa
open Go.RowKit

/-- A ticket without an error, by its parts. -/
structure Gd (t : S6.Tk) : Prop where
  a : S1.vName t.a.data.toList = true
  b : S1.vInst t.b.data.toList = true
  c : S1.vRealm t.c.data.toList = true
  s : S1.vName t.s.data.toList = true
  i : S1.vInst t.i.data.toList = true
  k : S3.ck t.k = 2 ∧ 0 ≤ t.k ∧ t.k ≤ 18446744073709551615
  ad : 0 ≤ t.ad ∧ t.ad ≤ 4294967295
  li : 0 ≤ t.li ∧ t.li ≤ 255
  is : 0 ≤ t.is ∧ t.is ≤ 4294967295
theorem small {s : ByteArray} (h : (nums s).length ≤ 39) : s.size ≤ maxLen := by
  rw [nums_len] at h
  exact Nat.le_trans h (by decide)
theorem Gd.fit {t : S6.Tk} (h : Gd t) : t.Fit :=
  ⟨small (S5.vName_ok h.a).2, small (S5.vInst_ok h.b).2, small (S5.vRealm_ok h.c).2, small (S5.vName_ok h.s).2, small (S5.vInst_ok h.i).2, by have := h.ad; omega, h.k.2, by have := h.li; omega, by have := h.is; omega⟩
theorem Gd.chk {t : S6.Tk} (h : Gd t) : S6.chkE t = 0 := by
  refine S6.chk_ok ?_ h.k.1 ?_
  · unfold S6.nm S1.vP
    rw [h.a, h.b, h.c, h.s, h.i]; rfl
  · unfold S6.rg
    rw [S6.win_iff.2 h.ad, S6.win_iff.2 h.li, S6.win_iff.2 h.is]; rfl
def tkL (t : S6.Tk) : List Value := [.bool t.l, .string t.a, .string t.b, .string t.c, .int .i64 t.ad, .int .u64 t.k, .int .i64 t.li, .int .i64 t.is, .string t.s, .string t.i]
theorem user_ok (n : Int) : S1.vName (userS n).data.toList = true := by rcases user_cases n with h | h | h <;> rw [h] <;> decide
theorem realm_ok (n : Int) : S1.vRealm (realmS n).data.toList = true := by rcases realm_cases n with h | h | h <;> rw [h] <;> decide
theorem session_ok {n : Int} (h0 : 0 ≤ n) (h1 : n ≤ 255) : S3.ck (keyOf 2 n) = 2 ∧ 0 ≤ keyOf 2 n ∧ keyOf 2 n ≤ 18446744073709551615 := by
  obtain ⟨v, k0, k1⟩ := keyOf_facts (c := 2) (.inr rfl) h0 h1
  refine ⟨?_, k0, k1⟩
  unfold S3.ck
  rw [if_pos v]
  unfold keyOf
  omega

theorem grown_ad (X : World) (o : Obj) : X.grownBy (X.alloc o).drew none := by
  have h := World.grownBy_alloc X o none
  exact ⟨h.os, h.tape, h.output, h.size, h.block⟩
theorem nn39_ok : S1.vName (nn 39).data.toList = true ∧ S1.vInst (nn 39).data.toList = true := ⟨by decide, by decide⟩
theorem vinst_nil : S1.vInst (⟨#[]⟩ : ByteArray).data.toList = true := by decide
/-- A valid ticket in the block g, beside the source and the result. -/
def Inv (w W : World) (g : Nat) (A : Option Addr) (n cap : Nat) : Prop := ∃ t k, Gd t ∧ BoxAt W g (tkL t) ∧ Src W (w.heap.size + 1) A n cap k ∧ BoxAt W w.heap.size zeroL ∧ Below w.heap.size w W
theorem fieldp (w : World) (a b c : ByteArray) : (Instr.field 23 (.agg #[.string a, .string b, .string c]) 0).run Try.prog w = .ok (.string a) w ∧ (Instr.field 23 (.agg #[.string a, .string b, .string c]) 1).run Try.prog w = .ok (.string b) w := ⟨by kernel_rfl, by kernel_rfl⟩

/-- A valid ticket. -/
def TkOut (w : World) (e : Ending) (w' : World) : Prop := ∃ t : S6.Tk, e = .returned t.val ∧ t.Fit ∧ S6.chkE t = 0 ∧ Below w.heap.size w w'

set_option maxRecDepth 100000 in
set_option maxHeartbeats 3200000 in
theorem ticketData_any (A : Option Addr) (n cap : Nat) (zs : List Int) (w : World) (h : Sl w A n cap zs) (hn : n ≤ 100000) : Calls Try.prog 23 #[.slice A n cap] w (TkOut w) := by
  have hs := Lib.hid h
  go_enter Try.func23, Try.ntmps23
  go_wp2_with (fail)
  have B1 : Below w.heap.size w ((w.alloc (.cells #[.bool false, .string ⟨#[]⟩, .string ⟨#[]⟩, .string ⟨#[]⟩, .int .i64 0, .int .u64 0, .int .i64 0, .int .i64 0, .string ⟨#[]⟩, .string ⟨#[]⟩] 61)).alloc (.cells #[.slice A n cap, .int .i64 0] 88)) := ((Below.refl _ _).alloc (Nat.le_refl _) _).alloc (by simp) _
  have S1 : Src ((w.alloc (.cells #[.bool false, .string ⟨#[]⟩, .string ⟨#[]⟩, .string ⟨#[]⟩, .int .i64 0, .int .u64 0, .int .i64 0, .int .i64 0, .string ⟨#[]⟩, .string ⟨#[]⟩] 61)).alloc (.cells #[.slice A n cap, .int .i64 0] 88)) (w.heap.size + 1) A n cap 0 := ⟨by simp [go_sem], by simp [go_sem], fun o => by simp [go_sem], Nat.zero_le _⟩
  have X1 : BoxAt ((w.alloc (.cells #[.bool false, .string ⟨#[]⟩, .string ⟨#[]⟩, .string ⟨#[]⟩, .int .i64 0, .int .u64 0, .int .i64 0, .int .i64 0, .string ⟨#[]⟩, .string ⟨#[]⟩] 61)).alloc (.cells #[.slice A n cap, .int .i64 0] 88)) w.heap.size zeroL := (BoxAt.new w zeroL 61).grown (World.grownBy_alloc _ _ none) (by simp)
  generalize ((w.alloc (.cells #[.bool false, .string ⟨#[]⟩, .string ⟨#[]⟩, .string ⟨#[]⟩, .int .i64 0, .int .u64 0, .int .i64 0, .int .i64 0, .string ⟨#[]⟩, .string ⟨#[]⟩] 61)).alloc (.cells #[.slice A n cap, .int .i64 0] 88)) = W1 at B1 S1 X1 ⊢
  replace B1 := Lib.hid B1
  replace S1 := Lib.hid S1
  replace X1 := Lib.hid X1
  refine (next_any (w.heap.size + 1) A n cap _ zs 2 W1 S1.out (hs.out.keep B1.out) hn (by decide) (by decide)).mono ?_
  rintro e W2 ⟨v1, k1, rfl, v1a, v1b, S2, g2⟩
  have B2 := Lib.hid (B1.out.grown g2 B1.out.size (fun k e => by cases e; omega))
  have X2 := Lib.hid (X1.out.grown g2 (by simp))
  replace S2 := Lib.hid S2
  clear g2 B1 X1 S1
  go_wp2_with (fail)
  refine (next_any (w.heap.size + 1) A n cap _ zs 9 W2 S2.out (hs.out.keep B2.out) hn (by decide) (by decide)).mono ?_
  rintro e W3 ⟨v2, k2, rfl, v2a, v2b, S3, g3⟩
  have B3 := Lib.hid (B2.out.grown g3 B2.out.size (fun k e => by cases e; omega))
  have X3 := Lib.hid (X2.out.grown g3 (by simp))
  replace S3 := Lib.hid S3
  clear g3 B2 X2 S2
  go_wp2_with (fail)
  refine (user_any v2 _ (by omega) (by omega)).mono ?_
  rintro e W4 ⟨rfl, hb4⟩
  have B4 := Lib.hid (below_keep hb4 B3.out)
  have X4 := Lib.hid (X3.out.keep hb4)
  have S4 := Lib.hid (S3.out.grown (below_grown (row := none) hb4) (by simp))
  clear hb4 B3 X3 S3
  go_wp2_with (fail)
  refine (next_any (w.heap.size + 1) A n cap _ zs 9 W4 S4.out (hs.out.keep B4.out) hn (by decide) (by decide)).mono ?_
  rintro e W5 ⟨v3, k3, rfl, v3a, v3b, S5, g5⟩
  have B5 := Lib.hid (B4.out.grown g5 B4.out.size (fun k e => by cases e; omega))
  have X5 := Lib.hid (X4.out.grown g5 (by simp))
  replace S5 := Lib.hid S5
  clear g5 B4 X4 S4
  go_wp2_with (fail)
  refine (session_any v3 _ (by omega) (by omega)).mono ?_
  rintro e w' ⟨rfl, rfl⟩
  go_wp2_with (fail)
  refine (next_any (w.heap.size + 1) A n cap _ zs 256 W5 S5.out (hs.out.keep B5.out) hn (by decide) (by decide)).mono ?_
  rintro e W6 ⟨v4, k4, rfl, v4a, v4b, S6, g6⟩
  have B6 := Lib.hid (B5.out.grown g6 B5.out.size (fun k e => by cases e; omega))
  have X6 := Lib.hid (X5.out.grown g6 (by simp))
  replace S6 := Lib.hid S6
  clear g6 B5 X5 S5
  go_wp2_with (fail)
  obtain ⟨g, hg⟩ : ∃ g, g = W6.heap.size := ⟨_, rfl⟩
  have hg1 := B6.out.size
  have hg2 : w.heap.size + 1 < W6.heap.size := cell_lt S6.out.c0
  have T7 := BoxAt.new W6 [.bool (v1 == 1), .string (userS v2), .string ⟨#[]⟩, .string (realmS (v2 / 3)), .int .i64 0, .int .u64 (keyOf 2 v3), .int .i64 v4, .int .i64 0, .string ⟨#[]⟩, .string ⟨#[]⟩] 61
  have hb7 : Below W6.heap.size W6 (W6.alloc (.cells #[.bool (v1 == 1), .string (userS v2), .string ⟨#[]⟩, .string (realmS (v2 / 3)), .int .i64 0, .int .u64 (keyOf 2 v3), .int .i64 v4, .int .i64 0, .string ⟨#[]⟩, .string ⟨#[]⟩] 61)) := (Below.refl _ _).alloc (Nat.le_refl _) _
  have B7 := Lib.hid (below_keep hb7 B6.out)
  have X7 := Lib.hid (X6.out.keep hb7)
  have S7 := Lib.hid (S6.out.grown (below_grown (row := none) hb7) (by simp))
  clear hb7 B6 X6 S6
  replace T7 : BoxAt (W6.alloc (.cells #[.bool (v1 == 1), .string (userS v2), .string ⟨#[]⟩, .string (realmS (v2 / 3)), .int .i64 0, .int .u64 (keyOf 2 v3), .int .i64 v4, .int .i64 0, .string ⟨#[]⟩, .string ⟨#[]⟩] 61)) W6.heap.size [.bool (v1 == 1), .string (userS v2), .string ⟨#[]⟩, .string (realmS (v2 / 3)), .int .i64 0, .int .u64 (keyOf 2 v3), .int .i64 v4, .int .i64 0, .string ⟨#[]⟩, .string ⟨#[]⟩] := T7
  rw [← hg] at T7 hg1 hg2
  rw [← hg]
  generalize (W6.alloc (.cells #[.bool (v1 == 1), .string (userS v2), .string ⟨#[]⟩, .string (realmS (v2 / 3)), .int .i64 0, .int .u64 (keyOf 2 v3), .int .i64 v4, .int .i64 0, .string ⟨#[]⟩, .string ⟨#[]⟩] 61)) = W7 at T7 B7 X7 S7 ⊢
  clear hg
  replace T7 := Lib.hid T7
  refine (next_any (w.heap.size + 1) A n cap _ zs 200 W7 S7.out (hs.out.keep B7.out) hn (by decide) (by decide)).mono ?_
  rintro e W8 ⟨v5, k5, rfl, v5a, v5b, S8, g8⟩
  have B8 := Lib.hid (B7.out.grown g8 B7.out.size (fun k e => by cases e; omega))
  have X8 := Lib.hid (X7.out.grown g8 (by simp))
  replace S8 := Lib.hid S8
  have T8 := Lib.hid (T7.out.grown g8 (by simp; omega))
  clear g8 B7 X7 S7 T7
  have q0 := T8.out.c 0 _ rfl
  have q1 := T8.out.c 1 _ rfl
  have q2 := T8.out.c 2 _ rfl
  have q3 := T8.out.c 3 _ rfl
  have q4 := T8.out.c 4 _ rfl
  have q5 := T8.out.c 5 _ rfl
  have q6 := T8.out.c 6 _ rfl
  have q7 := T8.out.c 7 _ rfl
  have q8 := T8.out.c 8 _ rfl
  have q9 := T8.out.c 9 _ rfl
  have qf := T8.out.fz
  have ql := T8.out.lt
  go_wp2_with (fail)
  clear q0 q1 q2 q3 q4 q5 q6 q7 q8 q9 qf ql
  have T9 : BoxAt (W8.setCell ⟨g, 4, none⟩ (.int .i64 v5)) g [.bool (v1 == 1), .string (userS v2), .string ⟨#[]⟩, .string (realmS (v2 / 3)), .int .i64 v5, .int .u64 (keyOf 2 v3), .int .i64 v4, .int .i64 0, .string ⟨#[]⟩, .string ⟨#[]⟩] := (T8.out.set 4 (.int .i64 v5) (by simp))
  have B9 : Below w.heap.size w (W8.setCell ⟨g, 4, none⟩ (.int .i64 v5)) := (B8.out.setCell (by simp; omega) _)
  have X9 : BoxAt (W8.setCell ⟨g, 4, none⟩ (.int .i64 v5)) w.heap.size zeroL := (X8.out.grown (grown_set W8 ⟨g, 4, none⟩ (.int .i64 v5)) (by simp; omega))
  have S9 := (S8.out.grown (grown_set W8 ⟨g, 4, none⟩ (.int .i64 v5)) (by simp; omega))
  generalize (W8.setCell ⟨g, 4, none⟩ (.int .i64 v5)) = W9 at T9 B9 X9 S9 ⊢
  replace T9 := Lib.hid T9
  replace B9 := Lib.hid B9
  replace X9 := Lib.hid X9
  replace S9 := Lib.hid S9
  clear T8 B8 X8 S8
  refine (next_any (w.heap.size + 1) A n cap _ zs 256 W9 S9.out (hs.out.keep B9.out) hn (by decide) (by decide)).mono ?_
  rintro e W10 ⟨v6, k6, rfl, v6a, v6b, S10, g10⟩
  have B10 := Lib.hid (B9.out.grown g10 B9.out.size (fun k e => by cases e; omega))
  have X10 := Lib.hid (X9.out.grown g10 (by simp))
  replace S10 := Lib.hid S10
  have T10 := Lib.hid (T9.out.grown g10 (by simp; omega))
  clear g10 B9 X9 S9 T9
  go_wp2_with (fail)
  refine (next_any (w.heap.size + 1) A n cap _ zs 256 W10 S10.out (hs.out.keep B10.out) hn (by decide) (by decide)).mono ?_
  rintro e W11 ⟨v7, k7, rfl, v7a, v7b, S11, g11⟩
  have B11 := Lib.hid (B10.out.grown g11 B10.out.size (fun k e => by cases e; omega))
  have X11 := Lib.hid (X10.out.grown g11 (by simp))
  replace S11 := Lib.hid S11
  have T11 := Lib.hid (T10.out.grown g11 (by simp; omega))
  clear g11 B10 X10 S10 T10
  have q0 := T11.out.c 0 _ rfl
  have q1 := T11.out.c 1 _ rfl
  have q2 := T11.out.c 2 _ rfl
  have q3 := T11.out.c 3 _ rfl
  have q4 := T11.out.c 4 _ rfl
  have q5 := T11.out.c 5 _ rfl
  have q6 := T11.out.c 6 _ rfl
  have q7 := T11.out.c 7 _ rfl
  have q8 := T11.out.c 8 _ rfl
  have q9 := T11.out.c 9 _ rfl
  have qf := T11.out.fz
  have ql := T11.out.lt
  go_wp2_with (fail)
  clear q0 q1 q2 q3 q4 q5 q6 q7 q8 q9 qf ql
  have T12 : BoxAt (W11.setCell ⟨g, 7, none⟩ (.int .i64 (v6 * 150 + v7))) g [.bool (v1 == 1), .string (userS v2), .string ⟨#[]⟩, .string (realmS (v2 / 3)), .int .i64 v5, .int .u64 (keyOf 2 v3), .int .i64 v4, .int .i64 (v6 * 150 + v7), .string ⟨#[]⟩, .string ⟨#[]⟩] := (T11.out.set 7 (.int .i64 (v6 * 150 + v7)) (by simp))
  have B12 : Below w.heap.size w (W11.setCell ⟨g, 7, none⟩ (.int .i64 (v6 * 150 + v7))) := (B11.out.setCell (by simp; omega) _)
  have X12 : BoxAt (W11.setCell ⟨g, 7, none⟩ (.int .i64 (v6 * 150 + v7))) w.heap.size zeroL := (X11.out.grown (grown_set W11 ⟨g, 7, none⟩ (.int .i64 (v6 * 150 + v7))) (by simp; omega))
  have S12 := (S11.out.grown (grown_set W11 ⟨g, 7, none⟩ (.int .i64 (v6 * 150 + v7))) (by simp; omega))
  generalize (W11.setCell ⟨g, 7, none⟩ (.int .i64 (v6 * 150 + v7))) = W12 at T12 B12 X12 S12 ⊢
  replace T12 := Lib.hid T12
  replace B12 := Lib.hid B12
  replace X12 := Lib.hid X12
  replace S12 := Lib.hid S12
  clear T11 B11 X11 S11
  refine (next_any (w.heap.size + 1) A n cap _ zs 9 W12 S12.out (hs.out.keep B12.out) hn (by decide) (by decide)).mono ?_
  rintro e W13 ⟨v8, k8, rfl, v8a, v8b, S13, g13⟩
  have B13 := Lib.hid (B12.out.grown g13 B12.out.size (fun k e => by cases e; omega))
  have X13 := Lib.hid (X12.out.grown g13 (by simp))
  replace S13 := Lib.hid S13
  have T13 := Lib.hid (T12.out.grown g13 (by simp; omega))
  clear g13 B12 X12 S12 T12
  go_wp2_with (fail)
  refine (service_any v8 _ (by omega) (by omega)).mono ?_
  rintro e W14 ⟨sa, sb, sc, rfl, hsa, hsb, hb14⟩
  have B14 := Lib.hid (below_keep hb14 B13.out)
  have X14 := Lib.hid (X13.out.keep hb14)
  have S14 := Lib.hid (S13.out.grown (below_grown (row := none) hb14) (by simp))
  have T14 := Lib.hid (T13.out.keep hb14)
  clear hb14 B13 X13 S13 T13
  have q0 := T14.out.c 0 _ rfl
  have q1 := T14.out.c 1 _ rfl
  have q2 := T14.out.c 2 _ rfl
  have q3 := T14.out.c 3 _ rfl
  have q4 := T14.out.c 4 _ rfl
  have q5 := T14.out.c 5 _ rfl
  have q6 := T14.out.c 6 _ rfl
  have q7 := T14.out.c 7 _ rfl
  have q8 := T14.out.c 8 _ rfl
  have q9 := T14.out.c 9 _ rfl
  have qf := T14.out.fz
  have ql := T14.out.lt
  have hgs : g < W14.heap.size := ql
  go_wp2_with (fail)
  go_region
  clear q0 q1 q2 q3 q4 q5 q6 q7 q8 q9 qf ql
  have T15 : BoxAt (((W14.setCell ⟨g, 8, none⟩ (.string sa)).setCell ⟨g, 9, none⟩ (.string sb)).alloc (.cells #[.string sa, .string sb, .string sc] 23)).drew g [.bool (v1 == 1), .string (userS v2), .string ⟨#[]⟩, .string (realmS (v2 / 3)), .int .i64 v5, .int .u64 (keyOf 2 v3), .int .i64 v4, .int .i64 (v6 * 150 + v7), .string sa, .string sb] := ((T14.out.set 8 (.string sa) (by simp)).set 9 (.string sb) (by simp)).grown (grown_ad _ _) (by simp)
  have B15 : Below w.heap.size w (((W14.setCell ⟨g, 8, none⟩ (.string sa)).setCell ⟨g, 9, none⟩ (.string sb)).alloc (.cells #[.string sa, .string sb, .string sc] 23)).drew := Below.drew (((B14.out.setCell (by simp; omega) _).setCell (by simp; omega) _).alloc (by have := B14.out.size; simp [World.setCell]; omega) _)
  have X15 : BoxAt (((W14.setCell ⟨g, 8, none⟩ (.string sa)).setCell ⟨g, 9, none⟩ (.string sb)).alloc (.cells #[.string sa, .string sb, .string sc] 23)).drew w.heap.size zeroL := ((X14.out.grown (grown_set W14 ⟨g, 8, none⟩ (.string sa)) (by simp; omega)).grown (grown_set _ ⟨g, 9, none⟩ (.string sb)) (by simp; omega)).grown (grown_ad _ _) (by simp)
  have S15 := ((S14.out.grown (grown_set W14 ⟨g, 8, none⟩ (.string sa)) (by simp; omega)).grown (grown_set _ ⟨g, 9, none⟩ (.string sb)) (by simp; omega)).grown (grown_ad _ (.cells #[.string sa, .string sb, .string sc] 23)) (by simp)
  generalize (((W14.setCell ⟨g, 8, none⟩ (.string sa)).setCell ⟨g, 9, none⟩ (.string sb)).alloc (.cells #[.string sa, .string sb, .string sc] 23)).drew = W15 at T15 B15 X15 S15 ⊢
  replace T15 := Lib.hid T15
  replace B15 := Lib.hid B15
  replace X15 := Lib.hid X15
  replace S15 := Lib.hid S15
  clear T14 B14 X14 S14 hgs
  have GD : Gd ⟨v1 == 1, userS v2, ⟨#[]⟩, realmS (v2 / 3), v5, keyOf 2 v3, v4, v6 * 150 + v7, sa, sb⟩ := ⟨user_ok _, vinst_nil, realm_ok _, hsa, hsb, session_ok (by omega) (by omega), by show 0 ≤ v5 ∧ v5 ≤ 4294967295; omega, by show 0 ≤ v4 ∧ v4 ≤ 255; omega, by show 0 ≤ v6 * 150 + v7 ∧ v6 * 150 + v7 ≤ 4294967295; omega⟩
  obtain ⟨t, ht⟩ : ∃ t : S6.Tk, t = ⟨v1 == 1, userS v2, ⟨#[]⟩, realmS (v2 / 3), v5, keyOf 2 v3, v4, v6 * 150 + v7, sa, sb⟩ := ⟨_, rfl⟩
  have T15' : Hid (BoxAt W15 g (tkL t)) := by rw [ht]; exact T15
  rw [← ht] at GD
  clear ht T15
  replace GD := Lib.hid GD
  clear hsa hsb
  have T15 := T15'
  clear T15'
  go_wp2_with (fail)
  refine (next_any (w.heap.size + 1) A n cap _ zs 7 W15 S15.out (hs.out.keep B15.out) hn (by decide) (by decide)).mono ?_
  rintro e W16 ⟨v9, k9, rfl, v9a, v9b, S16, g16⟩
  have B16 := Lib.hid (B15.out.grown g16 B15.out.size (fun k e => by cases e; omega))
  have X16 := Lib.hid (X15.out.grown g16 (by simp))
  replace S16 := Lib.hid S16
  have T16 := Lib.hid (T15.out.grown g16 (by simp; omega))
  clear g16 B15 X15 S15 T15
  go_upto_if 42 with (fail)
  go_cut [] (fun W => Inv w W g A n cap)
  case first =>
    rcases hb : (v9 == 6)
    · go_wp2_with (fail)
      go_meet
      exact ⟨t, _, GD.out, T16.out, S16.out, X16.out, B16.out⟩
    · replace hb := Lib.hid hb
      have hb2 : (v9 == 6) = true := hb.out
      clear hb
      go_wp2_with (fail)
      refine (next_any (w.heap.size + 1) A n cap _ zs 3 W16 S16.out (hs.out.keep B16.out) hn (by decide) (by decide)).mono ?_
      rintro e W17 ⟨v10, k10, rfl, v10a, v10b, S17, g17⟩
      have B17 := Lib.hid (B16.out.grown g17 B16.out.size (fun k e => by cases e; omega))
      have X17 := Lib.hid (X16.out.grown g17 (by simp))
      replace S17 := Lib.hid S17
      have T17 := Lib.hid (T16.out.grown g17 (by simp; omega))
      clear g17 B16 X16 S16 T16
      go_wp2_with (fail)
      refine (next_any (w.heap.size + 1) A n cap _ zs 3 W17 S17.out (hs.out.keep B17.out) hn (by decide) (by decide)).mono ?_
      rintro e W18 ⟨v11, k11, rfl, v11a, v11b, S18, g18⟩
      have B18 := Lib.hid (B17.out.grown g18 B17.out.size (fun k e => by cases e; omega))
      have X18 := Lib.hid (X17.out.grown g18 (by simp))
      replace S18 := Lib.hid S18
      have T18 := Lib.hid (T17.out.grown g18 (by simp; omega))
      clear g18 B17 X17 S17 T17
      have q0 := T18.out.c 0 _ rfl
      have q1 := T18.out.c 1 _ rfl
      have q2 := T18.out.c 2 _ rfl
      have q3 := T18.out.c 3 _ rfl
      have q4 := T18.out.c 4 _ rfl
      have q5 := T18.out.c 5 _ rfl
      have q6 := T18.out.c 6 _ rfl
      have q7 := T18.out.c 7 _ rfl
      have q8 := T18.out.c 8 _ rfl
      have q9 := T18.out.c 9 _ rfl
      have qf := T18.out.fz
      have ql := T18.out.lt
      go_wp2_with (fail)
      clear q0 q1 q2 q3 q4 q5 q6 q7 q8 q9 qf ql
      go_meet
      exact ⟨⟨t.l, t.a, t.b, t.c, 4294967295 - v10, t.k, t.li, 4294967295 - v11, t.s, t.i⟩, _, ⟨GD.out.a, GD.out.b, GD.out.c, GD.out.s, GD.out.i, GD.out.k, (by show 0 ≤ 4294967295 - v10 ∧ 4294967295 - v10 ≤ 4294967295; omega), GD.out.li, (by show 0 ≤ 4294967295 - v11 ∧ 4294967295 - v11 ≤ 4294967295; omega)⟩,
        (T18.out.set 4 (.int .i64 (4294967295 - v10)) (by simp [tkL])).set 7 (.int .i64 (4294967295 - v11)) (by simp [tkL]),
        (S18.out.grown (grown_set W18 ⟨g, 4, none⟩ _) (by simp; omega)).grown (grown_set _ ⟨g, 7, none⟩ _) (by simp; omega), (X18.out.grown (grown_set W18 ⟨g, 4, none⟩ _) (by simp; omega)).grown (grown_set _ ⟨g, 7, none⟩ _) (by simp; omega), (B18.out.setCell (by simp; omega) _).setCell (by simp; omega) _⟩
  case rest =>
    clear T16 S16 X16 B16 GD
    obtain ⟨u, k, GD, T20, S20, X20, B20⟩ := hcut
    replace GD := Lib.hid GD
    replace T20 := Lib.hid T20
    replace S20 := Lib.hid S20
    replace X20 := Lib.hid X20
    replace B20 := Lib.hid B20
    obtain ⟨W20, hW20⟩ : ∃ W20, W20 = wc := ⟨_, rfl⟩
    subst hW20
    go_wp2_with (fail)
    refine (next_any (w.heap.size + 1) A n cap _ zs 9 W20 S20.out (hs.out.keep B20.out) hn (by decide) (by decide)).mono ?_
    rintro e W21 ⟨v12, k12, rfl, v12a, v12b, S21, g21⟩
    have B21 := Lib.hid (B20.out.grown g21 B20.out.size (fun k e => by cases e; omega))
    have X21 := Lib.hid (X20.out.grown g21 (by simp))
    replace S21 := Lib.hid S21
    have T21 := Lib.hid (T20.out.grown g21 (by simp; omega))
    clear g21 B20 X20 S20 T20
    go_upto_if 53 with (fail)
    go_cut [] (fun W => Inv w W g A n cap)
    case first =>
      rcases hb : (v12 == 8)
      · go_wp2_with (fail)
        go_meet
        exact ⟨u, _, GD.out, T21.out, S21.out, X21.out, B21.out⟩
      · replace hb := Lib.hid hb
        have hb2 : (v12 == 8) = true := hb.out
        clear hb
        go_wp2_with (fail)
        refine (next_any (w.heap.size + 1) A n cap _ zs 2 W21 S21.out (hs.out.keep B21.out) hn (by decide) (by decide)).mono ?_
        rintro e W22 ⟨v13, k13, rfl, v13a, v13b, S22, g22⟩
        have B22 := Lib.hid (B21.out.grown g22 B21.out.size (fun k e => by cases e; omega))
        have X22 := Lib.hid (X21.out.grown g22 (by simp))
        replace S22 := Lib.hid S22
        have T22 := Lib.hid (T21.out.grown g22 (by simp; omega))
        clear g22 B21 X21 S21 T21
        go_wp2_with (fail)
        refine (longest_any v13 _ (by omega)).mono ?_
        rintro e W23 ⟨rfl, hb23⟩
        have B23 := Lib.hid (below_keep hb23 B22.out)
        have X23 := Lib.hid (X22.out.keep hb23)
        have S23 := Lib.hid (S22.out.grown (below_grown (row := none) hb23) (by simp))
        have T23 := Lib.hid (T22.out.keep hb23)
        clear hb23 B22 X22 S22 T22
        obtain ⟨x, hx, hxa, hxb, hxc⟩ : ∃ x, x = nn (39 - v13.toNat) ∧ S1.vName x.data.toList = true ∧ S1.vInst x.data.toList = true ∧ S1.vRealm x.data.toList = true := by
          refine ⟨_, rfl, ?_⟩
          rcases (show v13 = 0 ∨ v13 = 1 by omega) with rfl | rfl
          · exact ⟨by decide, by decide, by decide⟩
          · exact ⟨by decide, by decide, by decide⟩
        rw [← hx]
        clear hx
        have hfd := fieldp
        have q0 := T23.out.c 0 _ rfl
        have q1 := T23.out.c 1 _ rfl
        have q2 := T23.out.c 2 _ rfl
        have q3 := T23.out.c 3 _ rfl
        have q4 := T23.out.c 4 _ rfl
        have q5 := T23.out.c 5 _ rfl
        have q6 := T23.out.c 6 _ rfl
        have q7 := T23.out.c 7 _ rfl
        have q8 := T23.out.c 8 _ rfl
        have q9 := T23.out.c 9 _ rfl
        have qf := T23.out.fz
        have ql := T23.out.lt
        go_wp2_with (fail)
        clear q0 q1 q2 q3 q4 q5 q6 q7 q8 q9 qf ql
        have T24 : BoxAt (((W23.setCell ⟨g, 1, none⟩ (.string x)).setCell ⟨g, 2, none⟩ (.string x)).setCell ⟨g, 3, none⟩ (.string x)) g [.bool u.l, .string x, .string x, .string x, .int .i64 u.ad, .int .u64 u.k, .int .i64 u.li, .int .i64 u.is, .string u.s, .string u.i] := (((T23.out.set 1 (.string x) (by simp [tkL])).set 2 (.string x) (by simp [tkL])).set 3 (.string x) (by simp [tkL]))
        have B24 : Below w.heap.size w (((W23.setCell ⟨g, 1, none⟩ (.string x)).setCell ⟨g, 2, none⟩ (.string x)).setCell ⟨g, 3, none⟩ (.string x)) := (((B23.out.setCell (by simp; omega) _).setCell (by simp; omega) _).setCell (by simp; omega) _)
        have X24 : BoxAt (((W23.setCell ⟨g, 1, none⟩ (.string x)).setCell ⟨g, 2, none⟩ (.string x)).setCell ⟨g, 3, none⟩ (.string x)) w.heap.size zeroL := (((X23.out.grown (grown_set W23 ⟨g, 1, none⟩ (.string x)) (by simp; omega)).grown (grown_set (W23.setCell ⟨g, 1, none⟩ (.string x)) ⟨g, 2, none⟩ (.string x)) (by simp; omega)).grown (grown_set ((W23.setCell ⟨g, 1, none⟩ (.string x)).setCell ⟨g, 2, none⟩ (.string x)) ⟨g, 3, none⟩ (.string x)) (by simp; omega))
        have S24 := (((S23.out.grown (grown_set W23 ⟨g, 1, none⟩ (.string x)) (by simp; omega)).grown (grown_set (W23.setCell ⟨g, 1, none⟩ (.string x)) ⟨g, 2, none⟩ (.string x)) (by simp; omega)).grown (grown_set ((W23.setCell ⟨g, 1, none⟩ (.string x)).setCell ⟨g, 2, none⟩ (.string x)) ⟨g, 3, none⟩ (.string x)) (by simp; omega))
        generalize (((W23.setCell ⟨g, 1, none⟩ (.string x)).setCell ⟨g, 2, none⟩ (.string x)).setCell ⟨g, 3, none⟩ (.string x)) = W24 at T24 B24 X24 S24 ⊢
        replace T24 := Lib.hid T24
        replace B24 := Lib.hid B24
        replace X24 := Lib.hid X24
        replace S24 := Lib.hid S24
        clear T23 B23 X23 S23
        refine (longest_any 0 _ (.inl rfl)).mono ?_
        rintro e W25 ⟨rfl, hb25⟩
        have B25 := Lib.hid (below_keep hb25 B24.out)
        have X25 := Lib.hid (X24.out.keep hb25)
        have S25 := Lib.hid (S24.out.grown (below_grown (row := none) hb25) (by simp))
        have T25 := Lib.hid (T24.out.keep hb25)
        clear hb25 B24 X24 S24 T24
        go_wp2_with (fail)
        refine (longest_any 0 _ (.inl rfl)).mono ?_
        rintro e W26 ⟨rfl, hb26⟩
        have B26 := Lib.hid (below_keep hb26 B25.out)
        have X26 := Lib.hid (X25.out.keep hb26)
        have S26 := Lib.hid (S25.out.grown (below_grown (row := none) hb26) (by simp))
        have T26 := Lib.hid (T25.out.keep hb26)
        clear hb26 B25 X25 S25 T25
        have q0 := T26.out.c 0 _ rfl
        have q1 := T26.out.c 1 _ rfl
        have q2 := T26.out.c 2 _ rfl
        have q3 := T26.out.c 3 _ rfl
        have q4 := T26.out.c 4 _ rfl
        have q5 := T26.out.c 5 _ rfl
        have q6 := T26.out.c 6 _ rfl
        have q7 := T26.out.c 7 _ rfl
        have q8 := T26.out.c 8 _ rfl
        have q9 := T26.out.c 9 _ rfl
        have qf := T26.out.fz
        have ql := T26.out.lt
        go_wp2_with (fail)
        clear q0 q1 q2 q3 q4 q5 q6 q7 q8 q9 qf ql
        go_meet
        exact ⟨⟨u.l, x, x, x, u.ad, u.k, u.li, u.is, nn 39, nn 39⟩, _, ⟨hxa, hxb, hxc, nn39_ok.1, nn39_ok.2, GD.out.k, GD.out.ad, GD.out.li, GD.out.is⟩,
          (T26.out.set 8 (.string (nn 39)) (by simp)).set 9 (.string (nn 39)) (by simp),
          (S26.out.grown (grown_set W26 ⟨g, 8, none⟩ _) (by simp; omega)).grown (grown_set _ ⟨g, 9, none⟩ _) (by simp; omega), (X26.out.grown (grown_set W26 ⟨g, 8, none⟩ _) (by simp; omega)).grown (grown_set _ ⟨g, 9, none⟩ _) (by simp; omega), (B26.out.setCell (by simp; omega) _).setCell (by simp; omega) _⟩
    case rest =>
      clear T21 S21 X21 B21 GD
      obtain ⟨t2, k2, GD, T30, S30, X30, B30⟩ := hcut
      clear S30
      replace GD := Lib.hid GD
      replace T30 := Lib.hid T30
      replace B30 := Lib.hid B30
      obtain ⟨W30, hW30⟩ : ∃ W30, W30 = wc := ⟨_, rfl⟩
      subst hW30
      have q0 := T30.out.c 0 _ rfl
      have q1 := T30.out.c 1 _ rfl
      have q2 := T30.out.c 2 _ rfl
      have q3 := T30.out.c 3 _ rfl
      have q4 := T30.out.c 4 _ rfl
      have q5 := T30.out.c 5 _ rfl
      have q6 := T30.out.c 6 _ rfl
      have q7 := T30.out.c 7 _ rfl
      have q8 := T30.out.c 8 _ rfl
      have q9 := T30.out.c 9 _ rfl
      have qf := T30.out.fz
      have ql := T30.out.lt
      have x0 := X30.c 0 _ rfl
      have x1 := X30.c 1 _ rfl
      have x2 := X30.c 2 _ rfl
      have x3 := X30.c 3 _ rfl
      have x4 := X30.c 4 _ rfl
      have x5 := X30.c 5 _ rfl
      have x6 := X30.c 6 _ rfl
      have x7 := X30.c 7 _ rfl
      have x8 := X30.c 8 _ rfl
      have x9 := X30.c 9 _ rfl
      have xf := X30.fz
      have xl := X30.lt
      have nRg : ¬ w.heap.size = g := by omega
      have nRg2 : ¬ g = w.heap.size := by omega
      clear X30
      go_wp2_with (fail)
      refine bodyPost_ret (v := t2.val) ?_ rfl ?_
      · simp [results, Try.results23, go_sem, S6.Tk.val, S6.Tk.cells, x0, x1, x2, x3, x4, x5, x6, x7, x8, x9]
      · exact ⟨t2, rfl, GD.out.fit, GD.out.chk, by repeat (first | (with_reducible exact B30.out) | refine Below.setCell ?_ (by simp) _)⟩

end Go.Proofs.Ytkhkmgblgonfoaa
