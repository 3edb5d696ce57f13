/-
  What the proof wants: KdS, KdB.
-/
import Derived.Test.YtkhkmgblgonfoaaQKdH
import Derived.Test.YtkhkmgblgonfoaaQRqD
import Derived.Test.YtkhkmgblgonfoaaQKdA
import Derived.Test.YtkhkmgblgonfoaaQMakeB

/-
  What the laws of chapter 9 make of plain data: replies and parts; when two of them are equal.
-/
namespace Go.Proofs.Ytkhkmgblgonfoaa
open Go.RowKit
set_option maxRecDepth 100000

set_option maxHeartbeats 1600000 in
theorem samereply_any (t : S9r.Rp) (A B : Option Addr) (n cap m cap' : Nat) (w : World) (hA : Sl w A n cap t.z) (hB : Sl w B m cap' t.z) : Calls Try.prog 21 #[t.val A n cap, t.val B m cap'] w fun e w' => e = .returned (.bool true) ∧ Below w.heap.size w w' := by
  have Bw := Lib.hid (show Below w.heap.size w ((w.alloc (.cells (t.cells A n cap) 49)).alloc (.cells (t.cells B m cap') 49)) from ((Below.refl _ _).alloc (Nat.le_refl _) _).alloc (by simp) _)
  have u1 := conv_sl (hA.keep Bw.out)
  have u2 := conv_sl (hB.keep Bw.out)
  clear hA hB
  unfold S9r.Rp.val S9r.Rp.cells
  unfold S9r.Rp.cells at Bw u1 u2
  go_enter Try.func21, Try.ntmps21
  go_wp2_with (fail)
  go_ret
  exact ⟨ret_bool (by simp), Bw.out⟩

set_option maxHeartbeats 1600000 in
theorem samepart_any (t : S9p.Pt) (A B : Option Addr) (n cap m cap' : Nat) (w : World) (hA : Sl w A n cap t.z) (hB : Sl w B m cap' t.z) : Calls Try.prog 16 #[t.val A n cap, t.val B m cap'] w fun e w' => e = .returned (.bool true) ∧ Below w.heap.size w w' := by
  have Bw := Lib.hid (show Below w.heap.size w ((w.alloc (.cells (t.cells A n cap) 40)).alloc (.cells (t.cells B m cap') 40)) from ((Below.refl _ _).alloc (Nat.le_refl _) _).alloc (by simp) _)
  have u1 := conv_sl (hA.keep Bw.out)
  have u2 := conv_sl (hB.keep Bw.out)
  clear hA hB
  unfold S9p.Pt.val S9p.Pt.cells
  unfold S9p.Pt.cells at Bw u1 u2
  go_enter Try.func16, Try.ntmps16
  go_wp2_with (fail)
  go_ret
  exact ⟨ret_bool (by simp), Bw.out⟩

set_option maxHeartbeats 1600000 in
theorem reply9_any (A : Option Addr) (n cap : Nat) (zs : List Int) (S : Option Addr) (sn scap : Nat) (ss : List Int) (l : Bool) (w : World) (h : Sl w A n cap zs) (hn : n ≤ 100000) (hS : Sl w S sn scap ss) : Calls Try.prog 17 #[.slice A n cap, .slice S sn scap, .bool l] w (fun e w' => ∃ u : S9r.Rp, e = .returned (u.val S sn scap) ∧ u.z = ss ∧ u.Fit ∧ Below w.heap.size w w') := by
  have B0 := Lib.hid (show Below w.heap.size w (w.alloc (.cells zeroRp.toArray 49)) from (Below.refl _ _).alloc (Nat.le_refl _) _)
  have X0 := Lib.hid (BoxAt.new w zeroRp 49)
  unfold zeroRp at X0 B0
  have hk := Lib.hid (h.keep B0.out)
  have hr := Lib.hid hS.range
  go_enter Try.func17, Try.ntmps17
  go_wp2_with (fail)
  refine (ticketData_any A n cap zs _ hk.out hn).mono ?_
  rintro e w1 ⟨t, rfl, f, c, hb1⟩
  have HF := Lib.hid f
  have B1 := below_keep hb1 B0.out
  have X1 := X0.out.keep hb1
  have T2 := TkAt.new w1 t 61
  have X2 := X1.grown (World.grownBy_alloc w1 (.cells t.cells 61) none) (by simp)
  have B2 := B1.alloc B1.size (.cells t.cells 61)
  unfold S6.Tk.cells at T2 X2 B2
  clear X1 hb1 f c B0 X0
  unfold S6.Tk.val S6.Tk.cells
  go_upto_region 2 with (fail)
  obtain ⟨g, hg⟩ : ∃ g, g = w1.heap.size := ⟨_, rfl⟩
  rw [← hg] at T2
  rw [← hg]
  generalize (w1.alloc (.cells #[.bool t.l, .string t.a, .string t.b, .string t.c, .int .i64 t.ad, .int .u64 t.k, .int .i64 t.li, .int .i64 t.is, .string t.s, .string t.i] 61)) = w2 at T2 X2 B2 ⊢
  clear hg B1
  obtain ⟨y0, y1, y2, y3, y4, y5, y6, y7, y8, y9⟩ := T2
  have x0 := X2.c 0 _ rfl
  have x1 := X2.c 1 _ rfl
  have x2 := X2.c 2 _ rfl
  have x3 := X2.c 3 _ rfl
  have x4 := X2.c 4 _ rfl
  have x5 := X2.c 5 _ rfl
  have x6 := X2.c 6 _ rfl
  have x7 := X2.c 7 _ rfl
  have xf := X2.fz
  have xl := X2.lt
  have gl := cell_lt y0
  replace B2 := Lib.hid B2
  clear X2
  go_wp2_with (fail)
  refine bodyPost_ret (v := (S9r.Rp.mk l t.a t.b t.c t.is t.ad t.li ss).val S sn scap) ?_ rfl ?_
  · simp [results, Try.results17, go_sem, S9r.Rp.val, S9r.Rp.cells, x0, x1, x2, x3, x4, x5, x6, x7]
  · exact ⟨_, rfl, rfl, ⟨HF.out.a, HF.out.b, HF.out.c, HF.out.is, HF.out.ad, HF.out.li, hr.out⟩, by repeat (first | (with_reducible exact B2.out) | refine Below.setCell ?_ (by simp) _)⟩

set_option maxHeartbeats 1600000 in
theorem part9_le (A : Option Addr) (n cap : Nat) (zs : List Int) (S : Option Addr) (sn scap : Nat) (ss : List Int) (w : World) (h : Sl w A n cap zs) (hn : n ≤ 100000) (hS : Sl w S sn scap ss) (hsn : (sn : Int) ≤ 255) : Calls Try.prog 12 #[.slice A n cap, .slice S sn scap] w (fun e w' => ∃ u : S9p.Pt, e = .returned (u.val S sn scap) ∧ u.z = ss ∧ u.Fit ∧ Below w.heap.size w w') := by
  have B0 := Lib.hid (show Below w.heap.size w (w.alloc (.cells zeroPt.toArray 40)) from (Below.refl _ _).alloc (Nat.le_refl _) _)
  have X0 := Lib.hid (BoxAt.new w zeroPt 40)
  unfold zeroPt at X0 B0
  have hk := Lib.hid (h.keep B0.out)
  have hr := Lib.hid hS.range
  go_enter Try.func12, Try.ntmps12
  go_wp2_with (fail)
  refine (ticketData_any A n cap zs _ hk.out hn).mono ?_
  rintro e w1 ⟨t, rfl, f, c, hb1⟩
  have HF := Lib.hid f
  have B1 := below_keep hb1 B0.out
  have X1 := X0.out.keep hb1
  have T2 := TkAt.new w1 t 61
  have X2 := X1.grown (World.grownBy_alloc w1 (.cells t.cells 61) none) (by simp)
  have B2 := B1.alloc B1.size (.cells t.cells 61)
  unfold S6.Tk.cells at T2 X2 B2
  clear X1 hb1 f c B0 X0
  unfold S6.Tk.val S6.Tk.cells
  go_upto_region 2 with (fail)
  obtain ⟨g, hg⟩ : ∃ g, g = w1.heap.size := ⟨_, rfl⟩
  rw [← hg] at T2
  rw [← hg]
  generalize (w1.alloc (.cells #[.bool t.l, .string t.a, .string t.b, .string t.c, .int .i64 t.ad, .int .u64 t.k, .int .i64 t.li, .int .i64 t.is, .string t.s, .string t.i] 61)) = w2 at T2 X2 B2 ⊢
  clear hg B1
  obtain ⟨y0, y1, y2, y3, y4, y5, y6, y7, y8, y9⟩ := T2
  have x0 := X2.c 0 _ rfl
  have x1 := X2.c 1 _ rfl
  have x2 := X2.c 2 _ rfl
  have x3 := X2.c 3 _ rfl
  have x4 := X2.c 4 _ rfl
  have x5 := X2.c 5 _ rfl
  have x6 := X2.c 6 _ rfl
  have x7 := X2.c 7 _ rfl
  have xf := X2.fz
  have xl := X2.lt
  have gl := cell_lt y0
  replace B2 := Lib.hid B2
  clear X2
  go_wp2_with (fail)
  refine bodyPost_ret (v := (S9p.Pt.mk t.k t.a t.b t.c t.li t.li ss t.is).val S sn scap) ?_ rfl ?_
  · simp [results, Try.results12, go_sem, S9p.Pt.val, S9p.Pt.cells, x0, x1, x2, x3, x4, x5, x6, x7]
  · exact ⟨_, rfl, rfl, ⟨HF.out.k, HF.out.a, HF.out.b, HF.out.c, HF.out.li, HF.out.li, hr.out, HF.out.is⟩, by repeat (first | (with_reducible exact B2.out) | refine Below.setCell ?_ (by simp) _)⟩

set_option maxHeartbeats 1600000 in
theorem part9_gt (A : Option Addr) (n cap : Nat) (zs : List Int) (S : Option Addr) (sn scap : Nat) (ss : List Int) (w : World) (h : Sl w A n cap zs) (hn : n ≤ 100000) (hS : Sl w S sn scap ss) (hsn : 255 < (sn : Int)) : Calls Try.prog 12 #[.slice A n cap, .slice S sn scap] w (fun e w' => ∃ u : S9p.Pt, e = .returned (u.val S 255 scap) ∧ u.z = ss.take 255 ∧ u.Fit ∧ Below w.heap.size w w') := by
  have B0 := Lib.hid (show Below w.heap.size w (w.alloc (.cells zeroPt.toArray 40)) from (Below.refl _ _).alloc (Nat.le_refl _) _)
  have X0 := Lib.hid (BoxAt.new w zeroPt 40)
  unfold zeroPt at X0 B0
  have hk := Lib.hid (h.keep B0.out)
  have hr := Lib.hid hS.range
  have hsc : (255 : Int) ≤ (scap : Int) := by have := hS.2.1; omega
  go_enter Try.func12, Try.ntmps12
  go_wp2_with (fail)
  refine (ticketData_any A n cap zs _ hk.out hn).mono ?_
  rintro e w1 ⟨t, rfl, f, c, hb1⟩
  have HF := Lib.hid f
  have B1 := below_keep hb1 B0.out
  have X1 := X0.out.keep hb1
  have T2 := TkAt.new w1 t 61
  have X2 := X1.grown (World.grownBy_alloc w1 (.cells t.cells 61) none) (by simp)
  have B2 := B1.alloc B1.size (.cells t.cells 61)
  unfold S6.Tk.cells at T2 X2 B2
  clear X1 hb1 f c B0 X0
  unfold S6.Tk.val S6.Tk.cells
  go_upto_region 2 with (fail)
  obtain ⟨g, hg⟩ : ∃ g, g = w1.heap.size := ⟨_, rfl⟩
  rw [← hg] at T2
  rw [← hg]
  generalize (w1.alloc (.cells #[.bool t.l, .string t.a, .string t.b, .string t.c, .int .i64 t.ad, .int .u64 t.k, .int .i64 t.li, .int .i64 t.is, .string t.s, .string t.i] 61)) = w2 at T2 X2 B2 ⊢
  clear hg B1
  obtain ⟨y0, y1, y2, y3, y4, y5, y6, y7, y8, y9⟩ := T2
  have x0 := X2.c 0 _ rfl
  have x1 := X2.c 1 _ rfl
  have x2 := X2.c 2 _ rfl
  have x3 := X2.c 3 _ rfl
  have x4 := X2.c 4 _ rfl
  have x5 := X2.c 5 _ rfl
  have x6 := X2.c 6 _ rfl
  have x7 := X2.c 7 _ rfl
  have xf := X2.fz
  have xl := X2.lt
  have gl := cell_lt y0
  replace B2 := Lib.hid B2
  clear X2
  go_wp2_with (fail)
  refine bodyPost_ret (v := (S9p.Pt.mk t.k t.a t.b t.c t.li t.li (ss.take 255) t.is).val S 255 scap) ?_ rfl ?_
  · simp [results, Try.results12, go_sem, S9p.Pt.val, S9p.Pt.cells, x0, x1, x2, x3, x4, x5, x6, x7]
  · exact ⟨_, rfl, rfl, ⟨HF.out.k, HF.out.a, HF.out.b, HF.out.c, HF.out.li, HF.out.li, fun z hz => hr.out z (List.mem_of_mem_take hz), HF.out.is⟩, by repeat (first | (with_reducible exact B2.out) | refine Below.setCell ?_ (by simp) _)⟩

end Go.Proofs.Ytkhkmgblgonfoaa

/-
  A reply's cells as a list; what other blocks' changes leave of it.
-/
namespace Go.Proofs.Ytkhkmgblgonfoaa
open Go.RowKit

def rpL (t : S9r.Rp) (A : Option Addr) (n cap : Nat) : List Value := [.bool t.l, .string t.a, .string t.b, .string t.c, .int .i64 t.tm, .int .i64 t.ex, .int .i64 t.kv, .slice A n cap]
theorem RpAt.ofL {w : World} {g : Nat} {t : S9r.Rp} {A : Option Addr} {n cap : Nat} (h : BoxAt w g (rpL t A n cap)) : RpAt w g t A n cap := ⟨h.c 0 _ rfl, h.c 1 _ rfl, h.c 2 _ rfl, h.c 3 _ rfl, h.c 4 _ rfl, h.c 5 _ rfl, h.c 6 _ rfl, h.c 7 _ rfl⟩
theorem RpAt.grown {w w' : World} {g : Nat} {t : S9r.Rp} {A : Option Addr} {n cap : Nat} {row : Option Nat} (h : RpAt w g t A n cap) (hg : w.grownBy w' row) (hne : some g ≠ row) : RpAt w' g t A n cap :=
  ⟨hg.cell h.c0 hne, hg.cell h.c1 hne, hg.cell h.c2 hne, hg.cell h.c3 hne, hg.cell h.c4 hne, hg.cell h.c5 hne, hg.cell h.c6 hne, hg.cell h.c7 hne⟩
/-- Some record in a block, with its bytes. -/
def SomeRp (w : World) (v : Value) : Prop := ∃ T y A n cap, v = .pointer (some ⟨T, 0, none⟩) ∧ y.Fit ∧ RpAt w T y A n cap ∧ Sl w A n cap y.z ∧ n ≤ 1100

/-- The first bytes of a slice. -/
theorem Sl.first {w : World} {A : Option Addr} {n cap : Nat} {zs : List Int} (h : Sl w A n cap zs) (m : Nat) (hm : m ≤ n) (h0 : 0 < n) : Sl w A m cap (zs.take m) :=
  ⟨h.1.cut m hm, Nat.le_trans hm h.2.1, h.2.2.1, .inr (by
    rcases h.2.2.2 with ⟨h1, _⟩ | h1
    · omega
    · exact h1)⟩
/-- A part without errors; its bytes at any world at which the given ones are there. -/
theorem part9_any (A : Option Addr) (n cap : Nat) (zs : List Int) (S : Option Addr) (sn scap : Nat) (ss : List Int) (w w0 : World) (h : Sl w A n cap zs) (hn : n ≤ 100000) (hS : Sl w S sn scap ss) (h0 : Sl w0 S sn scap ss) :
    Calls Try.prog 12 #[.slice A n cap, .slice S sn scap] w (fun e w' => ∃ (u : S9p.Pt) (UA : Option Addr) (un ucap : Nat), e = .returned (u.val UA un ucap) ∧ Sl w0 UA un ucap u.z ∧ un ≤ 255 ∧ u.Fit ∧ Below w.heap.size w w') := by
  rcases Int.lt_or_le 255 (sn : Int) with g | g
  · exact (part9_gt A n cap zs S sn scap ss w h hn hS g).mono fun e w' ⟨u, he, hz, hf, hb⟩ => ⟨u, S, 255, scap, he, by rw [hz]; exact h0.first 255 (by omega) (by omega), by omega, hf, hb⟩
  · exact (part9_le A n cap zs S sn scap ss w h hn hS g).mono fun e w' ⟨u, he, hz, hf, hb⟩ => ⟨u, S, sn, scap, he, by rw [hz]; exact h0, by omega, hf, hb⟩

def ptL (t : S9p.Pt) (A : Option Addr) (n cap : Nat) : List Value := [.int .u64 t.k, .string t.a, .string t.b, .string t.c, .int .i64 t.li, .int .i64 t.kv, .slice A n cap, .int .i64 t.tm]
theorem PtAt.ofL {w : World} {g : Nat} {t : S9p.Pt} {A : Option Addr} {n cap : Nat} (h : BoxAt w g (ptL t A n cap)) : PtAt w g t A n cap := ⟨h.c 0 _ rfl, h.c 1 _ rfl, h.c 2 _ rfl, h.c 3 _ rfl, h.c 4 _ rfl, h.c 5 _ rfl, h.c 6 _ rfl, h.c 7 _ rfl⟩
theorem PtAt.grown {w w' : World} {g : Nat} {t : S9p.Pt} {A : Option Addr} {n cap : Nat} {row : Option Nat} (h : PtAt w g t A n cap) (hg : w.grownBy w' row) (hne : some g ≠ row) : PtAt w' g t A n cap :=
  ⟨hg.cell h.c0 hne, hg.cell h.c1 hne, hg.cell h.c2 hne, hg.cell h.c3 hne, hg.cell h.c4 hne, hg.cell h.c5 hne, hg.cell h.c6 hne, hg.cell h.c7 hne⟩
/-- Some record in a block, with its bytes. -/
def SomePt (w : World) (v : Value) : Prop := ∃ T y A n cap, v = .pointer (some ⟨T, 0, none⟩) ∧ y.Fit ∧ PtAt w T y A n cap ∧ Sl w A n cap y.z ∧ n ≤ 400

end Go.Proofs.Ytkhkmgblgonfoaa
