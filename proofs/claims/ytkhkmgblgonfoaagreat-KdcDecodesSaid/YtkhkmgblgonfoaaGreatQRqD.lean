/-
  What the proof wants: RqD, RpD, PtD, ErD.
-/
import Derived.Test.YtkhkmgblgonfoaaGreatQRqR
import Derived.Test.YtkhkmgblgonfoaaGreatQReader
import Derived.Test.YtkhkmgblgonfoaaGreatQRpR
import Derived.Test.YtkhkmgblgonfoaaGreatQPtR
import Derived.Test.YtkhkmgblgonfoaaGreatQKeyRB
import Derived.Test.YtkhkmgblgonfoaaGreatQErR

/-
  What DecodeRequest of the document's answer returns.
-/
namespace Go.Proofs.YtkhkmgblgonfoaaGreat
open Go.RowKit
set_option maxRecDepth 100000

def RqDec (zs : List Int) (w : World) (e : Ending) (w' : World) : Prop := e = .returned (.tuple #[(S9q.decT zs).val, .int .i64 (S9q.decE zs)]) ∧ Below w.heap.size w w'
theorem RqDec.mk {zs : List Int} {w w' : World} {t : S9q.Rq} {x : Int} (h : S9q.decE zs = x ∧ S9q.decT zs = t) (hb : Below w.heap.size w w') : RqDec zs w (.returned (.tuple #[t.val, .int .i64 x])) w' := ⟨by rw [h.1, h.2], hb⟩
def zeroRq : List Value := [.bool false, .string ⟨#[]⟩, .string ⟨#[]⟩, .string ⟨#[]⟩, .int .i64 0, .int .i64 0, .string ⟨#[]⟩, .string ⟨#[]⟩]
theorem rqparse_fit {zs : List Int} (hz : ∀ z ∈ zs, 0 ≤ z ∧ z ≤ 255) : (S9q.parse zs).Fit := by
  have g : ∀ a k l, k ≤ 4 → -9223372036854775808 ≤ S5.getV zs a k l ∧ S5.getV zs a k l ≤ 9223372036854775807 := fun a k l hk => by have := getV_range hz a k l hk; omega
  exact ⟨txS_size _ _, txS_size _ _, txS_size _ _, g _ _ _ (by decide), g _ _ _ (by decide), txS_size _ _, txS_size _ _⟩
theorem rqstr_inj {xs ys : List Int} (hx : ∀ n ∈ xs, 0 ≤ n ∧ n ≤ 255) (hy : ∀ n ∈ ys, 0 ≤ n ∧ n ≤ 255) (h : (strOfNums xs).toList = (strOfNums ys).toList) : xs = ys := by
  refine strOfNums_inj hx hy ?_
  rw [ByteArray.toList_eq, ByteArray.toList_eq] at h
  exact ByteArray.ext (Array.ext' h)
/-- A row of one number that was just built. -/
theorem rqrow_one (w : World) (k : Int) (h : IntKind.i64.min ≤ k ∧ k ≤ IntKind.i64.max) (T : TypeId) : RowK .i64 (w.alloc (.cells #[.int .i64 k] T)) (some ⟨w.heap.size, 0, none⟩) 1 [k] :=
  ⟨rfl, fun n hn => by rw [List.mem_singleton] at hn; subst hn; exact h, fun _ => ⟨_, _, rfl, fun i hi => by
    have : i = 0 := by simp at hi; omega
    subst this
    simp [go_sem]⟩⟩

set_option maxHeartbeats 3200000 in
theorem rqdecode_kind (A : Option Addr) (n cap : Nat) (zs : List Int) (w : World) (h : Sl w A n cap zs) (hn : n ≤ 100000) (he : S8.isE zs [1] ≠ 0) : Calls Tryz.prog 15 #[.slice A n cap] w (RqDec zs w) := by
  have HX := Lib.hid (S9q.dec_kind he)
  have he2 : (S8.isE zs [1] != 0) = true := by simpa using he
  have hk := Lib.hid h
  have X0 : BoxAt ((w.alloc (.cells #[.bool false, .string ⟨#[]⟩, .string ⟨#[]⟩, .string ⟨#[]⟩, .int .i64 0, .int .i64 0, .string ⟨#[]⟩, .string ⟨#[]⟩] 31)).alloc (.cells #[.int .i64 1] 3)) w.heap.size zeroRq := (BoxAt.new w zeroRq 31).grown (World.grownBy_alloc _ _ none) (by simp)
  have B0 : Below w.heap.size w ((w.alloc (.cells #[.bool false, .string ⟨#[]⟩, .string ⟨#[]⟩, .string ⟨#[]⟩, .int .i64 0, .int .i64 0, .string ⟨#[]⟩, .string ⟨#[]⟩] 31)).alloc (.cells #[.int .i64 1] 3)) := ((Below.refl _ _).alloc (Nat.le_refl _) _).alloc (by simp) _
  have KR : RowK .i64 ((w.alloc (.cells #[.bool false, .string ⟨#[]⟩, .string ⟨#[]⟩, .string ⟨#[]⟩, .int .i64 0, .int .i64 0, .string ⟨#[]⟩, .string ⟨#[]⟩] 31)).alloc (.cells #[.int .i64 1] 3)) (some ⟨w.heap.size + 1, 0, none⟩) 1 [1] := by
    have := rqrow_one (w.alloc (.cells #[.bool false, .string ⟨#[]⟩, .string ⟨#[]⟩, .string ⟨#[]⟩, .int .i64 0, .int .i64 0, .string ⟨#[]⟩, .string ⟨#[]⟩] 31)) 1 (by decide) 3
    rw [show (w.alloc (.cells #[.bool false, .string ⟨#[]⟩, .string ⟨#[]⟩, .string ⟨#[]⟩, .int .i64 0, .int .i64 0, .string ⟨#[]⟩, .string ⟨#[]⟩] 31)).heap.size = w.heap.size + 1 by simp] at this
    exact this
  have IC := r8is_any A n cap zs (some ⟨w.heap.size + 1, 0, none⟩) 1 1 [1] ((w.alloc (.cells #[.bool false, .string ⟨#[]⟩, .string ⟨#[]⟩, .string ⟨#[]⟩, .int .i64 0, .int .i64 0, .string ⟨#[]⟩, .string ⟨#[]⟩] 31)).alloc (.cells #[.int .i64 1] 3)) (h.keep B0) hn KR (by decide)
  unfold IsOut at IC
  replace IC := Lib.hid IC
  replace X0 := Lib.hid X0
  replace B0 := Lib.hid B0
  clear he KR hk h
  go_enter Tryz.func15, Tryz.ntmps15
  go_wp2_with (fail)
  refine IC.out.mono ?_
  rintro e w1 ⟨rfl, hb1⟩
  have X1 := X0.out.keep hb1
  have B1 := Lib.hid (below_keep hb1 B0.out)
  clear hb1 B0 X0 IC
  have x0 := X1.c 0 _ rfl
  have x1 := X1.c 1 _ rfl
  have x2 := X1.c 2 _ rfl
  have x3 := X1.c 3 _ rfl
  have x4 := X1.c 4 _ rfl
  have x5 := X1.c 5 _ rfl
  have x6 := X1.c 6 _ rfl
  have x7 := X1.c 7 _ rfl
  have xf := X1.fz
  have xl := X1.lt
  clear X1
  go_wp2_with (fail)
  refine bodyPost_ret (v := .tuple #[S9q.Rq.zero.val, .int .i64 (S8.isE zs [1])]) ?_ rfl ?_
  · simp [results, Tryz.results15, go_sem, S9q.Rq.val, S9q.Rq.cells, S9q.Rq.zero, x0, x1, x2, x3, x4, x5, x6, x7]
  · exact RqDec.mk HX.out (by repeat (first | (with_reducible exact B1.out) | refine Below.setCell ?_ (by simp) _))

set_option maxHeartbeats 6400000 in
theorem rqdecode_read (A : Option Addr) (n cap : Nat) (zs : List Int) (w : World) (h : Sl w A n cap zs) (hn : n ≤ 100000) (he : S8.isE zs [1] = 0) : Calls Tryz.prog 15 #[.slice A n cap] w (RqDec zs w) := by
  have HN := Lib.hid he
  have hrg := Lib.hid h.range
  have HF := Lib.hid (rqparse_fit h.range)
  obtain ⟨P, hP⟩ : ∃ P, P = S9q.parse zs := ⟨_, rfl⟩
  have EC := Lib.hid (fun W => rqencode_any P (by rw [hP]; exact HF.out) W)
  unfold RqEnc S9q.Rq.val S9q.Rq.cells at EC
  have gl : S8.isB zs [1] = P.l := by
    have e0 : S8.rdE zs = 0 := by
      rcases Classical.em (S8.rdE zs = 0) with e | e
      · exact e
      · rw [(S8.is_err e _).1] at he; exact absurd he e
    have e1 : S8.rdK zs ∈ [(1 : Int)] := by
      rcases Classical.em (S8.rdK zs ∈ [(1 : Int)]) with e | e
      · exact e
      · rw [(S8.is_no e0 e).1] at he; exact absurd he (by decide)
    rw [(S8.is_yes e0 e1).2, hP]; rfl
  have g_a : P.a = strOfNums (S5.txS zs S9q.s0.at') := by rw [hP]; rfl
  have g_b : P.b = strOfNums (S5.txS zs (S9q.s1 zs).at') := by rw [hP]; rfl
  have g_c : P.c = strOfNums (S5.txS zs (S9q.s2 zs).at') := by rw [hP]; rfl
  have g_tm : P.tm = S5.getV zs (S9q.s3 zs).at' 4 P.l := by rw [hP]; rfl
  have g_li : P.li = S5.getV zs (S9q.s4 zs).at' 1 false := by rw [hP]; rfl
  have g_s : P.s = strOfNums (S5.txS zs (S9q.s5 zs).at') := by rw [hP]; rfl
  have g_i : P.i = strOfNums (S5.txS zs (S9q.s6 zs).at') := by rw [hP]; rfl
  obtain ⟨T1, hT1⟩ : ∃ T, T = S9q.s1 zs := ⟨_, rfl⟩
  obtain ⟨T2, hT2⟩ : ∃ T, T = S9q.s2 zs := ⟨_, rfl⟩
  obtain ⟨T3, hT3⟩ : ∃ T, T = S9q.s3 zs := ⟨_, rfl⟩
  obtain ⟨T4, hT4⟩ : ∃ T, T = S9q.s4 zs := ⟨_, rfl⟩
  obtain ⟨T5, hT5⟩ : ∃ T, T = S9q.s5 zs := ⟨_, rfl⟩
  obtain ⟨T6, hT6⟩ : ∃ T, T = S9q.s6 zs := ⟨_, rfl⟩
  obtain ⟨T7, hT7⟩ : ∃ T, T = S9q.s7 zs := ⟨_, rfl⟩
  have m1 : T1 = S9q.s0.move (S5.txN zs S9q.s0.at') (S5.txE zs S9q.s0.at') := by rw [hT1]; rfl
  have m2 : T2 = T1.move (S5.txN zs T1.at') (S5.txE zs T1.at') := by rw [hT2, hT1]; rfl
  have m3 : T3 = T2.move (S5.txN zs T2.at') (S5.txE zs T2.at') := by rw [hT3, hT2]; rfl
  have m4 : T4 = T3.move (S5.getN zs T3.at' 4) (S5.getE zs T3.at' 4) := by rw [hT4, hT3]; rfl
  have m5 : T5 = T4.move (S5.getN zs T4.at' 1) (S5.getE zs T4.at' 1) := by rw [hT5, hT4]; rfl
  have m6 : T6 = T5.move (S5.txN zs T5.at') (S5.txE zs T5.at') := by rw [hT6, hT5]; rfl
  have m7 : T7 = T6.move (S5.txN zs T6.at') (S5.txE zs T6.at') := by rw [hT7, hT6]; rfl
  rw [← hT1] at g_b
  rw [← hT2] at g_c
  rw [← hT3] at g_tm
  rw [← hT4] at g_li
  rw [← hT5] at g_s
  rw [← hT6] at g_i
  have HB := Lib.hid (fun hb => S9q.dec_bad (zs := zs) HN.out hb)
  have HI := Lib.hid (fun (f : P.Fit) (c : S9q.chkE P = 0) (e : S9q.enc P = zs) => S9q.dec_yes (zs := zs) (t := P) ⟨f, c, e⟩)
  rw [← hT7, ← hP] at HB
  rw [← hP] at HF
  clear hP hT1 hT2 hT3 hT4 hT5 hT6 hT7
  replace m1 := Lib.hid m1
  replace m2 := Lib.hid m2
  replace m3 := Lib.hid m3
  replace m4 := Lib.hid m4
  replace m5 := Lib.hid m5
  replace m6 := Lib.hid m6
  replace m7 := Lib.hid m7
  replace g_a := Lib.hid g_a
  replace g_b := Lib.hid g_b
  replace g_c := Lib.hid g_c
  replace g_tm := Lib.hid g_tm
  replace g_li := Lib.hid g_li
  replace g_s := Lib.hid g_s
  replace g_i := Lib.hid g_i
  have hk := Lib.hid h
  have X0 : BoxAt ((w.alloc (.cells #[.bool false, .string ⟨#[]⟩, .string ⟨#[]⟩, .string ⟨#[]⟩, .int .i64 0, .int .i64 0, .string ⟨#[]⟩, .string ⟨#[]⟩] 31)).alloc (.cells #[.int .i64 1] 3)) w.heap.size zeroRq := (BoxAt.new w zeroRq 31).grown (World.grownBy_alloc _ _ none) (by simp)
  have B0 : Below w.heap.size w ((w.alloc (.cells #[.bool false, .string ⟨#[]⟩, .string ⟨#[]⟩, .string ⟨#[]⟩, .int .i64 0, .int .i64 0, .string ⟨#[]⟩, .string ⟨#[]⟩] 31)).alloc (.cells #[.int .i64 1] 3)) := ((Below.refl _ _).alloc (Nat.le_refl _) _).alloc (by simp) _
  have KR : RowK .i64 ((w.alloc (.cells #[.bool false, .string ⟨#[]⟩, .string ⟨#[]⟩, .string ⟨#[]⟩, .int .i64 0, .int .i64 0, .string ⟨#[]⟩, .string ⟨#[]⟩] 31)).alloc (.cells #[.int .i64 1] 3)) (some ⟨w.heap.size + 1, 0, none⟩) 1 [1] := by
    have := rqrow_one (w.alloc (.cells #[.bool false, .string ⟨#[]⟩, .string ⟨#[]⟩, .string ⟨#[]⟩, .int .i64 0, .int .i64 0, .string ⟨#[]⟩, .string ⟨#[]⟩] 31)) 1 (by decide) 3
    rw [show (w.alloc (.cells #[.bool false, .string ⟨#[]⟩, .string ⟨#[]⟩, .string ⟨#[]⟩, .int .i64 0, .int .i64 0, .string ⟨#[]⟩, .string ⟨#[]⟩] 31)).heap.size = w.heap.size + 1 by simp] at this
    exact this
  have IC := r8is_any A n cap zs (some ⟨w.heap.size + 1, 0, none⟩) 1 1 [1] ((w.alloc (.cells #[.bool false, .string ⟨#[]⟩, .string ⟨#[]⟩, .string ⟨#[]⟩, .int .i64 0, .int .i64 0, .string ⟨#[]⟩, .string ⟨#[]⟩] 31)).alloc (.cells #[.int .i64 1] 3)) (h.keep B0) hn KR (by decide)
  unfold IsOut at IC
  rw [gl, he] at IC
  replace IC := Lib.hid IC
  replace X0 := Lib.hid X0
  replace B0 := Lib.hid B0
  clear gl he KR h
  have hnn := Lib.hid hn
  go_enter Tryz.func15, Tryz.ntmps15
  go_wp2_with (fail)
  refine IC.out.mono ?_
  rintro e w1 ⟨rfl, hb1⟩
  have X1 := X0.out.keep hb1
  have B1 := below_keep hb1 B0.out
  clear hb1 B0 X0 IC
  obtain ⟨r, hr⟩ : ∃ r, r = w1.heap.size := ⟨_, rfl⟩
  have D1 : Dst w ((w1.alloc (.cells #[.slice A n cap, .int .i64 2, .bool P.l, .bool false] 83)).alloc (.cells #[.bool P.l, .string ⟨#[]⟩, .string ⟨#[]⟩, .string ⟨#[]⟩, .int .i64 0, .int .i64 0, .string ⟨#[]⟩, .string ⟨#[]⟩] 31)) w.heap.size r (r + 1) A n cap P.l S9q.s0 zeroRq [.bool P.l, .string ⟨#[]⟩, .string ⟨#[]⟩, .string ⟨#[]⟩, .int .i64 0, .int .i64 0, .string ⟨#[]⟩, .string ⟨#[]⟩] := by
    have hx := BoxAt.new (w1.alloc (.cells #[.slice A n cap, .int .i64 2, .bool P.l, .bool false] 83)) [.bool P.l, .string ⟨#[]⟩, .string ⟨#[]⟩, .string ⟨#[]⟩, .int .i64 0, .int .i64 0, .string ⟨#[]⟩, .string ⟨#[]⟩] 31
    rw [show (w1.alloc (.cells #[.slice A n cap, .int .i64 2, .bool P.l, .bool false] 83)).heap.size = r + 1 by rw [hr]; simp] at hx
    have hlt := X1.lt
    have hsz := B1.size
    refine ⟨(B1.alloc B1.size _).alloc (by simp; omega) _, ?_, hx, (X1.grown (World.grownBy_alloc _ _ none) (by simp)).grown (World.grownBy_alloc _ _ none) (by simp), by omega, by omega, by omega, by omega, by omega⟩
    rw [hr]
    exact ⟨by simp [go_sem], by simp [go_sem, S9q.s0], by simp [go_sem], by simp [go_sem, S9q.s0], fun o => by simp [go_sem]⟩
  have hsz := B1.size
  obtain ⟨W, hW⟩ : ∃ W, W = ((w1.alloc (.cells #[.slice A n cap, .int .i64 2, .bool P.l, .bool false] 83)).alloc (.cells #[.bool P.l, .string ⟨#[]⟩, .string ⟨#[]⟩, .string ⟨#[]⟩, .int .i64 0, .int .i64 0, .string ⟨#[]⟩, .string ⟨#[]⟩] 31)) := ⟨_, rfl⟩
  rw [← hW] at D1
  replace hW := Lib.hid hW
  replace hr := Lib.hid hr
  clear X1 B1
  go_wp2_with (fail)
  rw [← hr.out, ← hW.out]
  clear hW hr hsz
  obtain ⟨g, hg⟩ : ∃ g, g = r + 1 := ⟨_, rfl⟩
  rw [← hg] at D1
  rw [← hg]
  clear hg
  refine (dprincipal D1 hk.out hnn.out P.a P.b P.c T1 T2 T3 g_a.out m1.out g_b.out m2.out g_c.out m3.out).mono ?_
  clear D1
  rintro e W2 ⟨rfl, D2⟩
  have q0 := D2.tk.c 0 _ rfl
  have q1 := D2.tk.c 1 _ rfl
  have q2 := D2.tk.c 2 _ rfl
  have q3 := D2.tk.c 3 _ rfl
  have q4 := D2.tk.c 4 _ rfl
  have q5 := D2.tk.c 5 _ rfl
  have q6 := D2.tk.c 6 _ rfl
  have q7 := D2.tk.c 7 _ rfl
  have qf := D2.tk.fz
  have ql := D2.tk.lt
  go_wp2_with (fail)
  clear q0 q1 q2 q3 q4 q5 q6 q7 qf ql
  have D3 : Dst w (((W2.setCell ⟨g, 1, none⟩ (.string P.a)).setCell ⟨g, 2, none⟩ (.string P.b)).setCell ⟨g, 3, none⟩ (.string P.c)) w.heap.size r g A n cap P.l T3 zeroRq [.bool P.l, .string P.a, .string P.b, .string P.c, .int .i64 0, .int .i64 0, .string ⟨#[]⟩, .string ⟨#[]⟩] := (((D2.set 1 (.string P.a) (by simp)).set 2 (.string P.b) (by simp)).set 3 (.string P.c) (by simp))
  clear D2
  generalize (((W2.setCell ⟨g, 1, none⟩ (.string P.a)).setCell ⟨g, 2, none⟩ (.string P.b)).setCell ⟨g, 3, none⟩ (.string P.c)) = W3 at D3 ⊢
  refine (dnumber D3 (hk.out.keep D3.below) hnn.out P.tm T4 g_tm.out m4.out).mono ?_
  clear D3
  rintro e W4 ⟨rfl, D4⟩
  have q0 := D4.tk.c 0 _ rfl
  have q1 := D4.tk.c 1 _ rfl
  have q2 := D4.tk.c 2 _ rfl
  have q3 := D4.tk.c 3 _ rfl
  have q4 := D4.tk.c 4 _ rfl
  have q5 := D4.tk.c 5 _ rfl
  have q6 := D4.tk.c 6 _ rfl
  have q7 := D4.tk.c 7 _ rfl
  have qf := D4.tk.fz
  have ql := D4.tk.lt
  go_wp2_with (fail)
  clear q0 q1 q2 q3 q4 q5 q6 q7 qf ql
  have D5 : Dst w (W4.setCell ⟨g, 4, none⟩ (.int .i64 P.tm)) w.heap.size r g A n cap P.l T4 zeroRq [.bool P.l, .string P.a, .string P.b, .string P.c, .int .i64 P.tm, .int .i64 0, .string ⟨#[]⟩, .string ⟨#[]⟩] := (D4.set 4 (.int .i64 P.tm) (by simp))
  clear D4
  generalize (W4.setCell ⟨g, 4, none⟩ (.int .i64 P.tm)) = W5 at D5 ⊢
  refine (doctet D5 (hk.out.keep D5.below) hnn.out P.li T5 g_li.out m5.out).mono ?_
  clear D5
  rintro e W6 ⟨rfl, D6⟩
  have q0 := D6.tk.c 0 _ rfl
  have q1 := D6.tk.c 1 _ rfl
  have q2 := D6.tk.c 2 _ rfl
  have q3 := D6.tk.c 3 _ rfl
  have q4 := D6.tk.c 4 _ rfl
  have q5 := D6.tk.c 5 _ rfl
  have q6 := D6.tk.c 6 _ rfl
  have q7 := D6.tk.c 7 _ rfl
  have qf := D6.tk.fz
  have ql := D6.tk.lt
  go_wp2_with (fail)
  clear q0 q1 q2 q3 q4 q5 q6 q7 qf ql
  have D7 : Dst w (W6.setCell ⟨g, 5, none⟩ (.int .i64 P.li)) w.heap.size r g A n cap P.l T5 zeroRq [.bool P.l, .string P.a, .string P.b, .string P.c, .int .i64 P.tm, .int .i64 P.li, .string ⟨#[]⟩, .string ⟨#[]⟩] := (D6.set 5 (.int .i64 P.li) (by simp))
  clear D6
  generalize (W6.setCell ⟨g, 5, none⟩ (.int .i64 P.li)) = W7 at D7 ⊢
  refine (dtext D7 (hk.out.keep D7.below) hnn.out P.s T6 g_s.out m6.out).mono ?_
  clear D7
  rintro e W8 ⟨rfl, D8⟩
  have q0 := D8.tk.c 0 _ rfl
  have q1 := D8.tk.c 1 _ rfl
  have q2 := D8.tk.c 2 _ rfl
  have q3 := D8.tk.c 3 _ rfl
  have q4 := D8.tk.c 4 _ rfl
  have q5 := D8.tk.c 5 _ rfl
  have q6 := D8.tk.c 6 _ rfl
  have q7 := D8.tk.c 7 _ rfl
  have qf := D8.tk.fz
  have ql := D8.tk.lt
  go_wp2_with (fail)
  clear q0 q1 q2 q3 q4 q5 q6 q7 qf ql
  have D9 : Dst w (W8.setCell ⟨g, 6, none⟩ (.string P.s)) w.heap.size r g A n cap P.l T6 zeroRq [.bool P.l, .string P.a, .string P.b, .string P.c, .int .i64 P.tm, .int .i64 P.li, .string P.s, .string ⟨#[]⟩] := (D8.set 6 (.string P.s) (by simp))
  clear D8
  generalize (W8.setCell ⟨g, 6, none⟩ (.string P.s)) = W9 at D9 ⊢
  refine (dtext D9 (hk.out.keep D9.below) hnn.out P.i T7 g_i.out m7.out).mono ?_
  clear D9
  rintro e W10 ⟨rfl, D10⟩
  have q0 := D10.tk.c 0 _ rfl
  have q1 := D10.tk.c 1 _ rfl
  have q2 := D10.tk.c 2 _ rfl
  have q3 := D10.tk.c 3 _ rfl
  have q4 := D10.tk.c 4 _ rfl
  have q5 := D10.tk.c 5 _ rfl
  have q6 := D10.tk.c 6 _ rfl
  have q7 := D10.tk.c 7 _ rfl
  have qf := D10.tk.fz
  have ql := D10.tk.lt
  go_wp2_with (fail)
  clear q0 q1 q2 q3 q4 q5 q6 q7 qf ql
  have D11 : Dst w (W10.setCell ⟨g, 7, none⟩ (.string P.i)) w.heap.size r g A n cap P.l T7 zeroRq [.bool P.l, .string P.a, .string P.b, .string P.c, .int .i64 P.tm, .int .i64 P.li, .string P.s, .string P.i] := (D10.set 7 (.string P.i) (by simp))
  clear D10
  generalize (W10.setCell ⟨g, 7, none⟩ (.string P.i)) = W11 at D11 ⊢
  refine (EC.out _).mono ?_
  rintro e W12 ⟨A2, n2, c2, rfl, hs2, hb2, _⟩
  have D12 := D11.keep hb2
  clear D11 hb2
  have u1 := conv_sl hs2
  have u2 := conv_sl (hk.out.keep D12.below)
  have hrs := Lib.hid hs2.range
  have q0 := D12.tk.c 0 _ rfl
  have q1 := D12.tk.c 1 _ rfl
  have q2 := D12.tk.c 2 _ rfl
  have q3 := D12.tk.c 3 _ rfl
  have q4 := D12.tk.c 4 _ rfl
  have q5 := D12.tk.c 5 _ rfl
  have q6 := D12.tk.c 6 _ rfl
  have q7 := D12.tk.c 7 _ rfl
  have qf := D12.tk.fz
  have ql := D12.tk.lt
  have x0 := D12.res.c 0 _ rfl
  have x1 := D12.res.c 1 _ rfl
  have x2 := D12.res.c 2 _ rfl
  have x3 := D12.res.c 3 _ rfl
  have x4 := D12.res.c 4 _ rfl
  have x5 := D12.res.c 5 _ rfl
  have x6 := D12.res.c 6 _ rfl
  have x7 := D12.res.c 7 _ rfl
  have xf := D12.res.fz
  have xl := D12.res.lt
  have r3 := D12.rd.c3
  have rl := cell_lt r3
  have BD := Lib.hid D12.below
  have nRg := D12.Rg
  clear D12 hs2
  by_cases hb : T7.bad = true
  · have HX := Lib.hid (HB.out (.inl hb))
    rw [hb] at r3
    clear hb
    go_wp2_with (fail)
    refine bodyPost_ret (v := .tuple #[S9q.Rq.zero.val, .int .i64 100]) ?_ rfl ?_
    · simp [results, Tryz.results15, go_sem, S9q.Rq.val, S9q.Rq.cells, S9q.Rq.zero, x0, x1, x2, x3, x4, x5, x6, x7]
    · exact RqDec.mk HX.out (by repeat (first | (with_reducible exact BD.out) | refine Below.setCell ?_ (by simp) _))
  · have hb' : T7.bad = false := by simpa using hb
    rw [hb'] at r3
    clear hb hb'
    by_cases he : S9q.chkE P = 0
    · have he2 : (S9q.chkE P != 0) = false := by simpa using he
      by_cases hz : S9q.encB P = zs
      · have HX := Lib.hid (HI.out HF.out he (by rw [← hz]; unfold S9q.encB; rw [if_pos he]))
        rw [hz] at u1
        clear hz he
        go_wp2_with (fail)
        refine bodyPost_ret (v := .tuple #[P.val, .int .i64 0]) ?_ rfl ?_
        · simp [results, Tryz.results15, go_sem, S9q.Rq.val, S9q.Rq.cells, x0, x1, x2, x3, x4, x5, x6, x7]
        · exact RqDec.mk HX.out (by repeat (first | (with_reducible exact BD.out) | refine Below.setCell ?_ (by simp) _))
      · have HX := Lib.hid (HB.out (.inr (.inr hz)))
        have hzz : ((strOfNums (S9q.encB P)).toList == (strOfNums zs).toList) = false := beq_eq_false_iff_ne.2 (fun e => hz (rqstr_inj hrs.out hrg.out e))
        clear hz he
        go_wp2_with (fail)
        refine bodyPost_ret (v := .tuple #[S9q.Rq.zero.val, .int .i64 100]) ?_ rfl ?_
        · simp [results, Tryz.results15, go_sem, S9q.Rq.val, S9q.Rq.cells, S9q.Rq.zero, x0, x1, x2, x3, x4, x5, x6, x7]
        · exact RqDec.mk HX.out (by repeat (first | (with_reducible exact BD.out) | refine Below.setCell ?_ (by simp) _))
    · have HX := Lib.hid (HB.out (.inr (.inl he)))
      have he2 : (S9q.chkE P != 0) = true := by simpa using he
      clear he
      go_wp2_with (fail)
      refine bodyPost_ret (v := .tuple #[S9q.Rq.zero.val, .int .i64 100]) ?_ rfl ?_
      · simp [results, Tryz.results15, go_sem, S9q.Rq.val, S9q.Rq.cells, S9q.Rq.zero, x0, x1, x2, x3, x4, x5, x6, x7]
      · exact RqDec.mk HX.out (by repeat (first | (with_reducible exact BD.out) | refine Below.setCell ?_ (by simp) _))

theorem rqdecode_any (A : Option Addr) (n cap : Nat) (zs : List Int) (w : World) (h : Sl w A n cap zs) (hn : n ≤ 100000) : Calls Tryz.prog 15 #[.slice A n cap] w (RqDec zs w) := by
  by_cases he : S8.isE zs [1] = 0
  · exact rqdecode_read A n cap zs w h hn he
  · exact rqdecode_kind A n cap zs w h hn he

end Go.Proofs.YtkhkmgblgonfoaaGreat

/-
  What DecodeReply of the document's answer returns.
-/
namespace Go.Proofs.YtkhkmgblgonfoaaGreat
open Go.RowKit
set_option maxRecDepth 100000

def RpDec (zs : List Int) (w : World) (e : Ending) (w' : World) : Prop := ∃ A n cap, e = .returned (.tuple #[(S9r.decT zs).val A n cap, .int .i64 (S9r.decE zs)]) ∧ Sl w' A n cap (S9r.decT zs).z ∧ Below w.heap.size w w' ∧ Fresh w.heap.size A
theorem RpDec.mk {zs : List Int} {w w' : World} {t : S9r.Rp} {x : Int} {A : Option Addr} {n cap : Nat} (h : S9r.decE zs = x ∧ S9r.decT zs = t) (hs : Sl w' A n cap t.z) (hf : Fresh w.heap.size A) (hb : Below w.heap.size w w') : RpDec zs w (.returned (.tuple #[t.val A n cap, .int .i64 x])) w' := ⟨A, n, cap, by rw [h.1, h.2], by rw [h.2]; exact hs, hb, hf⟩
def zeroRp : List Value := [.bool false, .string ⟨#[]⟩, .string ⟨#[]⟩, .string ⟨#[]⟩, .int .i64 0, .int .i64 0, .int .i64 0, .slice none 0 0]
theorem rpparse_fit {zs : List Int} (hz : ∀ z ∈ zs, 0 ≤ z ∧ z ≤ 255) : (S9r.parse zs).Fit := by
  have g : ∀ a k l, k ≤ 4 → -9223372036854775808 ≤ S5.getV zs a k l ∧ S5.getV zs a k l ≤ 9223372036854775807 := fun a k l hk => by have := getV_range hz a k l hk; omega
  exact ⟨txS_size _ _, txS_size _ _, txS_size _ _, g _ _ _ (by decide), g _ _ _ (by decide), g _ _ _ (by decide), byS_range hz _ _⟩
theorem rpstr_inj {xs ys : List Int} (hx : ∀ n ∈ xs, 0 ≤ n ∧ n ≤ 255) (hy : ∀ n ∈ ys, 0 ≤ n ∧ n ≤ 255) (h : (strOfNums xs).toList = (strOfNums ys).toList) : xs = ys := by
  refine strOfNums_inj hx hy ?_
  rw [ByteArray.toList_eq, ByteArray.toList_eq] at h
  exact ByteArray.ext (Array.ext' h)
/-- A row of one number that was just built. -/
theorem rprow_one (w : World) (k : Int) (h : IntKind.i64.min ≤ k ∧ k ≤ IntKind.i64.max) (T : TypeId) : RowK .i64 (w.alloc (.cells #[.int .i64 k] T)) (some ⟨w.heap.size, 0, none⟩) 1 [k] :=
  ⟨rfl, fun n hn => by rw [List.mem_singleton] at hn; subst hn; exact h, fun _ => ⟨_, _, rfl, fun i hi => by
    have : i = 0 := by simp at hi; omega
    subst this
    simp [go_sem]⟩⟩

set_option maxHeartbeats 3200000 in
theorem rpdecode_kind (A : Option Addr) (n cap : Nat) (zs : List Int) (w : World) (h : Sl w A n cap zs) (hn : n ≤ 100000) (he : S8.isE zs [2] ≠ 0) : Calls Tryz.prog 17 #[.slice A n cap] w (RpDec zs w) := by
  have HX := Lib.hid (S9r.dec_kind he)
  have he2 : (S8.isE zs [2] != 0) = true := by simpa using he
  have hk := Lib.hid h
  have X0 : BoxAt ((w.alloc (.cells #[.bool false, .string ⟨#[]⟩, .string ⟨#[]⟩, .string ⟨#[]⟩, .int .i64 0, .int .i64 0, .int .i64 0, .slice none 0 0] 35)).alloc (.cells #[.int .i64 2] 3)) w.heap.size zeroRp := (BoxAt.new w zeroRp 35).grown (World.grownBy_alloc _ _ none) (by simp)
  have B0 : Below w.heap.size w ((w.alloc (.cells #[.bool false, .string ⟨#[]⟩, .string ⟨#[]⟩, .string ⟨#[]⟩, .int .i64 0, .int .i64 0, .int .i64 0, .slice none 0 0] 35)).alloc (.cells #[.int .i64 2] 3)) := ((Below.refl _ _).alloc (Nat.le_refl _) _).alloc (by simp) _
  have KR : RowK .i64 ((w.alloc (.cells #[.bool false, .string ⟨#[]⟩, .string ⟨#[]⟩, .string ⟨#[]⟩, .int .i64 0, .int .i64 0, .int .i64 0, .slice none 0 0] 35)).alloc (.cells #[.int .i64 2] 3)) (some ⟨w.heap.size + 1, 0, none⟩) 1 [2] := by
    have := rprow_one (w.alloc (.cells #[.bool false, .string ⟨#[]⟩, .string ⟨#[]⟩, .string ⟨#[]⟩, .int .i64 0, .int .i64 0, .int .i64 0, .slice none 0 0] 35)) 2 (by decide) 3
    rw [show (w.alloc (.cells #[.bool false, .string ⟨#[]⟩, .string ⟨#[]⟩, .string ⟨#[]⟩, .int .i64 0, .int .i64 0, .int .i64 0, .slice none 0 0] 35)).heap.size = w.heap.size + 1 by simp] at this
    exact this
  have IC := r8is_any A n cap zs (some ⟨w.heap.size + 1, 0, none⟩) 1 1 [2] ((w.alloc (.cells #[.bool false, .string ⟨#[]⟩, .string ⟨#[]⟩, .string ⟨#[]⟩, .int .i64 0, .int .i64 0, .int .i64 0, .slice none 0 0] 35)).alloc (.cells #[.int .i64 2] 3)) (h.keep B0) hn KR (by decide)
  unfold IsOut at IC
  replace IC := Lib.hid IC
  replace X0 := Lib.hid X0
  replace B0 := Lib.hid B0
  clear he KR hk h
  go_enter Tryz.func17, Tryz.ntmps17
  go_wp2_with (fail)
  refine IC.out.mono ?_
  rintro e w1 ⟨rfl, hb1⟩
  have X1 := X0.out.keep hb1
  have B1 := Lib.hid (below_keep hb1 B0.out)
  clear hb1 B0 X0 IC
  have x0 := X1.c 0 _ rfl
  have x1 := X1.c 1 _ rfl
  have x2 := X1.c 2 _ rfl
  have x3 := X1.c 3 _ rfl
  have x4 := X1.c 4 _ rfl
  have x5 := X1.c 5 _ rfl
  have x6 := X1.c 6 _ rfl
  have x7 := X1.c 7 _ rfl
  have xf := X1.fz
  have xl := X1.lt
  clear X1
  go_wp2_with (fail)
  refine bodyPost_ret (v := .tuple #[S9r.Rp.zero.val none 0 0, .int .i64 (S8.isE zs [2])]) ?_ rfl ?_
  · simp [results, Tryz.results17, go_sem, S9r.Rp.val, S9r.Rp.cells, S9r.Rp.zero, x0, x1, x2, x3, x4, x5, x6, x7]
  · exact RpDec.mk HX.out (Sl.nil _) (Fresh.nil _) (by repeat (first | (with_reducible exact B1.out) | refine Below.setCell ?_ (by simp) _))

set_option maxHeartbeats 6400000 in
theorem rpdecode_read (A : Option Addr) (n cap : Nat) (zs : List Int) (w : World) (h : Sl w A n cap zs) (hn : n ≤ 100000) (he : S8.isE zs [2] = 0) : Calls Tryz.prog 17 #[.slice A n cap] w (RpDec zs w) := by
  have HN := Lib.hid he
  have hrg := Lib.hid h.range
  have HF := Lib.hid (rpparse_fit h.range)
  obtain ⟨P, hP⟩ : ∃ P, P = S9r.parse zs := ⟨_, rfl⟩
  have EC := Lib.hid (fun W A n cap hz => rpencode_any P A n cap (by rw [hP]; exact HF.out) W hz)
  unfold RpEnc S9r.Rp.val S9r.Rp.cells at EC
  have gl : S8.isB zs [2] = P.l := by
    have e0 : S8.rdE zs = 0 := by
      rcases Classical.em (S8.rdE zs = 0) with e | e
      · exact e
      · rw [(S8.is_err e _).1] at he; exact absurd he e
    have e1 : S8.rdK zs ∈ [(2 : Int)] := by
      rcases Classical.em (S8.rdK zs ∈ [(2 : Int)]) with e | e
      · exact e
      · rw [(S8.is_no e0 e).1] at he; exact absurd he (by decide)
    rw [(S8.is_yes e0 e1).2, hP]; rfl
  have g_a : P.a = strOfNums (S5.txS zs S9r.s0.at') := by rw [hP]; rfl
  have g_b : P.b = strOfNums (S5.txS zs (S9r.s1 zs).at') := by rw [hP]; rfl
  have g_c : P.c = strOfNums (S5.txS zs (S9r.s2 zs).at') := by rw [hP]; rfl
  have g_tm : P.tm = S5.getV zs (S9r.s3 zs).at' 4 P.l := by rw [hP]; rfl
  have g_ex : P.ex = S5.getV zs (S9r.s5 zs).at' 4 P.l := by rw [hP]; rfl
  have g_kv : P.kv = S5.getV zs (S9r.s6 zs).at' 1 false := by rw [hP]; rfl
  obtain ⟨VL, hVL⟩ : ∃ v, v = S5.getV zs (S9r.s7 zs).at' 2 P.l := ⟨_, rfl⟩
  have g_z : P.z = S5.byS zs (S9r.s8 zs).at' VL := by rw [hVL, hP]; rfl
  obtain ⟨T1, hT1⟩ : ∃ T, T = S9r.s1 zs := ⟨_, rfl⟩
  obtain ⟨T2, hT2⟩ : ∃ T, T = S9r.s2 zs := ⟨_, rfl⟩
  obtain ⟨T3, hT3⟩ : ∃ T, T = S9r.s3 zs := ⟨_, rfl⟩
  obtain ⟨T4, hT4⟩ : ∃ T, T = S9r.s4 zs := ⟨_, rfl⟩
  obtain ⟨T5, hT5⟩ : ∃ T, T = S9r.s5 zs := ⟨_, rfl⟩
  obtain ⟨T6, hT6⟩ : ∃ T, T = S9r.s6 zs := ⟨_, rfl⟩
  obtain ⟨T7, hT7⟩ : ∃ T, T = S9r.s7 zs := ⟨_, rfl⟩
  obtain ⟨T8, hT8⟩ : ∃ T, T = S9r.s8 zs := ⟨_, rfl⟩
  obtain ⟨T9, hT9⟩ : ∃ T, T = S9r.s9 zs := ⟨_, rfl⟩
  have m1 : T1 = S9r.s0.move (S5.txN zs S9r.s0.at') (S5.txE zs S9r.s0.at') := by rw [hT1]; rfl
  have m2 : T2 = T1.move (S5.txN zs T1.at') (S5.txE zs T1.at') := by rw [hT2, hT1]; rfl
  have m3 : T3 = T2.move (S5.txN zs T2.at') (S5.txE zs T2.at') := by rw [hT3, hT2]; rfl
  have m4 : T4 = T3.move (S5.getN zs T3.at' 4) (S5.getE zs T3.at' 4) := by rw [hT4, hT3]; rfl
  have m5 : T5 = T4.move (S5.getN zs T4.at' 1) (S5.getE zs T4.at' 1) := by rw [hT5, hT4]; rfl
  have m6 : T6 = T5.move (S5.getN zs T5.at' 4) (S5.getE zs T5.at' 4) := by rw [hT6, hT5]; rfl
  have m7 : T7 = T6.move (S5.getN zs T6.at' 1) (S5.getE zs T6.at' 1) := by rw [hT7, hT6]; rfl
  have m8 : T8 = T7.move (S5.getN zs T7.at' 2) (S5.getE zs T7.at' 2) := by rw [hT8, hT7]; rfl
  have m9 : T9 = T8.move (S5.byN zs T8.at' VL) (S5.byE zs T8.at' VL) := by rw [hT9, hT8, hVL, hP]; rfl
  rw [← hT1] at g_b
  rw [← hT2] at g_c
  rw [← hT3] at g_tm
  rw [← hT5] at g_ex
  rw [← hT6] at g_kv
  rw [← hT8] at g_z
  rw [← hT7] at hVL
  have HB := Lib.hid (fun hb => S9r.dec_bad (zs := zs) HN.out hb)
  have HI := Lib.hid (fun (f : P.Fit) (c : S9r.chkE P = 0) (e : S9r.enc P = zs) => S9r.dec_yes (zs := zs) (t := P) ⟨f, c, e⟩)
  rw [← hT9, ← hP] at HB
  rw [← hP] at HF
  clear hP hT1 hT2 hT3 hT4 hT5 hT6 hT7 hT8 hT9
  replace m1 := Lib.hid m1
  replace m2 := Lib.hid m2
  replace m3 := Lib.hid m3
  replace m4 := Lib.hid m4
  replace m5 := Lib.hid m5
  replace m6 := Lib.hid m6
  replace m7 := Lib.hid m7
  replace m8 := Lib.hid m8
  replace m9 := Lib.hid m9
  replace g_a := Lib.hid g_a
  replace g_b := Lib.hid g_b
  replace g_c := Lib.hid g_c
  replace g_tm := Lib.hid g_tm
  replace g_ex := Lib.hid g_ex
  replace g_kv := Lib.hid g_kv
  replace g_z := Lib.hid g_z
  replace hVL := Lib.hid hVL
  have hk := Lib.hid h
  have X0 : BoxAt ((w.alloc (.cells #[.bool false, .string ⟨#[]⟩, .string ⟨#[]⟩, .string ⟨#[]⟩, .int .i64 0, .int .i64 0, .int .i64 0, .slice none 0 0] 35)).alloc (.cells #[.int .i64 2] 3)) w.heap.size zeroRp := (BoxAt.new w zeroRp 35).grown (World.grownBy_alloc _ _ none) (by simp)
  have B0 : Below w.heap.size w ((w.alloc (.cells #[.bool false, .string ⟨#[]⟩, .string ⟨#[]⟩, .string ⟨#[]⟩, .int .i64 0, .int .i64 0, .int .i64 0, .slice none 0 0] 35)).alloc (.cells #[.int .i64 2] 3)) := ((Below.refl _ _).alloc (Nat.le_refl _) _).alloc (by simp) _
  have KR : RowK .i64 ((w.alloc (.cells #[.bool false, .string ⟨#[]⟩, .string ⟨#[]⟩, .string ⟨#[]⟩, .int .i64 0, .int .i64 0, .int .i64 0, .slice none 0 0] 35)).alloc (.cells #[.int .i64 2] 3)) (some ⟨w.heap.size + 1, 0, none⟩) 1 [2] := by
    have := rprow_one (w.alloc (.cells #[.bool false, .string ⟨#[]⟩, .string ⟨#[]⟩, .string ⟨#[]⟩, .int .i64 0, .int .i64 0, .int .i64 0, .slice none 0 0] 35)) 2 (by decide) 3
    rw [show (w.alloc (.cells #[.bool false, .string ⟨#[]⟩, .string ⟨#[]⟩, .string ⟨#[]⟩, .int .i64 0, .int .i64 0, .int .i64 0, .slice none 0 0] 35)).heap.size = w.heap.size + 1 by simp] at this
    exact this
  have IC := r8is_any A n cap zs (some ⟨w.heap.size + 1, 0, none⟩) 1 1 [2] ((w.alloc (.cells #[.bool false, .string ⟨#[]⟩, .string ⟨#[]⟩, .string ⟨#[]⟩, .int .i64 0, .int .i64 0, .int .i64 0, .slice none 0 0] 35)).alloc (.cells #[.int .i64 2] 3)) (h.keep B0) hn KR (by decide)
  unfold IsOut at IC
  rw [gl, he] at IC
  replace IC := Lib.hid IC
  replace X0 := Lib.hid X0
  replace B0 := Lib.hid B0
  clear gl he KR h
  have hnn := Lib.hid hn
  go_enter Tryz.func17, Tryz.ntmps17
  go_wp2_with (fail)
  refine IC.out.mono ?_
  rintro e w1 ⟨rfl, hb1⟩
  have X1 := X0.out.keep hb1
  have B1 := below_keep hb1 B0.out
  clear hb1 B0 X0 IC
  obtain ⟨r, hr⟩ : ∃ r, r = w1.heap.size := ⟨_, rfl⟩
  have D1 : Dst w ((w1.alloc (.cells #[.slice A n cap, .int .i64 2, .bool P.l, .bool false] 83)).alloc (.cells #[.bool P.l, .string ⟨#[]⟩, .string ⟨#[]⟩, .string ⟨#[]⟩, .int .i64 0, .int .i64 0, .int .i64 0, .slice none 0 0] 35)) w.heap.size r (r + 1) A n cap P.l S9r.s0 zeroRp [.bool P.l, .string ⟨#[]⟩, .string ⟨#[]⟩, .string ⟨#[]⟩, .int .i64 0, .int .i64 0, .int .i64 0, .slice none 0 0] := by
    have hx := BoxAt.new (w1.alloc (.cells #[.slice A n cap, .int .i64 2, .bool P.l, .bool false] 83)) [.bool P.l, .string ⟨#[]⟩, .string ⟨#[]⟩, .string ⟨#[]⟩, .int .i64 0, .int .i64 0, .int .i64 0, .slice none 0 0] 35
    rw [show (w1.alloc (.cells #[.slice A n cap, .int .i64 2, .bool P.l, .bool false] 83)).heap.size = r + 1 by rw [hr]; simp] at hx
    have hlt := X1.lt
    have hsz := B1.size
    refine ⟨(B1.alloc B1.size _).alloc (by simp; omega) _, ?_, hx, (X1.grown (World.grownBy_alloc _ _ none) (by simp)).grown (World.grownBy_alloc _ _ none) (by simp), by omega, by omega, by omega, by omega, by omega⟩
    rw [hr]
    exact ⟨by simp [go_sem], by simp [go_sem, S9r.s0], by simp [go_sem], by simp [go_sem, S9r.s0], fun o => by simp [go_sem]⟩
  have hsz := B1.size
  obtain ⟨W, hW⟩ : ∃ W, W = ((w1.alloc (.cells #[.slice A n cap, .int .i64 2, .bool P.l, .bool false] 83)).alloc (.cells #[.bool P.l, .string ⟨#[]⟩, .string ⟨#[]⟩, .string ⟨#[]⟩, .int .i64 0, .int .i64 0, .int .i64 0, .slice none 0 0] 35)) := ⟨_, rfl⟩
  rw [← hW] at D1
  replace hW := Lib.hid hW
  replace hr := Lib.hid hr
  clear X1 B1
  go_wp2_with (fail)
  rw [← hr.out, ← hW.out]
  clear hW hr hsz
  obtain ⟨g, hg⟩ : ∃ g, g = r + 1 := ⟨_, rfl⟩
  rw [← hg] at D1
  rw [← hg]
  clear hg
  refine (dprincipal D1 hk.out hnn.out P.a P.b P.c T1 T2 T3 g_a.out m1.out g_b.out m2.out g_c.out m3.out).mono ?_
  clear D1
  rintro e W2 ⟨rfl, D2⟩
  have q0 := D2.tk.c 0 _ rfl
  have q1 := D2.tk.c 1 _ rfl
  have q2 := D2.tk.c 2 _ rfl
  have q3 := D2.tk.c 3 _ rfl
  have q4 := D2.tk.c 4 _ rfl
  have q5 := D2.tk.c 5 _ rfl
  have q6 := D2.tk.c 6 _ rfl
  have q7 := D2.tk.c 7 _ rfl
  have qf := D2.tk.fz
  have ql := D2.tk.lt
  go_wp2_with (fail)
  clear q0 q1 q2 q3 q4 q5 q6 q7 qf ql
  have D3 : Dst w (((W2.setCell ⟨g, 1, none⟩ (.string P.a)).setCell ⟨g, 2, none⟩ (.string P.b)).setCell ⟨g, 3, none⟩ (.string P.c)) w.heap.size r g A n cap P.l T3 zeroRp [.bool P.l, .string P.a, .string P.b, .string P.c, .int .i64 0, .int .i64 0, .int .i64 0, .slice none 0 0] := (((D2.set 1 (.string P.a) (by simp)).set 2 (.string P.b) (by simp)).set 3 (.string P.c) (by simp))
  clear D2
  generalize (((W2.setCell ⟨g, 1, none⟩ (.string P.a)).setCell ⟨g, 2, none⟩ (.string P.b)).setCell ⟨g, 3, none⟩ (.string P.c)) = W3 at D3 ⊢
  refine (dnumber D3 (hk.out.keep D3.below) hnn.out P.tm T4 g_tm.out m4.out).mono ?_
  clear D3
  rintro e W4 ⟨rfl, D4⟩
  have q0 := D4.tk.c 0 _ rfl
  have q1 := D4.tk.c 1 _ rfl
  have q2 := D4.tk.c 2 _ rfl
  have q3 := D4.tk.c 3 _ rfl
  have q4 := D4.tk.c 4 _ rfl
  have q5 := D4.tk.c 5 _ rfl
  have q6 := D4.tk.c 6 _ rfl
  have q7 := D4.tk.c 7 _ rfl
  have qf := D4.tk.fz
  have ql := D4.tk.lt
  go_wp2_with (fail)
  clear q0 q1 q2 q3 q4 q5 q6 q7 qf ql
  have D5 : Dst w (W4.setCell ⟨g, 4, none⟩ (.int .i64 P.tm)) w.heap.size r g A n cap P.l T4 zeroRp [.bool P.l, .string P.a, .string P.b, .string P.c, .int .i64 P.tm, .int .i64 0, .int .i64 0, .slice none 0 0] := (D4.set 4 (.int .i64 P.tm) (by simp))
  clear D4
  generalize (W4.setCell ⟨g, 4, none⟩ (.int .i64 P.tm)) = W5 at D5 ⊢
  refine (doctet D5 (hk.out.keep D5.below) hnn.out _ T5 rfl m5.out).mono ?_
  clear D5
  rintro e W6 ⟨rfl, D6⟩
  have q0 := D6.tk.c 0 _ rfl
  have q1 := D6.tk.c 1 _ rfl
  have q2 := D6.tk.c 2 _ rfl
  have q3 := D6.tk.c 3 _ rfl
  have q4 := D6.tk.c 4 _ rfl
  have q5 := D6.tk.c 5 _ rfl
  have q6 := D6.tk.c 6 _ rfl
  have q7 := D6.tk.c 7 _ rfl
  have qf := D6.tk.fz
  have ql := D6.tk.lt
  go_wp2_with (fail)
  clear q0 q1 q2 q3 q4 q5 q6 q7 qf ql
  refine (dnumber D6 (hk.out.keep D6.below) hnn.out P.ex T6 g_ex.out m6.out).mono ?_
  clear D6
  rintro e W7 ⟨rfl, D7⟩
  have q0 := D7.tk.c 0 _ rfl
  have q1 := D7.tk.c 1 _ rfl
  have q2 := D7.tk.c 2 _ rfl
  have q3 := D7.tk.c 3 _ rfl
  have q4 := D7.tk.c 4 _ rfl
  have q5 := D7.tk.c 5 _ rfl
  have q6 := D7.tk.c 6 _ rfl
  have q7 := D7.tk.c 7 _ rfl
  have qf := D7.tk.fz
  have ql := D7.tk.lt
  go_wp2_with (fail)
  clear q0 q1 q2 q3 q4 q5 q6 q7 qf ql
  have D8 : Dst w (W7.setCell ⟨g, 5, none⟩ (.int .i64 P.ex)) w.heap.size r g A n cap P.l T6 zeroRp [.bool P.l, .string P.a, .string P.b, .string P.c, .int .i64 P.tm, .int .i64 P.ex, .int .i64 0, .slice none 0 0] := (D7.set 5 (.int .i64 P.ex) (by simp))
  clear D7
  generalize (W7.setCell ⟨g, 5, none⟩ (.int .i64 P.ex)) = W8 at D8 ⊢
  refine (doctet D8 (hk.out.keep D8.below) hnn.out P.kv T7 g_kv.out m7.out).mono ?_
  clear D8
  rintro e W9 ⟨rfl, D9⟩
  have q0 := D9.tk.c 0 _ rfl
  have q1 := D9.tk.c 1 _ rfl
  have q2 := D9.tk.c 2 _ rfl
  have q3 := D9.tk.c 3 _ rfl
  have q4 := D9.tk.c 4 _ rfl
  have q5 := D9.tk.c 5 _ rfl
  have q6 := D9.tk.c 6 _ rfl
  have q7 := D9.tk.c 7 _ rfl
  have qf := D9.tk.fz
  have ql := D9.tk.lt
  go_wp2_with (fail)
  clear q0 q1 q2 q3 q4 q5 q6 q7 qf ql
  have D10 : Dst w (W9.setCell ⟨g, 6, none⟩ (.int .i64 P.kv)) w.heap.size r g A n cap P.l T7 zeroRp [.bool P.l, .string P.a, .string P.b, .string P.c, .int .i64 P.tm, .int .i64 P.ex, .int .i64 P.kv, .slice none 0 0] := (D9.set 6 (.int .i64 P.kv) (by simp))
  clear D9
  generalize (W9.setCell ⟨g, 6, none⟩ (.int .i64 P.kv)) = W10 at D10 ⊢
  refine (dshort D10 (hk.out.keep D10.below) hnn.out VL T8 hVL.out m8.out).mono ?_
  clear D10
  rintro e W11 ⟨rfl, D11⟩
  have q0 := D11.tk.c 0 _ rfl
  have q1 := D11.tk.c 1 _ rfl
  have q2 := D11.tk.c 2 _ rfl
  have q3 := D11.tk.c 3 _ rfl
  have q4 := D11.tk.c 4 _ rfl
  have q5 := D11.tk.c 5 _ rfl
  have q6 := D11.tk.c 6 _ rfl
  have q7 := D11.tk.c 7 _ rfl
  have qf := D11.tk.fz
  have ql := D11.tk.lt
  go_wp2_with (fail)
  clear q0 q1 q2 q3 q4 q5 q6 q7 qf ql
  refine (dbytesF D11 (hk.out.keep D11.below) hnn.out VL T9 m9.out).mono ?_
  clear D11
  rintro e W12 ⟨Az, nz, cz, rfl, hsz, D12, hfz⟩
  rw [← g_z.out] at hsz
  replace hsz := Lib.hid hsz
  replace hfz := Lib.hid hfz
  have q0 := D12.tk.c 0 _ rfl
  have q1 := D12.tk.c 1 _ rfl
  have q2 := D12.tk.c 2 _ rfl
  have q3 := D12.tk.c 3 _ rfl
  have q4 := D12.tk.c 4 _ rfl
  have q5 := D12.tk.c 5 _ rfl
  have q6 := D12.tk.c 6 _ rfl
  have q7 := D12.tk.c 7 _ rfl
  have qf := D12.tk.fz
  have ql := D12.tk.lt
  go_wp2_with (fail)
  clear q0 q1 q2 q3 q4 q5 q6 q7 qf ql
  have D13 : Dst w (W12.setCell ⟨g, 7, none⟩ (.slice Az nz cz)) w.heap.size r g A n cap P.l T9 zeroRp [.bool P.l, .string P.a, .string P.b, .string P.c, .int .i64 P.tm, .int .i64 P.ex, .int .i64 P.kv, .slice Az nz cz] := (D12.set 7 (.slice Az nz cz) (by simp))
  clear D12
  replace hsz := Lib.hid (hsz.out.set ⟨g, 7, none⟩ (.slice Az nz cz) (fun b off e => (hfz.out b off e).2.1))
  generalize (W12.setCell ⟨g, 7, none⟩ (.slice Az nz cz)) = W13 at D13 hsz ⊢
  refine (EC.out _ Az nz cz hsz.out).mono ?_
  rintro e W14 ⟨A2, n2, c2, rfl, hs2, hb2, _⟩
  have D14 := D13.keep hb2
  replace hsz := Lib.hid (hsz.out.keep hb2)
  clear D13 hb2
  have u1 := conv_sl hs2
  have u2 := conv_sl (hk.out.keep D14.below)
  have hrs := Lib.hid hs2.range
  have q0 := D14.tk.c 0 _ rfl
  have q1 := D14.tk.c 1 _ rfl
  have q2 := D14.tk.c 2 _ rfl
  have q3 := D14.tk.c 3 _ rfl
  have q4 := D14.tk.c 4 _ rfl
  have q5 := D14.tk.c 5 _ rfl
  have q6 := D14.tk.c 6 _ rfl
  have q7 := D14.tk.c 7 _ rfl
  have qf := D14.tk.fz
  have ql := D14.tk.lt
  have x0 := D14.res.c 0 _ rfl
  have x1 := D14.res.c 1 _ rfl
  have x2 := D14.res.c 2 _ rfl
  have x3 := D14.res.c 3 _ rfl
  have x4 := D14.res.c 4 _ rfl
  have x5 := D14.res.c 5 _ rfl
  have x6 := D14.res.c 6 _ rfl
  have x7 := D14.res.c 7 _ rfl
  have xf := D14.res.fz
  have xl := D14.res.lt
  have r3 := D14.rd.c3
  have rl := cell_lt r3
  have BD := Lib.hid D14.below
  have nRg := D14.Rg
  clear D14 hs2
  by_cases hb : T9.bad = true
  · have HX := Lib.hid (HB.out (.inl hb))
    rw [hb] at r3
    clear hb
    go_wp2_with (fail)
    refine bodyPost_ret (v := .tuple #[S9r.Rp.zero.val none 0 0, .int .i64 100]) ?_ rfl ?_
    · simp [results, Tryz.results17, go_sem, S9r.Rp.val, S9r.Rp.cells, S9r.Rp.zero, x0, x1, x2, x3, x4, x5, x6, x7]
    · exact RpDec.mk HX.out (Sl.nil _) (Fresh.nil _) (by repeat (first | (with_reducible exact BD.out) | refine Below.setCell ?_ (by simp) _))
  · have hb' : T9.bad = false := by simpa using hb
    rw [hb'] at r3
    clear hb hb'
    by_cases he : S9r.chkE P = 0
    · have he2 : (S9r.chkE P != 0) = false := by simpa using he
      by_cases hz : S9r.encB P = zs
      · have HX := Lib.hid (HI.out HF.out he (by rw [← hz]; unfold S9r.encB; rw [if_pos he]))
        rw [hz] at u1
        clear hz he
        go_wp2_with (fail)
        refine bodyPost_ret (v := .tuple #[P.val Az nz cz, .int .i64 0]) ?_ rfl ?_
        · simp [results, Tryz.results17, go_sem, S9r.Rp.val, S9r.Rp.cells, x0, x1, x2, x3, x4, x5, x6, x7]
        · exact RpDec.mk HX.out (by repeat (first | (with_reducible exact hsz.out) | refine Sl.set ?_ _ _ (fun b off e => (hfz.out b off e).2.2.1))) (fun b off e => (hfz.out b off e).2.2.2) (by repeat (first | (with_reducible exact BD.out) | refine Below.setCell ?_ (by simp) _))
      · have HX := Lib.hid (HB.out (.inr (.inr hz)))
        have hzz : ((strOfNums (S9r.encB P)).toList == (strOfNums zs).toList) = false := beq_eq_false_iff_ne.2 (fun e => hz (rpstr_inj hrs.out hrg.out e))
        clear hz he
        go_wp2_with (fail)
        refine bodyPost_ret (v := .tuple #[S9r.Rp.zero.val none 0 0, .int .i64 100]) ?_ rfl ?_
        · simp [results, Tryz.results17, go_sem, S9r.Rp.val, S9r.Rp.cells, S9r.Rp.zero, x0, x1, x2, x3, x4, x5, x6, x7]
        · exact RpDec.mk HX.out (Sl.nil _) (Fresh.nil _) (by repeat (first | (with_reducible exact BD.out) | refine Below.setCell ?_ (by simp) _))
    · have HX := Lib.hid (HB.out (.inr (.inl he)))
      have he2 : (S9r.chkE P != 0) = true := by simpa using he
      clear he
      go_wp2_with (fail)
      refine bodyPost_ret (v := .tuple #[S9r.Rp.zero.val none 0 0, .int .i64 100]) ?_ rfl ?_
      · simp [results, Tryz.results17, go_sem, S9r.Rp.val, S9r.Rp.cells, S9r.Rp.zero, x0, x1, x2, x3, x4, x5, x6, x7]
      · exact RpDec.mk HX.out (Sl.nil _) (Fresh.nil _) (by repeat (first | (with_reducible exact BD.out) | refine Below.setCell ?_ (by simp) _))

theorem rpdecode_any (A : Option Addr) (n cap : Nat) (zs : List Int) (w : World) (h : Sl w A n cap zs) (hn : n ≤ 100000) : Calls Tryz.prog 17 #[.slice A n cap] w (RpDec zs w) := by
  by_cases he : S8.isE zs [2] = 0
  · exact rpdecode_read A n cap zs w h hn he
  · exact rpdecode_kind A n cap zs w h hn he

end Go.Proofs.YtkhkmgblgonfoaaGreat

/-
  What DecodePart of the document's answer returns.
-/
namespace Go.Proofs.YtkhkmgblgonfoaaGreat
open Go.RowKit
set_option maxRecDepth 100000

def PtDec (l : Bool) (zs : List Int) (w : World) (e : Ending) (w' : World) : Prop := ∃ A n cap, e = .returned (.tuple #[(S9p.decT l zs).val A n cap, .int .i64 (S9p.decE l zs)]) ∧ Sl w' A n cap (S9p.decT l zs).z ∧ Below w.heap.size w w' ∧ Fresh w.heap.size A
theorem PtDec.mk {l : Bool} {zs : List Int} {w w' : World} {t : S9p.Pt} {x : Int} {A : Option Addr} {n cap : Nat} (h : S9p.decE l zs = x ∧ S9p.decT l zs = t) (hs : Sl w' A n cap t.z) (hf : Fresh w.heap.size A) (hb : Below w.heap.size w w') : PtDec l zs w (.returned (.tuple #[t.val A n cap, .int .i64 x])) w' := ⟨A, n, cap, by rw [h.1, h.2], by rw [h.2]; exact hs, hb, hf⟩
def zeroPt : List Value := [.int .u64 0, .string ⟨#[]⟩, .string ⟨#[]⟩, .string ⟨#[]⟩, .int .i64 0, .int .i64 0, .slice none 0 0, .int .i64 0]
theorem ptparse_fit {zs : List Int} (hz : ∀ z ∈ zs, 0 ≤ z ∧ z ≤ 255) (l : Bool) : (S9p.parse l zs).Fit := by
  have g : ∀ a k l, k ≤ 4 → -9223372036854775808 ≤ S5.getV zs a k l ∧ S5.getV zs a k l ≤ 9223372036854775807 := fun a k l hk => by have := getV_range hz a k l hk; omega
  exact ⟨readN_range (byS_range hz _ _), txS_size _ _, txS_size _ _, txS_size _ _, g _ _ _ (by decide), g _ _ _ (by decide), byS_range hz _ _, g _ _ _ (by decide)⟩
theorem ptstr_inj {xs ys : List Int} (hx : ∀ n ∈ xs, 0 ≤ n ∧ n ≤ 255) (hy : ∀ n ∈ ys, 0 ≤ n ∧ n ≤ 255) (h : (strOfNums xs).toList = (strOfNums ys).toList) : xs = ys := by
  refine strOfNums_inj hx hy ?_
  rw [ByteArray.toList_eq, ByteArray.toList_eq] at h
  exact ByteArray.ext (Array.ext' h)
/-- A row of one number that was just built. -/
theorem ptrow_one (w : World) (k : Int) (h : IntKind.i64.min ≤ k ∧ k ≤ IntKind.i64.max) (T : TypeId) : RowK .i64 (w.alloc (.cells #[.int .i64 k] T)) (some ⟨w.heap.size, 0, none⟩) 1 [k] :=
  ⟨rfl, fun n hn => by rw [List.mem_singleton] at hn; subst hn; exact h, fun _ => ⟨_, _, rfl, fun i hi => by
    have : i = 0 := by simp at hi; omega
    subst this
    simp [go_sem]⟩⟩

set_option maxHeartbeats 6400000 in
theorem ptdecode_any (l : Bool) (A : Option Addr) (n cap : Nat) (zs : List Int) (w : World) (h : Sl w A n cap zs) (hn : n ≤ 100000) : Calls Tryz.prog 20 #[.slice A n cap, .bool l] w (PtDec l zs w) := by
  have hrg := Lib.hid h.range
  have HF := Lib.hid (ptparse_fit h.range l)
  obtain ⟨P, hP⟩ : ∃ P, P = S9p.parse l zs := ⟨_, rfl⟩
  have EC := Lib.hid (fun W A n cap hz => ptencode_any l P A n cap (by rw [hP]; exact HF.out) W hz)
  unfold PtEnc S9p.Pt.val S9p.Pt.cells at EC
  have g_k : P.k = S3.readN (S5.byS zs (S9p.s1 l zs).at' 8) := by rw [hP]; rfl
  have g_a : P.a = strOfNums (S5.txS zs (S9p.s2 l zs).at') := by rw [hP]; rfl
  have g_b : P.b = strOfNums (S5.txS zs (S9p.s3 l zs).at') := by rw [hP]; rfl
  have g_c : P.c = strOfNums (S5.txS zs (S9p.s4 l zs).at') := by rw [hP]; rfl
  have g_li : P.li = S5.getV zs (S9p.s5 l zs).at' 1 false := by rw [hP]; rfl
  have g_kv : P.kv = S5.getV zs (S9p.s6 l zs).at' 1 false := by rw [hP]; rfl
  obtain ⟨VL, hVL⟩ : ∃ v, v = S5.getV zs (S9p.s7 l zs).at' 1 false := ⟨_, rfl⟩
  have g_z : P.z = S5.byS zs (S9p.s8 l zs).at' VL := by rw [hVL, hP]; rfl
  have g_tm : P.tm = S5.getV zs (S9p.s9 l zs).at' 4 l := by rw [hP]; rfl
  obtain ⟨T1, hT1⟩ : ∃ T, T = S9p.s1 l zs := ⟨_, rfl⟩
  obtain ⟨T2, hT2⟩ : ∃ T, T = S9p.s2 l zs := ⟨_, rfl⟩
  obtain ⟨T3, hT3⟩ : ∃ T, T = S9p.s3 l zs := ⟨_, rfl⟩
  obtain ⟨T4, hT4⟩ : ∃ T, T = S9p.s4 l zs := ⟨_, rfl⟩
  obtain ⟨T5, hT5⟩ : ∃ T, T = S9p.s5 l zs := ⟨_, rfl⟩
  obtain ⟨T6, hT6⟩ : ∃ T, T = S9p.s6 l zs := ⟨_, rfl⟩
  obtain ⟨T7, hT7⟩ : ∃ T, T = S9p.s7 l zs := ⟨_, rfl⟩
  obtain ⟨T8, hT8⟩ : ∃ T, T = S9p.s8 l zs := ⟨_, rfl⟩
  obtain ⟨T9, hT9⟩ : ∃ T, T = S9p.s9 l zs := ⟨_, rfl⟩
  obtain ⟨T10, hT10⟩ : ∃ T, T = S9p.s10 l zs := ⟨_, rfl⟩
  have m1 : T1 = S9p.s0.move (S5.getN zs S9p.s0.at' 1) (S5.getE zs S9p.s0.at' 1) := by rw [hT1]; rfl
  have m2 : T2 = T1.move (S5.byN zs T1.at' 8) (S5.byE zs T1.at' 8) := by rw [hT2, hT1]; rfl
  have m3 : T3 = T2.move (S5.txN zs T2.at') (S5.txE zs T2.at') := by rw [hT3, hT2]; rfl
  have m4 : T4 = T3.move (S5.txN zs T3.at') (S5.txE zs T3.at') := by rw [hT4, hT3]; rfl
  have m5 : T5 = T4.move (S5.txN zs T4.at') (S5.txE zs T4.at') := by rw [hT5, hT4]; rfl
  have m6 : T6 = T5.move (S5.getN zs T5.at' 1) (S5.getE zs T5.at' 1) := by rw [hT6, hT5]; rfl
  have m7 : T7 = T6.move (S5.getN zs T6.at' 1) (S5.getE zs T6.at' 1) := by rw [hT7, hT6]; rfl
  have m8 : T8 = T7.move (S5.getN zs T7.at' 1) (S5.getE zs T7.at' 1) := by rw [hT8, hT7]; rfl
  have m9 : T9 = T8.move (S5.byN zs T8.at' VL) (S5.byE zs T8.at' VL) := by rw [hT9, hT8, hVL]; rfl
  have m10 : T10 = T9.move (S5.getN zs T9.at' 4) (S5.getE zs T9.at' 4) := by rw [hT10, hT9]; rfl
  rw [← hT1] at g_k
  rw [← hT2] at g_a
  rw [← hT3] at g_b
  rw [← hT4] at g_c
  rw [← hT5] at g_li
  rw [← hT6] at g_kv
  rw [← hT8] at g_z
  rw [← hT9] at g_tm
  rw [← hT7] at hVL
  have HB := Lib.hid (fun hb => S9p.dec_bad (l := l) (zs := zs) hb)
  have HI := Lib.hid (fun (f : P.Fit) (c : S9p.chkE P = 0) (e : S9p.enc l P = zs) => S9p.dec_yes (l := l) (zs := zs) (t := P) ⟨f, c, e⟩)
  rw [← hT10, ← hP] at HB
  rw [← hP] at HF
  clear hP hT1 hT2 hT3 hT4 hT5 hT6 hT7 hT8 hT9 hT10
  replace m1 := Lib.hid m1
  replace m2 := Lib.hid m2
  replace m3 := Lib.hid m3
  replace m4 := Lib.hid m4
  replace m5 := Lib.hid m5
  replace m6 := Lib.hid m6
  replace m7 := Lib.hid m7
  replace m8 := Lib.hid m8
  replace m9 := Lib.hid m9
  replace m10 := Lib.hid m10
  replace g_k := Lib.hid g_k
  replace g_a := Lib.hid g_a
  replace g_b := Lib.hid g_b
  replace g_c := Lib.hid g_c
  replace g_li := Lib.hid g_li
  replace g_kv := Lib.hid g_kv
  replace g_z := Lib.hid g_z
  replace g_tm := Lib.hid g_tm
  replace hVL := Lib.hid hVL
  have hk := Lib.hid h
  have X1 : BoxAt (w.alloc (.cells #[.int .u64 0, .string ⟨#[]⟩, .string ⟨#[]⟩, .string ⟨#[]⟩, .int .i64 0, .int .i64 0, .slice none 0 0, .int .i64 0] 41)) w.heap.size zeroPt := BoxAt.new w zeroPt 41
  have B1 : Below w.heap.size w (w.alloc (.cells #[.int .u64 0, .string ⟨#[]⟩, .string ⟨#[]⟩, .string ⟨#[]⟩, .int .i64 0, .int .i64 0, .slice none 0 0, .int .i64 0] 41)) := (Below.refl _ _).alloc (Nat.le_refl _) _
  have hs1 : (w.alloc (.cells #[.int .u64 0, .string ⟨#[]⟩, .string ⟨#[]⟩, .string ⟨#[]⟩, .int .i64 0, .int .i64 0, .slice none 0 0, .int .i64 0] 41)).heap.size = w.heap.size + 1 := by simp
  obtain ⟨w1, hw1⟩ : ∃ x, x = (w.alloc (.cells #[.int .u64 0, .string ⟨#[]⟩, .string ⟨#[]⟩, .string ⟨#[]⟩, .int .i64 0, .int .i64 0, .slice none 0 0, .int .i64 0] 41)) := ⟨_, rfl⟩
  rw [← hw1] at X1 B1 hs1
  replace hw1 := Lib.hid hw1
  clear h
  have hnn := Lib.hid hn
  obtain ⟨r, hr⟩ : ∃ r, r = w.heap.size + 1 := ⟨_, rfl⟩
  have R2 : Rd (w1.alloc (.cells #[.slice A n cap, .int .i64 0, .bool l, .bool false] 83)) r A n cap l S9p.s0 := by
    rw [hr, ← hs1]
    exact ⟨by simp [go_sem], by simp [go_sem, S9p.s0], by simp [go_sem], by simp [go_sem, S9p.s0], fun o => by simp [go_sem]⟩
  have B2 : Below w.heap.size w (w1.alloc (.cells #[.slice A n cap, .int .i64 0, .bool l, .bool false] 83)) := B1.alloc B1.size _
  have hlt1 := X1.lt
  have X2 : BoxAt (w1.alloc (.cells #[.slice A n cap, .int .i64 0, .bool l, .bool false] 83)) w.heap.size zeroPt := X1.grown (World.grownBy_alloc _ _ none) (by simp)
  have hlt2 : r < (w1.alloc (.cells #[.slice A n cap, .int .i64 0, .bool l, .bool false] 83)).heap.size := by rw [hr]; simp; omega
  obtain ⟨W, hW⟩ : ∃ W, W = (w1.alloc (.cells #[.slice A n cap, .int .i64 0, .bool l, .bool false] 83)) := ⟨_, rfl⟩
  rw [← hW] at R2 B2 X2 hlt2
  replace hW := Lib.hid hW
  have hrw := Lib.hid (show w.heap.size < r by omega)
  replace hr := Lib.hid hr
  clear X1 B1 hs1 hlt1
  have B2h := Lib.hid B2
  have X2h := Lib.hid X2
  have R2h := Lib.hid R2
  have hlt2h := Lib.hid hlt2
  clear B2 X2 R2 hlt2
  go_enter Tryz.func20, Tryz.ntmps20
  go_wp2_with (fail)
  rw [← hw1.out, ← hr.out, ← hW.out]
  clear hw1 hW hr
  refine (roctet_any r A n cap l S9p.s0 zs W R2h.out (hk.out.keep B2h.out) hnn.out).mono ?_
  rintro e V ⟨rfl, r3, g3⟩
  rw [← m1.out] at r3
  have hbb := Lib.hid (B2h.out.grown g3 B2h.out.size (fun k e => by cases e; have := hrw.out; omega))
  have x3 := Lib.hid (X2h.out.grown g3 (by have := hrw.out; simp; omega))
  have hsz := Lib.hid (Nat.lt_of_lt_of_le hlt2h.out g3.size)
  replace r3 := Lib.hid r3
  clear g3 R2h B2h X2h hlt2h
  go_wp2_with (fail)
  obtain ⟨g, hg⟩ : ∃ g, g = V.heap.size := ⟨_, rfl⟩
  have D1 : Dst w (V.alloc (.cells #[.int .u64 0, .string ⟨#[]⟩, .string ⟨#[]⟩, .string ⟨#[]⟩, .int .i64 0, .int .i64 0, .slice none 0 0, .int .i64 0] 41)) w.heap.size r g A n cap l T1 zeroPt [.int .u64 0, .string ⟨#[]⟩, .string ⟨#[]⟩, .string ⟨#[]⟩, .int .i64 0, .int .i64 0, .slice none 0 0, .int .i64 0] := by
    have h1 := hbb.out.size
    have h2 := hrw.out
    have h3 := hsz.out
    rw [hg]
    exact ⟨hbb.out.alloc hbb.out.size _, r3.out.grown (World.grownBy_alloc _ _ none) (by simp), BoxAt.new V [.int .u64 0, .string ⟨#[]⟩, .string ⟨#[]⟩, .string ⟨#[]⟩, .int .i64 0, .int .i64 0, .slice none 0 0, .int .i64 0] 41, x3.out.grown (World.grownBy_alloc _ _ none) (by simp), by omega, by omega, by omega, by omega, by omega⟩
  rw [← hg]
  clear hg hbb x3 hsz r3 hrw
  generalize (V.alloc (.cells #[.int .u64 0, .string ⟨#[]⟩, .string ⟨#[]⟩, .string ⟨#[]⟩, .int .i64 0, .int .i64 0, .slice none 0 0, .int .i64 0] 41)) = W at D1 ⊢
  refine (dbytes D1 (hk.out.keep D1.below) hnn.out 8 T2 m2.out).mono ?_
  clear D1
  rintro e W2 ⟨Ak, nk, ck, rfl, hsk, D2⟩
  have hlk := Lib.hid (show nk ≤ maxLen from Nat.le_trans hsk.2.1 hsk.2.2.1)
  replace hsk := Lib.hid hsk
  have q0 := D2.tk.c 0 _ rfl
  have q1 := D2.tk.c 1 _ rfl
  have q2 := D2.tk.c 2 _ rfl
  have q3 := D2.tk.c 3 _ rfl
  have q4 := D2.tk.c 4 _ rfl
  have q5 := D2.tk.c 5 _ rfl
  have q6 := D2.tk.c 6 _ rfl
  have q7 := D2.tk.c 7 _ rfl
  have qf := D2.tk.fz
  have ql := D2.tk.lt
  go_wp2_with (fail)
  refine (r3read_any Ak nk ck _ _ hsk.out.row hlk.out).mono ?_
  rintro e W' ⟨rfl, rfl⟩
  go_wp2_with (fail)
  rw [← g_k.out]
  clear hsk hlk
  clear q0 q1 q2 q3 q4 q5 q6 q7 qf ql
  have D3 : Dst w (W2.setCell ⟨g, 0, none⟩ (.int .u64 P.k)) w.heap.size r g A n cap l T2 zeroPt [.int .u64 P.k, .string ⟨#[]⟩, .string ⟨#[]⟩, .string ⟨#[]⟩, .int .i64 0, .int .i64 0, .slice none 0 0, .int .i64 0] := (D2.set 0 (.int .u64 P.k) (by simp))
  clear D2
  generalize (W2.setCell ⟨g, 0, none⟩ (.int .u64 P.k)) = W3 at D3 ⊢
  refine (dprincipal D3 hk.out hnn.out P.a P.b P.c T3 T4 T5 g_a.out m3.out g_b.out m4.out g_c.out m5.out).mono ?_
  clear D3
  rintro e W4 ⟨rfl, D4⟩
  have q0 := D4.tk.c 0 _ rfl
  have q1 := D4.tk.c 1 _ rfl
  have q2 := D4.tk.c 2 _ rfl
  have q3 := D4.tk.c 3 _ rfl
  have q4 := D4.tk.c 4 _ rfl
  have q5 := D4.tk.c 5 _ rfl
  have q6 := D4.tk.c 6 _ rfl
  have q7 := D4.tk.c 7 _ rfl
  have qf := D4.tk.fz
  have ql := D4.tk.lt
  go_wp2_with (fail)
  clear q0 q1 q2 q3 q4 q5 q6 q7 qf ql
  have D5 : Dst w (((W4.setCell ⟨g, 1, none⟩ (.string P.a)).setCell ⟨g, 2, none⟩ (.string P.b)).setCell ⟨g, 3, none⟩ (.string P.c)) w.heap.size r g A n cap l T5 zeroPt [.int .u64 P.k, .string P.a, .string P.b, .string P.c, .int .i64 0, .int .i64 0, .slice none 0 0, .int .i64 0] := (((D4.set 1 (.string P.a) (by simp)).set 2 (.string P.b) (by simp)).set 3 (.string P.c) (by simp))
  clear D4
  generalize (((W4.setCell ⟨g, 1, none⟩ (.string P.a)).setCell ⟨g, 2, none⟩ (.string P.b)).setCell ⟨g, 3, none⟩ (.string P.c)) = W5 at D5 ⊢
  refine (doctet D5 (hk.out.keep D5.below) hnn.out P.li T6 g_li.out m6.out).mono ?_
  clear D5
  rintro e W6 ⟨rfl, D6⟩
  have q0 := D6.tk.c 0 _ rfl
  have q1 := D6.tk.c 1 _ rfl
  have q2 := D6.tk.c 2 _ rfl
  have q3 := D6.tk.c 3 _ rfl
  have q4 := D6.tk.c 4 _ rfl
  have q5 := D6.tk.c 5 _ rfl
  have q6 := D6.tk.c 6 _ rfl
  have q7 := D6.tk.c 7 _ rfl
  have qf := D6.tk.fz
  have ql := D6.tk.lt
  go_wp2_with (fail)
  clear q0 q1 q2 q3 q4 q5 q6 q7 qf ql
  have D7 : Dst w (W6.setCell ⟨g, 4, none⟩ (.int .i64 P.li)) w.heap.size r g A n cap l T6 zeroPt [.int .u64 P.k, .string P.a, .string P.b, .string P.c, .int .i64 P.li, .int .i64 0, .slice none 0 0, .int .i64 0] := (D6.set 4 (.int .i64 P.li) (by simp))
  clear D6
  generalize (W6.setCell ⟨g, 4, none⟩ (.int .i64 P.li)) = W7 at D7 ⊢
  refine (doctet D7 (hk.out.keep D7.below) hnn.out P.kv T7 g_kv.out m7.out).mono ?_
  clear D7
  rintro e W8 ⟨rfl, D8⟩
  have q0 := D8.tk.c 0 _ rfl
  have q1 := D8.tk.c 1 _ rfl
  have q2 := D8.tk.c 2 _ rfl
  have q3 := D8.tk.c 3 _ rfl
  have q4 := D8.tk.c 4 _ rfl
  have q5 := D8.tk.c 5 _ rfl
  have q6 := D8.tk.c 6 _ rfl
  have q7 := D8.tk.c 7 _ rfl
  have qf := D8.tk.fz
  have ql := D8.tk.lt
  go_wp2_with (fail)
  clear q0 q1 q2 q3 q4 q5 q6 q7 qf ql
  have D9 : Dst w (W8.setCell ⟨g, 5, none⟩ (.int .i64 P.kv)) w.heap.size r g A n cap l T7 zeroPt [.int .u64 P.k, .string P.a, .string P.b, .string P.c, .int .i64 P.li, .int .i64 P.kv, .slice none 0 0, .int .i64 0] := (D8.set 5 (.int .i64 P.kv) (by simp))
  clear D8
  generalize (W8.setCell ⟨g, 5, none⟩ (.int .i64 P.kv)) = W9 at D9 ⊢
  refine (doctet D9 (hk.out.keep D9.below) hnn.out VL T8 hVL.out m8.out).mono ?_
  clear D9
  rintro e W10 ⟨rfl, D10⟩
  have q0 := D10.tk.c 0 _ rfl
  have q1 := D10.tk.c 1 _ rfl
  have q2 := D10.tk.c 2 _ rfl
  have q3 := D10.tk.c 3 _ rfl
  have q4 := D10.tk.c 4 _ rfl
  have q5 := D10.tk.c 5 _ rfl
  have q6 := D10.tk.c 6 _ rfl
  have q7 := D10.tk.c 7 _ rfl
  have qf := D10.tk.fz
  have ql := D10.tk.lt
  go_wp2_with (fail)
  clear q0 q1 q2 q3 q4 q5 q6 q7 qf ql
  refine (dbytesF D10 (hk.out.keep D10.below) hnn.out VL T9 m9.out).mono ?_
  clear D10
  rintro e W11 ⟨Az, nz, cz, rfl, hsz, D11, hfz⟩
  rw [← g_z.out] at hsz
  replace hsz := Lib.hid hsz
  replace hfz := Lib.hid hfz
  have q0 := D11.tk.c 0 _ rfl
  have q1 := D11.tk.c 1 _ rfl
  have q2 := D11.tk.c 2 _ rfl
  have q3 := D11.tk.c 3 _ rfl
  have q4 := D11.tk.c 4 _ rfl
  have q5 := D11.tk.c 5 _ rfl
  have q6 := D11.tk.c 6 _ rfl
  have q7 := D11.tk.c 7 _ rfl
  have qf := D11.tk.fz
  have ql := D11.tk.lt
  go_wp2_with (fail)
  clear q0 q1 q2 q3 q4 q5 q6 q7 qf ql
  have D12 : Dst w (W11.setCell ⟨g, 6, none⟩ (.slice Az nz cz)) w.heap.size r g A n cap l T9 zeroPt [.int .u64 P.k, .string P.a, .string P.b, .string P.c, .int .i64 P.li, .int .i64 P.kv, .slice Az nz cz, .int .i64 0] := (D11.set 6 (.slice Az nz cz) (by simp))
  clear D11
  replace hsz := Lib.hid (hsz.out.set ⟨g, 6, none⟩ (.slice Az nz cz) (fun b off e => (hfz.out b off e).2.1))
  generalize (W11.setCell ⟨g, 6, none⟩ (.slice Az nz cz)) = W12 at D12 hsz ⊢
  refine (dnumberG D12 (hk.out.keep D12.below) hnn.out P.tm T10 g_tm.out m10.out).mono ?_
  clear D12
  rintro e W13 ⟨rfl, D13, hgr⟩
  replace hsz := Lib.hid (hsz.out.beside hgr (fun b off e => by have := (hfz.out b off e).1; simpa using this))
  clear hgr
  have q0 := D13.tk.c 0 _ rfl
  have q1 := D13.tk.c 1 _ rfl
  have q2 := D13.tk.c 2 _ rfl
  have q3 := D13.tk.c 3 _ rfl
  have q4 := D13.tk.c 4 _ rfl
  have q5 := D13.tk.c 5 _ rfl
  have q6 := D13.tk.c 6 _ rfl
  have q7 := D13.tk.c 7 _ rfl
  have qf := D13.tk.fz
  have ql := D13.tk.lt
  go_wp2_with (fail)
  clear q0 q1 q2 q3 q4 q5 q6 q7 qf ql
  have D14 : Dst w (W13.setCell ⟨g, 7, none⟩ (.int .i64 P.tm)) w.heap.size r g A n cap l T10 zeroPt [.int .u64 P.k, .string P.a, .string P.b, .string P.c, .int .i64 P.li, .int .i64 P.kv, .slice Az nz cz, .int .i64 P.tm] := (D13.set 7 (.int .i64 P.tm) (by simp))
  clear D13
  replace hsz := Lib.hid (hsz.out.set ⟨g, 7, none⟩ (.int .i64 P.tm) (fun b off e => (hfz.out b off e).2.1))
  generalize (W13.setCell ⟨g, 7, none⟩ (.int .i64 P.tm)) = W14 at D14 hsz ⊢
  refine (EC.out _ Az nz cz hsz.out).mono ?_
  rintro e W15 ⟨A2, n2, c2, rfl, hs2, hb2, _⟩
  have D15 := D14.keep hb2
  replace hsz := Lib.hid (hsz.out.keep hb2)
  clear D14 hb2
  have u1 := conv_sl hs2
  have u2 := conv_sl (hk.out.keep D15.below)
  have hrs := Lib.hid hs2.range
  have q0 := D15.tk.c 0 _ rfl
  have q1 := D15.tk.c 1 _ rfl
  have q2 := D15.tk.c 2 _ rfl
  have q3 := D15.tk.c 3 _ rfl
  have q4 := D15.tk.c 4 _ rfl
  have q5 := D15.tk.c 5 _ rfl
  have q6 := D15.tk.c 6 _ rfl
  have q7 := D15.tk.c 7 _ rfl
  have qf := D15.tk.fz
  have ql := D15.tk.lt
  have x0 := D15.res.c 0 _ rfl
  have x1 := D15.res.c 1 _ rfl
  have x2 := D15.res.c 2 _ rfl
  have x3 := D15.res.c 3 _ rfl
  have x4 := D15.res.c 4 _ rfl
  have x5 := D15.res.c 5 _ rfl
  have x6 := D15.res.c 6 _ rfl
  have x7 := D15.res.c 7 _ rfl
  have xf := D15.res.fz
  have xl := D15.res.lt
  have r3 := D15.rd.c3
  have rl := cell_lt r3
  have BD := Lib.hid D15.below
  have nRg := D15.Rg
  clear D15 hs2
  by_cases hb : T10.bad = true
  · have HX := Lib.hid (HB.out (.inl hb))
    rw [hb] at r3
    clear hb
    go_wp2_with (fail)
    refine bodyPost_ret (v := .tuple #[S9p.Pt.zero.val none 0 0, .int .i64 100]) ?_ rfl ?_
    · simp [results, Tryz.results20, go_sem, S9p.Pt.val, S9p.Pt.cells, S9p.Pt.zero, x0, x1, x2, x3, x4, x5, x6, x7]
    · exact PtDec.mk HX.out (Sl.nil _) (Fresh.nil _) (by repeat (first | (with_reducible exact BD.out) | refine Below.setCell ?_ (by simp) _))
  · have hb' : T10.bad = false := by simpa using hb
    rw [hb'] at r3
    clear hb hb'
    by_cases he : S9p.chkE P = 0
    · have he2 : (S9p.chkE P != 0) = false := by simpa using he
      by_cases hz : S9p.encB l P = zs
      · have HX := Lib.hid (HI.out HF.out he (by rw [← hz]; unfold S9p.encB; rw [if_pos he]))
        rw [hz] at u1
        clear hz he
        go_wp2_with (fail)
        refine bodyPost_ret (v := .tuple #[P.val Az nz cz, .int .i64 0]) ?_ rfl ?_
        · simp [results, Tryz.results20, go_sem, S9p.Pt.val, S9p.Pt.cells, x0, x1, x2, x3, x4, x5, x6, x7]
        · exact PtDec.mk HX.out (by repeat (first | (with_reducible exact hsz.out) | refine Sl.set ?_ _ _ (fun b off e => (hfz.out b off e).2.2.1))) (fun b off e => (hfz.out b off e).2.2.2) (by repeat (first | (with_reducible exact BD.out) | refine Below.setCell ?_ (by simp) _))
      · have HX := Lib.hid (HB.out (.inr (.inr hz)))
        have hzz : ((strOfNums (S9p.encB l P)).toList == (strOfNums zs).toList) = false := beq_eq_false_iff_ne.2 (fun e => hz (ptstr_inj hrs.out hrg.out e))
        clear hz he
        go_wp2_with (fail)
        refine bodyPost_ret (v := .tuple #[S9p.Pt.zero.val none 0 0, .int .i64 100]) ?_ rfl ?_
        · simp [results, Tryz.results20, go_sem, S9p.Pt.val, S9p.Pt.cells, S9p.Pt.zero, x0, x1, x2, x3, x4, x5, x6, x7]
        · exact PtDec.mk HX.out (Sl.nil _) (Fresh.nil _) (by repeat (first | (with_reducible exact BD.out) | refine Below.setCell ?_ (by simp) _))
    · have HX := Lib.hid (HB.out (.inr (.inl he)))
      have he2 : (S9p.chkE P != 0) = true := by simpa using he
      clear he
      go_wp2_with (fail)
      refine bodyPost_ret (v := .tuple #[S9p.Pt.zero.val none 0 0, .int .i64 100]) ?_ rfl ?_
      · simp [results, Tryz.results20, go_sem, S9p.Pt.val, S9p.Pt.cells, S9p.Pt.zero, x0, x1, x2, x3, x4, x5, x6, x7]
      · exact PtDec.mk HX.out (Sl.nil _) (Fresh.nil _) (by repeat (first | (with_reducible exact BD.out) | refine Below.setCell ?_ (by simp) _))

end Go.Proofs.YtkhkmgblgonfoaaGreat

/-
  What DecodeError of the document's answer returns.
-/
namespace Go.Proofs.YtkhkmgblgonfoaaGreat
open Go.RowKit
set_option maxRecDepth 100000

def ErDec (zs : List Int) (w : World) (e : Ending) (w' : World) : Prop := e = .returned (.tuple #[(S9e.decT zs).val, .int .i64 (S9e.decE zs)]) ∧ Below w.heap.size w w'
theorem ErDec.mk {zs : List Int} {w w' : World} {t : S9e.Er} {x : Int} (h : S9e.decE zs = x ∧ S9e.decT zs = t) (hb : Below w.heap.size w w') : ErDec zs w (.returned (.tuple #[t.val, .int .i64 x])) w' := ⟨by rw [h.1, h.2], hb⟩
def zeroEr : List Value := [.bool false, .string ⟨#[]⟩, .string ⟨#[]⟩, .string ⟨#[]⟩, .int .i64 0, .int .i64 0, .string ⟨#[]⟩]
theorem erparse_fit {zs : List Int} (hz : ∀ z ∈ zs, 0 ≤ z ∧ z ≤ 255) : (S9e.parse zs).Fit := by
  have g : ∀ a k l, k ≤ 4 → -9223372036854775808 ≤ S5.getV zs a k l ∧ S5.getV zs a k l ≤ 9223372036854775807 := fun a k l hk => by have := getV_range hz a k l hk; omega
  exact ⟨txS_size _ _, txS_size _ _, txS_size _ _, g _ _ _ (by decide), g _ _ _ (by decide), txS_size _ _⟩
theorem erstr_inj {xs ys : List Int} (hx : ∀ n ∈ xs, 0 ≤ n ∧ n ≤ 255) (hy : ∀ n ∈ ys, 0 ≤ n ∧ n ≤ 255) (h : (strOfNums xs).toList = (strOfNums ys).toList) : xs = ys := by
  refine strOfNums_inj hx hy ?_
  rw [ByteArray.toList_eq, ByteArray.toList_eq] at h
  exact ByteArray.ext (Array.ext' h)
/-- A row of one number that was just built. -/
theorem errow_one (w : World) (k : Int) (h : IntKind.i64.min ≤ k ∧ k ≤ IntKind.i64.max) (T : TypeId) : RowK .i64 (w.alloc (.cells #[.int .i64 k] T)) (some ⟨w.heap.size, 0, none⟩) 1 [k] :=
  ⟨rfl, fun n hn => by rw [List.mem_singleton] at hn; subst hn; exact h, fun _ => ⟨_, _, rfl, fun i hi => by
    have : i = 0 := by simp at hi; omega
    subst this
    simp [go_sem]⟩⟩

set_option maxHeartbeats 3200000 in
theorem erdecode_kind (A : Option Addr) (n cap : Nat) (zs : List Int) (w : World) (h : Sl w A n cap zs) (hn : n ≤ 100000) (he : S8.isE zs [5] ≠ 0) : Calls Tryz.prog 23 #[.slice A n cap] w (ErDec zs w) := by
  have HX := Lib.hid (S9e.dec_kind he)
  have he2 : (S8.isE zs [5] != 0) = true := by simpa using he
  have hk := Lib.hid h
  have X0 : BoxAt ((w.alloc (.cells #[.bool false, .string ⟨#[]⟩, .string ⟨#[]⟩, .string ⟨#[]⟩, .int .i64 0, .int .i64 0, .string ⟨#[]⟩] 46)).alloc (.cells #[.int .i64 5] 3)) w.heap.size zeroEr := (BoxAt.new w zeroEr 46).grown (World.grownBy_alloc _ _ none) (by simp)
  have B0 : Below w.heap.size w ((w.alloc (.cells #[.bool false, .string ⟨#[]⟩, .string ⟨#[]⟩, .string ⟨#[]⟩, .int .i64 0, .int .i64 0, .string ⟨#[]⟩] 46)).alloc (.cells #[.int .i64 5] 3)) := ((Below.refl _ _).alloc (Nat.le_refl _) _).alloc (by simp) _
  have KR : RowK .i64 ((w.alloc (.cells #[.bool false, .string ⟨#[]⟩, .string ⟨#[]⟩, .string ⟨#[]⟩, .int .i64 0, .int .i64 0, .string ⟨#[]⟩] 46)).alloc (.cells #[.int .i64 5] 3)) (some ⟨w.heap.size + 1, 0, none⟩) 1 [5] := by
    have := errow_one (w.alloc (.cells #[.bool false, .string ⟨#[]⟩, .string ⟨#[]⟩, .string ⟨#[]⟩, .int .i64 0, .int .i64 0, .string ⟨#[]⟩] 46)) 5 (by decide) 3
    rw [show (w.alloc (.cells #[.bool false, .string ⟨#[]⟩, .string ⟨#[]⟩, .string ⟨#[]⟩, .int .i64 0, .int .i64 0, .string ⟨#[]⟩] 46)).heap.size = w.heap.size + 1 by simp] at this
    exact this
  have IC := r8is_any A n cap zs (some ⟨w.heap.size + 1, 0, none⟩) 1 1 [5] ((w.alloc (.cells #[.bool false, .string ⟨#[]⟩, .string ⟨#[]⟩, .string ⟨#[]⟩, .int .i64 0, .int .i64 0, .string ⟨#[]⟩] 46)).alloc (.cells #[.int .i64 5] 3)) (h.keep B0) hn KR (by decide)
  unfold IsOut at IC
  replace IC := Lib.hid IC
  replace X0 := Lib.hid X0
  replace B0 := Lib.hid B0
  clear he KR hk h
  go_enter Tryz.func23, Tryz.ntmps23
  go_wp2_with (fail)
  refine IC.out.mono ?_
  rintro e w1 ⟨rfl, hb1⟩
  have X1 := X0.out.keep hb1
  have B1 := Lib.hid (below_keep hb1 B0.out)
  clear hb1 B0 X0 IC
  have x0 := X1.c 0 _ rfl
  have x1 := X1.c 1 _ rfl
  have x2 := X1.c 2 _ rfl
  have x3 := X1.c 3 _ rfl
  have x4 := X1.c 4 _ rfl
  have x5 := X1.c 5 _ rfl
  have x6 := X1.c 6 _ rfl
  have xf := X1.fz
  have xl := X1.lt
  clear X1
  go_wp2_with (fail)
  refine bodyPost_ret (v := .tuple #[S9e.Er.zero.val, .int .i64 (S8.isE zs [5])]) ?_ rfl ?_
  · simp [results, Tryz.results23, go_sem, S9e.Er.val, S9e.Er.cells, S9e.Er.zero, x0, x1, x2, x3, x4, x5, x6]
  · exact ErDec.mk HX.out (by repeat (first | (with_reducible exact B1.out) | refine Below.setCell ?_ (by simp) _))

set_option maxHeartbeats 6400000 in
theorem erdecode_read (A : Option Addr) (n cap : Nat) (zs : List Int) (w : World) (h : Sl w A n cap zs) (hn : n ≤ 100000) (he : S8.isE zs [5] = 0) : Calls Tryz.prog 23 #[.slice A n cap] w (ErDec zs w) := by
  have HN := Lib.hid he
  have hrg := Lib.hid h.range
  have HF := Lib.hid (erparse_fit h.range)
  obtain ⟨P, hP⟩ : ∃ P, P = S9e.parse zs := ⟨_, rfl⟩
  have EC := Lib.hid (fun W => erencode_any P (by rw [hP]; exact HF.out) W)
  unfold ErEnc S9e.Er.val S9e.Er.cells at EC
  have gl : S8.isB zs [5] = P.l := by
    have e0 : S8.rdE zs = 0 := by
      rcases Classical.em (S8.rdE zs = 0) with e | e
      · exact e
      · rw [(S8.is_err e _).1] at he; exact absurd he e
    have e1 : S8.rdK zs ∈ [(5 : Int)] := by
      rcases Classical.em (S8.rdK zs ∈ [(5 : Int)]) with e | e
      · exact e
      · rw [(S8.is_no e0 e).1] at he; exact absurd he (by decide)
    rw [(S8.is_yes e0 e1).2, hP]; rfl
  have g_a : P.a = strOfNums (S5.txS zs S9e.s0.at') := by rw [hP]; rfl
  have g_b : P.b = strOfNums (S5.txS zs (S9e.s1 zs).at') := by rw [hP]; rfl
  have g_c : P.c = strOfNums (S5.txS zs (S9e.s2 zs).at') := by rw [hP]; rfl
  have g_tm : P.tm = S5.getV zs (S9e.s3 zs).at' 4 P.l := by rw [hP]; rfl
  have g_co : P.co = S5.getV zs (S9e.s4 zs).at' 4 P.l := by rw [hP]; rfl
  have g_s : P.s = strOfNums (S5.txS zs (S9e.s5 zs).at') := by rw [hP]; rfl
  obtain ⟨T1, hT1⟩ : ∃ T, T = S9e.s1 zs := ⟨_, rfl⟩
  obtain ⟨T2, hT2⟩ : ∃ T, T = S9e.s2 zs := ⟨_, rfl⟩
  obtain ⟨T3, hT3⟩ : ∃ T, T = S9e.s3 zs := ⟨_, rfl⟩
  obtain ⟨T4, hT4⟩ : ∃ T, T = S9e.s4 zs := ⟨_, rfl⟩
  obtain ⟨T5, hT5⟩ : ∃ T, T = S9e.s5 zs := ⟨_, rfl⟩
  obtain ⟨T6, hT6⟩ : ∃ T, T = S9e.s6 zs := ⟨_, rfl⟩
  have m1 : T1 = S9e.s0.move (S5.txN zs S9e.s0.at') (S5.txE zs S9e.s0.at') := by rw [hT1]; rfl
  have m2 : T2 = T1.move (S5.txN zs T1.at') (S5.txE zs T1.at') := by rw [hT2, hT1]; rfl
  have m3 : T3 = T2.move (S5.txN zs T2.at') (S5.txE zs T2.at') := by rw [hT3, hT2]; rfl
  have m4 : T4 = T3.move (S5.getN zs T3.at' 4) (S5.getE zs T3.at' 4) := by rw [hT4, hT3]; rfl
  have m5 : T5 = T4.move (S5.getN zs T4.at' 4) (S5.getE zs T4.at' 4) := by rw [hT5, hT4]; rfl
  have m6 : T6 = T5.move (S5.txN zs T5.at') (S5.txE zs T5.at') := by rw [hT6, hT5]; rfl
  rw [← hT1] at g_b
  rw [← hT2] at g_c
  rw [← hT3] at g_tm
  rw [← hT4] at g_co
  rw [← hT5] at g_s
  have HB := Lib.hid (fun hb => S9e.dec_bad (zs := zs) HN.out hb)
  have HI := Lib.hid (fun (f : P.Fit) (c : S9e.chkE P = 0) (e : S9e.enc P = zs) => S9e.dec_yes (zs := zs) (t := P) ⟨f, c, e⟩)
  rw [← hT6, ← hP] at HB
  rw [← hP] at HF
  clear hP hT1 hT2 hT3 hT4 hT5 hT6
  replace m1 := Lib.hid m1
  replace m2 := Lib.hid m2
  replace m3 := Lib.hid m3
  replace m4 := Lib.hid m4
  replace m5 := Lib.hid m5
  replace m6 := Lib.hid m6
  replace g_a := Lib.hid g_a
  replace g_b := Lib.hid g_b
  replace g_c := Lib.hid g_c
  replace g_tm := Lib.hid g_tm
  replace g_co := Lib.hid g_co
  replace g_s := Lib.hid g_s
  have hk := Lib.hid h
  have X0 : BoxAt ((w.alloc (.cells #[.bool false, .string ⟨#[]⟩, .string ⟨#[]⟩, .string ⟨#[]⟩, .int .i64 0, .int .i64 0, .string ⟨#[]⟩] 46)).alloc (.cells #[.int .i64 5] 3)) w.heap.size zeroEr := (BoxAt.new w zeroEr 46).grown (World.grownBy_alloc _ _ none) (by simp)
  have B0 : Below w.heap.size w ((w.alloc (.cells #[.bool false, .string ⟨#[]⟩, .string ⟨#[]⟩, .string ⟨#[]⟩, .int .i64 0, .int .i64 0, .string ⟨#[]⟩] 46)).alloc (.cells #[.int .i64 5] 3)) := ((Below.refl _ _).alloc (Nat.le_refl _) _).alloc (by simp) _
  have KR : RowK .i64 ((w.alloc (.cells #[.bool false, .string ⟨#[]⟩, .string ⟨#[]⟩, .string ⟨#[]⟩, .int .i64 0, .int .i64 0, .string ⟨#[]⟩] 46)).alloc (.cells #[.int .i64 5] 3)) (some ⟨w.heap.size + 1, 0, none⟩) 1 [5] := by
    have := errow_one (w.alloc (.cells #[.bool false, .string ⟨#[]⟩, .string ⟨#[]⟩, .string ⟨#[]⟩, .int .i64 0, .int .i64 0, .string ⟨#[]⟩] 46)) 5 (by decide) 3
    rw [show (w.alloc (.cells #[.bool false, .string ⟨#[]⟩, .string ⟨#[]⟩, .string ⟨#[]⟩, .int .i64 0, .int .i64 0, .string ⟨#[]⟩] 46)).heap.size = w.heap.size + 1 by simp] at this
    exact this
  have IC := r8is_any A n cap zs (some ⟨w.heap.size + 1, 0, none⟩) 1 1 [5] ((w.alloc (.cells #[.bool false, .string ⟨#[]⟩, .string ⟨#[]⟩, .string ⟨#[]⟩, .int .i64 0, .int .i64 0, .string ⟨#[]⟩] 46)).alloc (.cells #[.int .i64 5] 3)) (h.keep B0) hn KR (by decide)
  unfold IsOut at IC
  rw [gl, he] at IC
  replace IC := Lib.hid IC
  replace X0 := Lib.hid X0
  replace B0 := Lib.hid B0
  clear gl he KR h
  have hnn := Lib.hid hn
  go_enter Tryz.func23, Tryz.ntmps23
  go_wp2_with (fail)
  refine IC.out.mono ?_
  rintro e w1 ⟨rfl, hb1⟩
  have X1 := X0.out.keep hb1
  have B1 := below_keep hb1 B0.out
  clear hb1 B0 X0 IC
  obtain ⟨r, hr⟩ : ∃ r, r = w1.heap.size := ⟨_, rfl⟩
  have D1 : Dst w ((w1.alloc (.cells #[.slice A n cap, .int .i64 2, .bool P.l, .bool false] 83)).alloc (.cells #[.bool P.l, .string ⟨#[]⟩, .string ⟨#[]⟩, .string ⟨#[]⟩, .int .i64 0, .int .i64 0, .string ⟨#[]⟩] 46)) w.heap.size r (r + 1) A n cap P.l S9e.s0 zeroEr [.bool P.l, .string ⟨#[]⟩, .string ⟨#[]⟩, .string ⟨#[]⟩, .int .i64 0, .int .i64 0, .string ⟨#[]⟩] := by
    have hx := BoxAt.new (w1.alloc (.cells #[.slice A n cap, .int .i64 2, .bool P.l, .bool false] 83)) [.bool P.l, .string ⟨#[]⟩, .string ⟨#[]⟩, .string ⟨#[]⟩, .int .i64 0, .int .i64 0, .string ⟨#[]⟩] 46
    rw [show (w1.alloc (.cells #[.slice A n cap, .int .i64 2, .bool P.l, .bool false] 83)).heap.size = r + 1 by rw [hr]; simp] at hx
    have hlt := X1.lt
    have hsz := B1.size
    refine ⟨(B1.alloc B1.size _).alloc (by simp; omega) _, ?_, hx, (X1.grown (World.grownBy_alloc _ _ none) (by simp)).grown (World.grownBy_alloc _ _ none) (by simp), by omega, by omega, by omega, by omega, by omega⟩
    rw [hr]
    exact ⟨by simp [go_sem], by simp [go_sem, S9e.s0], by simp [go_sem], by simp [go_sem, S9e.s0], fun o => by simp [go_sem]⟩
  have hsz := B1.size
  obtain ⟨W, hW⟩ : ∃ W, W = ((w1.alloc (.cells #[.slice A n cap, .int .i64 2, .bool P.l, .bool false] 83)).alloc (.cells #[.bool P.l, .string ⟨#[]⟩, .string ⟨#[]⟩, .string ⟨#[]⟩, .int .i64 0, .int .i64 0, .string ⟨#[]⟩] 46)) := ⟨_, rfl⟩
  rw [← hW] at D1
  replace hW := Lib.hid hW
  replace hr := Lib.hid hr
  clear X1 B1
  go_wp2_with (fail)
  rw [← hr.out, ← hW.out]
  clear hW hr hsz
  obtain ⟨g, hg⟩ : ∃ g, g = r + 1 := ⟨_, rfl⟩
  rw [← hg] at D1
  rw [← hg]
  clear hg
  refine (dprincipal D1 hk.out hnn.out P.a P.b P.c T1 T2 T3 g_a.out m1.out g_b.out m2.out g_c.out m3.out).mono ?_
  clear D1
  rintro e W2 ⟨rfl, D2⟩
  have q0 := D2.tk.c 0 _ rfl
  have q1 := D2.tk.c 1 _ rfl
  have q2 := D2.tk.c 2 _ rfl
  have q3 := D2.tk.c 3 _ rfl
  have q4 := D2.tk.c 4 _ rfl
  have q5 := D2.tk.c 5 _ rfl
  have q6 := D2.tk.c 6 _ rfl
  have qf := D2.tk.fz
  have ql := D2.tk.lt
  go_wp2_with (fail)
  clear q0 q1 q2 q3 q4 q5 q6 qf ql
  have D3 : Dst w (((W2.setCell ⟨g, 1, none⟩ (.string P.a)).setCell ⟨g, 2, none⟩ (.string P.b)).setCell ⟨g, 3, none⟩ (.string P.c)) w.heap.size r g A n cap P.l T3 zeroEr [.bool P.l, .string P.a, .string P.b, .string P.c, .int .i64 0, .int .i64 0, .string ⟨#[]⟩] := (((D2.set 1 (.string P.a) (by simp)).set 2 (.string P.b) (by simp)).set 3 (.string P.c) (by simp))
  clear D2
  generalize (((W2.setCell ⟨g, 1, none⟩ (.string P.a)).setCell ⟨g, 2, none⟩ (.string P.b)).setCell ⟨g, 3, none⟩ (.string P.c)) = W3 at D3 ⊢
  refine (dnumber D3 (hk.out.keep D3.below) hnn.out P.tm T4 g_tm.out m4.out).mono ?_
  clear D3
  rintro e W4 ⟨rfl, D4⟩
  have q0 := D4.tk.c 0 _ rfl
  have q1 := D4.tk.c 1 _ rfl
  have q2 := D4.tk.c 2 _ rfl
  have q3 := D4.tk.c 3 _ rfl
  have q4 := D4.tk.c 4 _ rfl
  have q5 := D4.tk.c 5 _ rfl
  have q6 := D4.tk.c 6 _ rfl
  have qf := D4.tk.fz
  have ql := D4.tk.lt
  go_wp2_with (fail)
  clear q0 q1 q2 q3 q4 q5 q6 qf ql
  have D5 : Dst w (W4.setCell ⟨g, 4, none⟩ (.int .i64 P.tm)) w.heap.size r g A n cap P.l T4 zeroEr [.bool P.l, .string P.a, .string P.b, .string P.c, .int .i64 P.tm, .int .i64 0, .string ⟨#[]⟩] := (D4.set 4 (.int .i64 P.tm) (by simp))
  clear D4
  generalize (W4.setCell ⟨g, 4, none⟩ (.int .i64 P.tm)) = W5 at D5 ⊢
  refine (dnumber D5 (hk.out.keep D5.below) hnn.out P.co T5 g_co.out m5.out).mono ?_
  clear D5
  rintro e W6 ⟨rfl, D6⟩
  have q0 := D6.tk.c 0 _ rfl
  have q1 := D6.tk.c 1 _ rfl
  have q2 := D6.tk.c 2 _ rfl
  have q3 := D6.tk.c 3 _ rfl
  have q4 := D6.tk.c 4 _ rfl
  have q5 := D6.tk.c 5 _ rfl
  have q6 := D6.tk.c 6 _ rfl
  have qf := D6.tk.fz
  have ql := D6.tk.lt
  go_wp2_with (fail)
  clear q0 q1 q2 q3 q4 q5 q6 qf ql
  have D7 : Dst w (W6.setCell ⟨g, 5, none⟩ (.int .i64 P.co)) w.heap.size r g A n cap P.l T5 zeroEr [.bool P.l, .string P.a, .string P.b, .string P.c, .int .i64 P.tm, .int .i64 P.co, .string ⟨#[]⟩] := (D6.set 5 (.int .i64 P.co) (by simp))
  clear D6
  generalize (W6.setCell ⟨g, 5, none⟩ (.int .i64 P.co)) = W7 at D7 ⊢
  refine (dtext D7 (hk.out.keep D7.below) hnn.out P.s T6 g_s.out m6.out).mono ?_
  clear D7
  rintro e W8 ⟨rfl, D8⟩
  have q0 := D8.tk.c 0 _ rfl
  have q1 := D8.tk.c 1 _ rfl
  have q2 := D8.tk.c 2 _ rfl
  have q3 := D8.tk.c 3 _ rfl
  have q4 := D8.tk.c 4 _ rfl
  have q5 := D8.tk.c 5 _ rfl
  have q6 := D8.tk.c 6 _ rfl
  have qf := D8.tk.fz
  have ql := D8.tk.lt
  go_wp2_with (fail)
  clear q0 q1 q2 q3 q4 q5 q6 qf ql
  have D9 : Dst w (W8.setCell ⟨g, 6, none⟩ (.string P.s)) w.heap.size r g A n cap P.l T6 zeroEr [.bool P.l, .string P.a, .string P.b, .string P.c, .int .i64 P.tm, .int .i64 P.co, .string P.s] := (D8.set 6 (.string P.s) (by simp))
  clear D8
  generalize (W8.setCell ⟨g, 6, none⟩ (.string P.s)) = W9 at D9 ⊢
  refine (EC.out _).mono ?_
  rintro e W10 ⟨A2, n2, c2, rfl, hs2, hb2, _⟩
  have D10 := D9.keep hb2
  clear D9 hb2
  have u1 := conv_sl hs2
  have u2 := conv_sl (hk.out.keep D10.below)
  have hrs := Lib.hid hs2.range
  have q0 := D10.tk.c 0 _ rfl
  have q1 := D10.tk.c 1 _ rfl
  have q2 := D10.tk.c 2 _ rfl
  have q3 := D10.tk.c 3 _ rfl
  have q4 := D10.tk.c 4 _ rfl
  have q5 := D10.tk.c 5 _ rfl
  have q6 := D10.tk.c 6 _ rfl
  have qf := D10.tk.fz
  have ql := D10.tk.lt
  have x0 := D10.res.c 0 _ rfl
  have x1 := D10.res.c 1 _ rfl
  have x2 := D10.res.c 2 _ rfl
  have x3 := D10.res.c 3 _ rfl
  have x4 := D10.res.c 4 _ rfl
  have x5 := D10.res.c 5 _ rfl
  have x6 := D10.res.c 6 _ rfl
  have xf := D10.res.fz
  have xl := D10.res.lt
  have r3 := D10.rd.c3
  have rl := cell_lt r3
  have BD := Lib.hid D10.below
  have nRg := D10.Rg
  clear D10 hs2
  by_cases hb : T6.bad = true
  · have HX := Lib.hid (HB.out (.inl hb))
    rw [hb] at r3
    clear hb
    go_wp2_with (fail)
    refine bodyPost_ret (v := .tuple #[S9e.Er.zero.val, .int .i64 100]) ?_ rfl ?_
    · simp [results, Tryz.results23, go_sem, S9e.Er.val, S9e.Er.cells, S9e.Er.zero, x0, x1, x2, x3, x4, x5, x6]
    · exact ErDec.mk HX.out (by repeat (first | (with_reducible exact BD.out) | refine Below.setCell ?_ (by simp) _))
  · have hb' : T6.bad = false := by simpa using hb
    rw [hb'] at r3
    clear hb hb'
    by_cases he : S9e.chkE P = 0
    · have he2 : (S9e.chkE P != 0) = false := by simpa using he
      by_cases hz : S9e.encB P = zs
      · have HX := Lib.hid (HI.out HF.out he (by rw [← hz]; unfold S9e.encB; rw [if_pos he]))
        rw [hz] at u1
        clear hz he
        go_wp2_with (fail)
        refine bodyPost_ret (v := .tuple #[P.val, .int .i64 0]) ?_ rfl ?_
        · simp [results, Tryz.results23, go_sem, S9e.Er.val, S9e.Er.cells, x0, x1, x2, x3, x4, x5, x6]
        · exact ErDec.mk HX.out (by repeat (first | (with_reducible exact BD.out) | refine Below.setCell ?_ (by simp) _))
      · have HX := Lib.hid (HB.out (.inr (.inr hz)))
        have hzz : ((strOfNums (S9e.encB P)).toList == (strOfNums zs).toList) = false := beq_eq_false_iff_ne.2 (fun e => hz (erstr_inj hrs.out hrg.out e))
        clear hz he
        go_wp2_with (fail)
        refine bodyPost_ret (v := .tuple #[S9e.Er.zero.val, .int .i64 100]) ?_ rfl ?_
        · simp [results, Tryz.results23, go_sem, S9e.Er.val, S9e.Er.cells, S9e.Er.zero, x0, x1, x2, x3, x4, x5, x6]
        · exact ErDec.mk HX.out (by repeat (first | (with_reducible exact BD.out) | refine Below.setCell ?_ (by simp) _))
    · have HX := Lib.hid (HB.out (.inr (.inl he)))
      have he2 : (S9e.chkE P != 0) = true := by simpa using he
      clear he
      go_wp2_with (fail)
      refine bodyPost_ret (v := .tuple #[S9e.Er.zero.val, .int .i64 100]) ?_ rfl ?_
      · simp [results, Tryz.results23, go_sem, S9e.Er.val, S9e.Er.cells, S9e.Er.zero, x0, x1, x2, x3, x4, x5, x6]
      · exact ErDec.mk HX.out (by repeat (first | (with_reducible exact BD.out) | refine Below.setCell ?_ (by simp) _))

theorem erdecode_any (A : Option Addr) (n cap : Nat) (zs : List Int) (w : World) (h : Sl w A n cap zs) (hn : n ≤ 100000) : Calls Tryz.prog 23 #[.slice A n cap] w (ErDec zs w) := by
  by_cases he : S8.isE zs [5] = 0
  · exact erdecode_read A n cap zs w h hn he
  · exact erdecode_kind A n cap zs w h hn he

end Go.Proofs.YtkhkmgblgonfoaaGreat
