/-
  What Decode of the document's answer for authenticators returns.
-/
import Derived.Test.YtihacmonohjmaaaQAuB
import Derived.Test.YtihacmonohjmaaaQDst
namespace Go.Proofs.Ytihacmonohjmaaa
open Go.RowKit

/-- What Decode returns. -/
def DecOut7 (l : Bool) (zs : List Int) (w : World) (e : Ending) (w' : World) : Prop := e = .returned (.tuple #[(S7.decT l zs).val, .int .i64 (S7.decE l zs)]) ∧ Below w.heap.size w w'
theorem dec_out7 {l : Bool} {zs : List Int} {w w' : World} {t : S7.Au} {x : Int} (h : S7.decE l zs = x ∧ S7.decT l zs = t) (hb : Below w.heap.size w w') : DecOut7 l zs w (.returned (.tuple #[t.val, .int .i64 x])) w' := ⟨by rw [h.1, h.2], hb⟩
theorem str_inj7 {xs ys : List Int} (hx : ∀ n ∈ xs, 0 ≤ n ∧ n ≤ 255) (hy : ∀ n ∈ ys, 0 ≤ n ∧ n ≤ 255) (h : (strOfNums xs).toList = (strOfNums ys).toList) : xs = ys := by
  refine strOfNums_inj hx hy ?_
  rw [ByteArray.toList_eq, ByteArray.toList_eq] at h
  exact ByteArray.ext (Array.ext' h)
def zeroA : List Value := [.string ⟨#[]⟩, .string ⟨#[]⟩, .string ⟨#[]⟩, .int .i64 0, .int .i64 0, .int .i64 0]
theorem parse_fit7 {zs : List Int} (hz : ∀ z ∈ zs, 0 ≤ z ∧ z ≤ 255) (l : Bool) : (S7.parse l zs).Fit := by
  have g : ∀ a k l, k ≤ 4 → -9223372036854775808 ≤ S5.getV zs a k l ∧ S5.getV zs a k l ≤ 9223372036854775807 := fun a k l hk => by have := getV_range hz a k l hk; omega
  exact ⟨txS_size _ _, txS_size _ _, txS_size _ _, g _ _ _ (by decide), g _ _ _ (by decide), g _ _ _ (by decide)⟩

set_option maxRecDepth 100000 in
set_option maxHeartbeats 3200000 in
theorem r7decode_any (l : Bool) (A : Option Addr) (n cap : Nat) (zs : List Int) (w : World) (h : Sl w A n cap zs) (hn : n ≤ 100000) : Calls Try.prog 17 #[.slice A n cap, .bool l] w (DecOut7 l zs w) := by
  have hrg := Lib.hid h.range
  have HF := Lib.hid (parse_fit7 h.range l)
  obtain ⟨P, hP⟩ : ∃ P, P = S7.parse l zs := ⟨_, rfl⟩
  have EC := Lib.hid (fun W => r7encode_any l P (by rw [hP]; exact HF.out) W)
  unfold S7.Au.val S7.Au.cells at EC
  have ga : P.a = strOfNums (S5.txS zs (S7.s1 zs).at') := by rw [hP]; rfl
  have gb : P.b = strOfNums (S5.txS zs (S7.s2 zs).at') := by rw [hP]; rfl
  have gc : P.c = strOfNums (S5.txS zs (S7.s3 zs).at') := by rw [hP]; rfl
  have gck : P.ck = S5.getV zs (S7.s4 zs).at' 4 l := by rw [hP]; rfl
  have gti : P.ti = S5.getV zs (S7.s5 zs).at' 1 false := by rw [hP]; rfl
  have gtm : P.tm = S5.getV zs (S7.s6 zs).at' 4 l := by rw [hP]; rfl
  obtain ⟨T1, hT1⟩ : ∃ T, T = S7.s1 zs := ⟨_, rfl⟩
  obtain ⟨T2, hT2⟩ : ∃ T, T = S7.s2 zs := ⟨_, rfl⟩
  obtain ⟨T3, hT3⟩ : ∃ T, T = S7.s3 zs := ⟨_, rfl⟩
  obtain ⟨T4, hT4⟩ : ∃ T, T = S7.s4 zs := ⟨_, rfl⟩
  obtain ⟨T5, hT5⟩ : ∃ T, T = S7.s5 zs := ⟨_, rfl⟩
  obtain ⟨T6, hT6⟩ : ∃ T, T = S7.s6 zs := ⟨_, rfl⟩
  obtain ⟨T7, hT7⟩ : ∃ T, T = S7.s7 zs := ⟨_, rfl⟩
  have m1 : T1 = (S5.St.mk 0 false).move (S5.getN zs 0 1) (S5.getE zs 0 1) := by rw [hT1]; rfl
  have m2 : T2 = T1.move (S5.txN zs T1.at') (S5.txE zs T1.at') := by rw [hT2, hT1]; rfl
  have m3 : T3 = T2.move (S5.txN zs T2.at') (S5.txE zs T2.at') := by rw [hT3, hT2]; rfl
  have m4 : T4 = T3.move (S5.txN zs T3.at') (S5.txE zs T3.at') := by rw [hT4, hT3]; rfl
  have m5 : T5 = T4.move (S5.getN zs T4.at' 4) (S5.getE zs T4.at' 4) := by rw [hT5, hT4]; rfl
  have m6 : T6 = T5.move (S5.getN zs T5.at' 1) (S5.getE zs T5.at' 1) := by rw [hT6, hT5]; rfl
  have m7 : T7 = T6.move (S5.getN zs T6.at' 4) (S5.getE zs T6.at' 4) := by rw [hT7, hT6]; rfl
  rw [← hT1] at ga
  rw [← hT2] at gb
  rw [← hT3] at gc
  rw [← hT4] at gck
  rw [← hT5] at gti
  rw [← hT6] at gtm
  have HB := Lib.hid (fun hb => S7.dec_bad (l := l) (zs := zs) hb)
  have HI := Lib.hid (fun (c : S7.chkE P = 0) (e : S7.enc l P = zs) => S7.dec_yes (l := l) (zs := zs) (t := P) ⟨c, e⟩)
  rw [← hT7, ← hP] at HB
  rw [← hP] at HF
  clear hT1
  clear hT2
  clear hT3
  clear hT4
  clear hT5
  clear hT6
  clear hT7
  clear hP
  replace m1 := Lib.hid m1
  replace m2 := Lib.hid m2
  replace m3 := Lib.hid m3
  replace m4 := Lib.hid m4
  replace m5 := Lib.hid m5
  replace m6 := Lib.hid m6
  replace m7 := Lib.hid m7
  replace ga := Lib.hid ga
  replace gb := Lib.hid gb
  replace gc := Lib.hid gc
  replace gck := Lib.hid gck
  replace gti := Lib.hid gti
  replace gtm := Lib.hid gtm
  have hk := Lib.hid h
  have HW : Below w.heap.size w ((w.alloc (.cells #[.string ⟨#[]⟩, .string ⟨#[]⟩, .string ⟨#[]⟩, .int .i64 0, .int .i64 0, .int .i64 0] 25)).alloc (.cells #[.slice A n cap, .int .i64 0, .bool l, .bool false] 70)) := ((Below.refl _ _).alloc (Nat.le_refl _) _).alloc (by simp) _
  have R1 : Rd ((w.alloc (.cells #[.string ⟨#[]⟩, .string ⟨#[]⟩, .string ⟨#[]⟩, .int .i64 0, .int .i64 0, .int .i64 0] 25)).alloc (.cells #[.slice A n cap, .int .i64 0, .bool l, .bool false] 70)) (w.heap.size + 1) A n cap l ⟨0, false⟩ := ⟨by simp [go_sem], by simp [go_sem], by simp [go_sem], by simp [go_sem], fun o => by simp [go_sem]⟩
  have X1 : BoxAt ((w.alloc (.cells #[.string ⟨#[]⟩, .string ⟨#[]⟩, .string ⟨#[]⟩, .int .i64 0, .int .i64 0, .int .i64 0] 25)).alloc (.cells #[.slice A n cap, .int .i64 0, .bool l, .bool false] 70)) w.heap.size zeroA := (BoxAt.new w zeroA 25).grown (World.grownBy_alloc _ _ none) (by simp)
  replace HW := Lib.hid HW
  replace R1 := Lib.hid R1
  replace X1 := Lib.hid X1
  go_enter Try.func17, Try.ntmps17
  go_wp2_with (fail)
  generalize ((w.alloc (.cells #[.string ⟨#[]⟩, .string ⟨#[]⟩, .string ⟨#[]⟩, .int .i64 0, .int .i64 0, .int .i64 0] 25)).alloc (.cells #[.slice A n cap, .int .i64 0, .bool l, .bool false] 70)) = W1 at HW R1 X1 ⊢
  refine (roctet_any (w.heap.size + 1) _ n cap l ⟨0, false⟩ zs W1 R1.out (hk.out.keep HW.out) hn).mono ?_
  rintro e W2 ⟨rfl, r2, g2⟩
  rw [← m1.out] at r2
  have hbb := Lib.hid (HW.out.grown g2 HW.out.size (fun k e => by cases e; omega))
  have x2 := Lib.hid (X1.out.grown g2 (by simp))
  replace r2 := Lib.hid r2
  clear R1 HW X1 g2
  go_wp2_with (fail)
  have PR := rprincipal_any (w.heap.size + 1) A n cap l T1 T2 T3 T4 zs W2 r2.out (fun W hg => hk.out.keep (hbb.out.grown hg hbb.out.size (fun k e => by cases e; omega))) hn m2.out m3.out m4.out
  rw [← ga.out, ← gb.out, ← gc.out] at PR
  refine PR.mono ?_
  clear PR
  rintro e W3 ⟨rfl, r3, g3⟩
  have hb3 := hbb.out.grown g3 hbb.out.size (fun k e => by cases e; omega)
  have x3 := x2.out.grown g3 (by simp)
  have sz3 := hb3.size
  have rl3 := cell_lt r3.c0
  go_wp2_with (fail)
  obtain ⟨g, hg⟩ : ∃ g, g = W3.heap.size := ⟨_, rfl⟩
  have D4 : Dst w (W3.alloc (.cells #[.string P.a, .string P.b, .string P.c, .int .i64 0, .int .i64 0, .int .i64 0] 25)) w.heap.size (w.heap.size + 1) g A n cap l T4 zeroA [.string P.a, .string P.b, .string P.c, .int .i64 0, .int .i64 0, .int .i64 0] := by
    have ga := World.grownBy_alloc W3 (.cells #[.string P.a, .string P.b, .string P.c, .int .i64 0, .int .i64 0, .int .i64 0] 25) none
    have hn3 := BoxAt.new W3 [.string P.a, .string P.b, .string P.c, .int .i64 0, .int .i64 0, .int .i64 0] 25
    rw [← hg] at hn3
    exact ⟨hb3.alloc sz3 _, r3.grown ga (by simp), hn3, x3.grown ga (by simp), by omega, by omega, by omega, by omega, by have := x3.lt; omega⟩
  rw [← hg]
  clear hg hb3 x3 sz3 rl3 r3 g3 r2 x2 hbb
  generalize (W3.alloc (.cells #[.string P.a, .string P.b, .string P.c, .int .i64 0, .int .i64 0, .int .i64 0] 25)) = W4 at D4 ⊢
  refine (dnumber D4 (hk.out.keep D4.below) hn P.ck T5 gck.out m5.out).mono ?_
  clear D4
  rintro e W5 ⟨rfl, D5⟩
  have q0 := D5.tk.c 0 _ rfl
  have q1 := D5.tk.c 1 _ rfl
  have q2 := D5.tk.c 2 _ rfl
  have q3 := D5.tk.c 3 _ rfl
  have q4 := D5.tk.c 4 _ rfl
  have q5 := D5.tk.c 5 _ rfl
  have qf := D5.tk.fz
  have ql := D5.tk.lt
  go_wp2_with (fail)
  clear q0 q1 q2 q3 q4 q5 qf ql
  have D6 : Dst w (W5.setCell ⟨g, 3, none⟩ (.int .i64 P.ck)) w.heap.size (w.heap.size + 1) g A n cap l T5 zeroA [.string P.a, .string P.b, .string P.c, .int .i64 P.ck, .int .i64 0, .int .i64 0] := D5.set 3 (.int .i64 P.ck) (by simp)
  clear D5
  generalize (W5.setCell ⟨g, 3, none⟩ (.int .i64 P.ck)) = W6 at D6 ⊢
  refine (doctet D6 (hk.out.keep D6.below) hn P.ti T6 gti.out m6.out).mono ?_
  clear D6
  rintro e W7 ⟨rfl, D7⟩
  have q0 := D7.tk.c 0 _ rfl
  have q1 := D7.tk.c 1 _ rfl
  have q2 := D7.tk.c 2 _ rfl
  have q3 := D7.tk.c 3 _ rfl
  have q4 := D7.tk.c 4 _ rfl
  have q5 := D7.tk.c 5 _ rfl
  have qf := D7.tk.fz
  have ql := D7.tk.lt
  go_wp2_with (fail)
  clear q0 q1 q2 q3 q4 q5 qf ql
  have D8 : Dst w (W7.setCell ⟨g, 4, none⟩ (.int .i64 P.ti)) w.heap.size (w.heap.size + 1) g A n cap l T6 zeroA [.string P.a, .string P.b, .string P.c, .int .i64 P.ck, .int .i64 P.ti, .int .i64 0] := D7.set 4 (.int .i64 P.ti) (by simp)
  clear D7
  generalize (W7.setCell ⟨g, 4, none⟩ (.int .i64 P.ti)) = W8 at D8 ⊢
  refine (dnumber D8 (hk.out.keep D8.below) hn P.tm T7 gtm.out m7.out).mono ?_
  clear D8
  rintro e W9 ⟨rfl, D9⟩
  have q0 := D9.tk.c 0 _ rfl
  have q1 := D9.tk.c 1 _ rfl
  have q2 := D9.tk.c 2 _ rfl
  have q3 := D9.tk.c 3 _ rfl
  have q4 := D9.tk.c 4 _ rfl
  have q5 := D9.tk.c 5 _ rfl
  have qf := D9.tk.fz
  have ql := D9.tk.lt
  go_wp2_with (fail)
  clear q0 q1 q2 q3 q4 q5 qf ql
  have D17 : Dst w (W9.setCell ⟨g, 5, none⟩ (.int .i64 P.tm)) w.heap.size (w.heap.size + 1) g A n cap l T7 zeroA [.string P.a, .string P.b, .string P.c, .int .i64 P.ck, .int .i64 P.ti, .int .i64 P.tm] := D9.set 5 (.int .i64 P.tm) (by simp)
  clear D9
  generalize (W9.setCell ⟨g, 5, none⟩ (.int .i64 P.tm)) = W17 at D17 ⊢
  refine (EC.out _).mono ?_
  rintro e W18 ⟨A2, n2, c2, rfl, hs2, hb2, _⟩
  have D18 := D17.keep hb2
  clear D17 hb2
  have u1 := conv_sl hs2
  have u2 := conv_sl (hk.out.keep D18.below)
  have hrs := Lib.hid hs2.range
  have q0 := D18.tk.c 0 _ rfl
  have q1 := D18.tk.c 1 _ rfl
  have q2 := D18.tk.c 2 _ rfl
  have q3 := D18.tk.c 3 _ rfl
  have q4 := D18.tk.c 4 _ rfl
  have q5 := D18.tk.c 5 _ rfl
  have qf := D18.tk.fz
  have ql := D18.tk.lt
  have x0 := D18.res.c 0 _ rfl
  have x1 := D18.res.c 1 _ rfl
  have x2 := D18.res.c 2 _ rfl
  have x3 := D18.res.c 3 _ rfl
  have x4 := D18.res.c 4 _ rfl
  have x5 := D18.res.c 5 _ rfl
  have xf := D18.res.fz
  have xl := D18.res.lt
  have r3 := D18.rd.c3
  have rl := cell_lt r3
  have BD := Lib.hid D18.below
  have nRg := D18.Rg
  clear D18 hs2
  by_cases hb : T7.bad = true
  · have HX := Lib.hid (HB.out (.inl hb))
    rw [hb] at r3
    clear hb
    go_wp2_with (fail)
    refine bodyPost_ret (v := .tuple #[S7.Au.zero.val, .int .i64 100]) ?_ rfl ?_; (simp [results, Try.results17, go_sem, S7.Au.val, S7.Au.cells, S7.Au.zero, x0, x1, x2, x3, x4, x5]); exact dec_out7 HX.out (by repeat (first | (with_reducible exact BD.out) | refine Below.setCell ?_ (by simp) _))
  · have hb' : T7.bad = false := by simpa using hb
    rw [hb'] at r3
    clear hb hb'
    by_cases he : S7.chkE P = 0
    · have he2 : (S7.chkE P != 0) = false := by simpa using he
      by_cases hz : S7.encB l P = zs
      · have HX := Lib.hid (HI.out he (by rw [← hz]; unfold S7.encB; rw [if_pos he]))
        rw [hz] at u1
        clear hz he
        go_wp2_with (fail)
        refine bodyPost_ret (v := .tuple #[P.val, .int .i64 0]) ?_ rfl ?_; (simp [results, Try.results17, go_sem, S7.Au.val, S7.Au.cells, x0, x1, x2, x3, x4, x5]); exact dec_out7 HX.out (by repeat (first | (with_reducible exact BD.out) | refine Below.setCell ?_ (by simp) _))
      · have HX := Lib.hid (HB.out (.inr (.inr hz)))
        have hzz : ((strOfNums (S7.encB l P)).toList == (strOfNums zs).toList) = false := beq_eq_false_iff_ne.2 (fun e => hz (str_inj7 hrs.out hrg.out e))
        clear hz he
        go_wp2_with (fail)
        refine bodyPost_ret (v := .tuple #[S7.Au.zero.val, .int .i64 100]) ?_ rfl ?_; (simp [results, Try.results17, go_sem, S7.Au.val, S7.Au.cells, S7.Au.zero, x0, x1, x2, x3, x4, x5]); exact dec_out7 HX.out (by repeat (first | (with_reducible exact BD.out) | refine Below.setCell ?_ (by simp) _))
    · have HX := Lib.hid (HB.out (.inr (.inl he)))
      have he2 : (S7.chkE P != 0) = true := by simpa using he
      clear he
      go_wp2_with (fail)
      refine bodyPost_ret (v := .tuple #[S7.Au.zero.val, .int .i64 100]) ?_ rfl ?_; (simp [results, Try.results17, go_sem, S7.Au.val, S7.Au.cells, S7.Au.zero, x0, x1, x2, x3, x4, x5]); exact dec_out7 HX.out (by repeat (first | (with_reducible exact BD.out) | refine Below.setCell ?_ (by simp) _))

end Go.Proofs.Ytihacmonohjmaaa
