/-
  What read and Decode of package authenticator return: what is read where a field cannot be read does not matter, for the encoding of what was read is compared.
-/
import Derived.Test.YtihacmonohjmaaaQAuCodeA
import Derived.Test.YtihacmonohjmaaaQCodeG
import Derived.Test.YtihacmonohjmaaaQAuC
namespace Go.Proofs.Ytihacmonohjmaaa
open Go.RowKit
set_option maxRecDepth 100000

namespace S7
def i2 (zs : List Int) : Int := S5.prN zs 1
def i3 (zs : List Int) : Int := S5.getN zs (i2 zs) 4
def i4 (zs : List Int) : Int := S5.getN zs (i3 zs) 1
/-- What is read, whether it can be read or not. -/
def tot (l : Bool) (zs : List Int) : Au :=
  ⟨strOfNums (S5.prA zs 1), strOfNums (S5.prB zs 1), strOfNums (S5.prC zs 1), S5.getV zs (i2 zs) 4 l, S5.getV zs (i3 zs) 1 false, S5.getV zs (i4 zs) 4 l⟩

theorem tot_enc {l : Bool} {t : Au} (h : chkE t = 0) (zs : List Int) (hz : zs = enc l t) : tot l zs = t := by
  have o := ok_of h
  have hvp : S1.vP t.a.data.toList t.b.data.toList t.c.data.toList = true := by
    rcases e : nm t
    · rw [chk_nm e] at h; omega
    · exact e
  have A0 : S5.AtF zs (raw l t) 0 := by
    subst hz
    unfold enc S5.pad
    exact (S5.AtF.all _).left
  have A1 := A0.right
  rw [show (0 : Int) + ((S5.num1 (flag l)).length : Int) = 1 by simp [S5.num1]] at A1
  obtain ⟨e2, v2, n2⟩ := A1.left.text (S5.vName_ok o.a).1 (S5.vName_ok o.a).2
  have A2 := A1.right
  rw [show (1 : Int) + ((S5.text (nums t.a)).length : Int) = S5.txN zs 1 by rw [n2]; simp [S5.text]] at A2
  obtain ⟨e3, v3, n3⟩ := A2.left.text (S5.vInst_ok o.b).1 (S5.vInst_ok o.b).2
  have A3 := A2.right
  rw [show S5.txN zs 1 + ((S5.text (nums t.b)).length : Int) = S5.txN zs (S5.txN zs 1) by rw [n3]; simp [S5.text]] at A3
  obtain ⟨e4, v4, n4⟩ := A3.left.text (S5.vRealm_ok o.c).1 (S5.vRealm_ok o.c).2
  have A4 := A3.right
  obtain ⟨_, p1, p2, p3, p4⟩ := S5.pr_ok e2 e3 e4 (by rw [v2, v3, v4]; unfold S5.vPr; rw [str_nums, str_nums, str_nums]; exact hvp)
  have q4 : S5.txN zs (S5.txN zs 1) + ((S5.text (nums t.c)).length : Int) = i2 zs := by unfold i2; rw [p4, n4]; simp [S5.text]
  rw [q4] at A4
  obtain ⟨e5, v5, n5⟩ := A4.left.num4 o.ck.1 o.ck.2
  have A5 := A4.right
  have q5 : i2 zs + ((S5.num4 l t.ck).length : Int) = i3 zs := by unfold i3; rw [n5, S5.num4_len]; rfl
  rw [q5] at A5
  obtain ⟨e6, v6, n6⟩ := A5.left.num1 o.ti.1 (by have := o.ti.2; omega)
  have A6 := A5.right
  have q6 : i3 zs + ((S5.num1 t.ti).length : Int) = i4 zs := by unfold i4; rw [n6]; rfl
  rw [q6] at A6
  obtain ⟨e7, v7, n7⟩ := A6.num4 o.tm.1 o.tm.2
  unfold tot
  rw [p1, p2, p3, v2, v3, v4, v5, v6, v7]
  simp only [str_nums]
/-- By what was read. -/
theorem tot_bad {l : Bool} {zs : List Int} (hb : chkE (tot l zs) ≠ 0 ∨ encB l (tot l zs) ≠ zs) : decE l zs = 100 ∧ decT l zs = Au.zero := by
  refine dec_no ?_
  rintro ⟨t, c, e⟩
  have g2 := tot_enc c zs e.symm
  rcases hb with hb | hb
  · rw [g2] at hb; exact hb c
  · rw [g2] at hb; unfold encB at hb; rw [if_pos c] at hb; exact hb e
end S7

theorem tot_fit7 {zs : List Int} (hz : ∀ z ∈ zs, 0 ≤ z ∧ z ≤ 255) (l : Bool) : (S7.tot l zs).Fit := by
  have g : ∀ a k l, k ≤ 4 → -9223372036854775808 ≤ S5.getV zs a k l ∧ S5.getV zs a k l ≤ 9223372036854775807 := fun a k l hk => by have := getV_range hz a k l hk; omega
  exact ⟨prA_size _ _, prB_size _ _, prC_size _ _, g _ _ _ (by decide), g _ _ _ (by decide), g _ _ _ (by decide)⟩

set_option maxHeartbeats 3200000 in
theorem aread_any (l : Bool) (A : Option Addr) (n cap : Nat) (zs : List Int) (w : World) (h : Sl w A n cap zs) (hn : n ≤ 100000) : Calls Try.prog 40 #[.slice A n cap, .bool l] w fun e w' => e = .returned (S7.tot l zs).val ∧ Below w.heap.size w w' := by
  obtain ⟨P, hP⟩ : ∃ P, P = S7.tot l zs := ⟨_, rfl⟩
  have ga : P.a = strOfNums (S5.prA zs 1) := by rw [hP]; rfl
  have gb : P.b = strOfNums (S5.prB zs 1) := by rw [hP]; rfl
  have gc : P.c = strOfNums (S5.prC zs 1) := by rw [hP]; rfl
  have gck : P.ck = S5.getV zs (S7.i2 zs) 4 l := by rw [hP]; rfl
  have gti : P.ti = S5.getV zs (S7.i3 zs) 1 false := by rw [hP]; rfl
  have gtm : P.tm = S5.getV zs (S7.i4 zs) 4 l := by rw [hP]; rfl
  obtain ⟨I2, j2⟩ : ∃ I, I = S7.i2 zs := ⟨_, rfl⟩
  obtain ⟨I3, j3⟩ : ∃ I, I = S7.i3 zs := ⟨_, rfl⟩
  obtain ⟨I4, j4⟩ : ∃ I, I = S7.i4 zs := ⟨_, rfl⟩
  have m2 : I2 = S5.prN zs 1 := by rw [j2]; rfl
  have m3 : I3 = S5.getN zs I2 4 := by rw [j3, j2]; rfl
  have m4 : I4 = S5.getN zs I3 1 := by rw [j4, j3]; rfl
  rw [← j2] at gck
  rw [← j3] at gti
  rw [← j4] at gtm
  rw [← hP]
  clear hP j2 j3 j4
  replace m2 := Lib.hid m2
  replace m3 := Lib.hid m3
  replace m4 := Lib.hid m4
  replace ga := Lib.hid ga
  replace gb := Lib.hid gb
  replace gc := Lib.hid gc
  replace gck := Lib.hid gck
  replace gti := Lib.hid gti
  replace gtm := Lib.hid gtm
  have hk := Lib.hid h
  clear h
  have D1 : Bld w ((w.alloc (.cells #[.string ⟨#[]⟩, .string ⟨#[]⟩, .string ⟨#[]⟩, .int .i64 0, .int .i64 0, .int .i64 0] 25)).alloc (.cells #[.string ⟨#[]⟩, .string ⟨#[]⟩, .string ⟨#[]⟩, .int .i64 0, .int .i64 0, .int .i64 0] 25)) w.heap.size (w.heap.size + 1) zeroA zeroA := by
    have hn3 := BoxAt.new (w.alloc (.cells #[.string ⟨#[]⟩, .string ⟨#[]⟩, .string ⟨#[]⟩, .int .i64 0, .int .i64 0, .int .i64 0] 25)) zeroA 25
    rw [show (w.alloc (.cells #[.string ⟨#[]⟩, .string ⟨#[]⟩, .string ⟨#[]⟩, .int .i64 0, .int .i64 0, .int .i64 0] 25)).heap.size = w.heap.size + 1 by simp] at hn3
    exact ⟨((Below.refl _ _).alloc (Nat.le_refl _) _).alloc (by simp) _, hn3, (BoxAt.new w zeroA 25).grown (World.grownBy_alloc _ _ none) (by simp), by omega, by omega⟩
  obtain ⟨g, hg⟩ : ∃ g, g = w.heap.size + 1 := ⟨_, rfl⟩
  obtain ⟨W1, hW1⟩ : ∃ W1, W1 = ((w.alloc (.cells #[.string ⟨#[]⟩, .string ⟨#[]⟩, .string ⟨#[]⟩, .int .i64 0, .int .i64 0, .int .i64 0] 25)).alloc (.cells #[.string ⟨#[]⟩, .string ⟨#[]⟩, .string ⟨#[]⟩, .int .i64 0, .int .i64 0, .int .i64 0] 25)) := ⟨_, rfl⟩
  rw [← hW1, ← hg] at D1
  replace hW1 := Lib.hid hW1
  replace hg := Lib.hid hg
  have hnn := Lib.hid hn
  go_enter Try.func40, Try.ntmps40
  go_wp2_with (fail)
  rw [← hW1.out, ← hg.out]
  clear hW1 hg
  refine (gprincipal (hk.out.keep D1.below) hnn.out 1 P.a P.b P.c I2 ga.out gb.out gc.out m2.out).mono ?_
  rintro e W2 ⟨x2, rfl, hb2⟩
  have D2 := D1.keep hb2
  clear D1 hb2
  have q0 := D2.tk.c 0 _ rfl
  have q1 := D2.tk.c 1 _ rfl
  have q2 := D2.tk.c 2 _ rfl
  have q3 := D2.tk.c 3 _ rfl
  have q4 := D2.tk.c 4 _ rfl
  have q5 := D2.tk.c 5 _ rfl
  have qf := D2.tk.fz
  have ql := D2.tk.lt
  go_wp2_with (fail)
  clear q0 q1 q2 q3 q4 q5 qf ql
  have D3 : Bld w (((W2.setCell ⟨g, 0, none⟩ (.string P.a)).setCell ⟨g, 1, none⟩ (.string P.b)).setCell ⟨g, 2, none⟩ (.string P.c)) w.heap.size g zeroA [.string P.a, .string P.b, .string P.c, .int .i64 0, .int .i64 0, .int .i64 0] := (((D2.set 0 (.string P.a) (by first | (simp; done) | simp [zeroA])).set 1 (.string P.b) (by first | (simp; done) | simp [zeroA])).set 2 (.string P.c) (by first | (simp; done) | simp [zeroA]))
  clear D2
  generalize (((W2.setCell ⟨g, 0, none⟩ (.string P.a)).setCell ⟨g, 1, none⟩ (.string P.b)).setCell ⟨g, 2, none⟩ (.string P.c)) = W3 at D3 ⊢
  refine (gnumber (hk.out.keep D3.below) hnn.out I2 l P.ck I3 gck.out m3.out).mono ?_
  rintro e W4 ⟨x4, rfl, hb4⟩
  have D4 := D3.keep hb4
  clear D3 hb4
  have q0 := D4.tk.c 0 _ rfl
  have q1 := D4.tk.c 1 _ rfl
  have q2 := D4.tk.c 2 _ rfl
  have q3 := D4.tk.c 3 _ rfl
  have q4 := D4.tk.c 4 _ rfl
  have q5 := D4.tk.c 5 _ rfl
  have qf := D4.tk.fz
  have ql := D4.tk.lt
  go_wp2_with (fail)
  clear q0 q1 q2 q3 q4 q5 qf ql
  have D5 : Bld w (W4.setCell ⟨g, 3, none⟩ (.int .i64 P.ck)) w.heap.size g zeroA [.string P.a, .string P.b, .string P.c, .int .i64 P.ck, .int .i64 0, .int .i64 0] := (D4.set 3 (.int .i64 P.ck) (by first | (simp; done) | simp [zeroA]))
  clear D4
  generalize (W4.setCell ⟨g, 3, none⟩ (.int .i64 P.ck)) = W5 at D5 ⊢
  refine (goctet (hk.out.keep D5.below) hnn.out I3 P.ti I4 gti.out m4.out).mono ?_
  rintro e W6 ⟨x6, rfl, hb6⟩
  have D6 := D5.keep hb6
  clear D5 hb6
  have q0 := D6.tk.c 0 _ rfl
  have q1 := D6.tk.c 1 _ rfl
  have q2 := D6.tk.c 2 _ rfl
  have q3 := D6.tk.c 3 _ rfl
  have q4 := D6.tk.c 4 _ rfl
  have q5 := D6.tk.c 5 _ rfl
  have qf := D6.tk.fz
  have ql := D6.tk.lt
  go_wp2_with (fail)
  clear q0 q1 q2 q3 q4 q5 qf ql
  have D7 : Bld w (W6.setCell ⟨g, 4, none⟩ (.int .i64 P.ti)) w.heap.size g zeroA [.string P.a, .string P.b, .string P.c, .int .i64 P.ck, .int .i64 P.ti, .int .i64 0] := (D6.set 4 (.int .i64 P.ti) (by first | (simp; done) | simp [zeroA]))
  clear D6
  generalize (W6.setCell ⟨g, 4, none⟩ (.int .i64 P.ti)) = W7 at D7 ⊢
  refine (gnumber (hk.out.keep D7.below) hnn.out I4 l P.tm _ gtm.out rfl).mono ?_
  rintro e W8 ⟨x8, rfl, hb8⟩
  have D8 := D7.keep hb8
  clear D7 hb8
  have q0 := D8.tk.c 0 _ rfl
  have q1 := D8.tk.c 1 _ rfl
  have q2 := D8.tk.c 2 _ rfl
  have q3 := D8.tk.c 3 _ rfl
  have q4 := D8.tk.c 4 _ rfl
  have q5 := D8.tk.c 5 _ rfl
  have qf := D8.tk.fz
  have ql := D8.tk.lt
  have y0 := D8.res.c 0 _ rfl
  have y1 := D8.res.c 1 _ rfl
  have y2 := D8.res.c 2 _ rfl
  have y3 := D8.res.c 3 _ rfl
  have y4 := D8.res.c 4 _ rfl
  have y5 := D8.res.c 5 _ rfl
  have yf := D8.res.fz
  have yl := D8.res.lt
  have BD := Lib.hid D8.below
  have hgr := Lib.hid D8.hg
  have nRg := D8.Rg
  clear D8
  go_wp2_with (fail)
  refine bodyPost_ret (v := P.val) ?_ rfl ?_
  · simp [results, Try.results40, go_sem, S7.Au.val, S7.Au.cells, y0, y1, y2, y3, y4, y5]
  · refine ⟨rfl, ?_⟩
    repeat (first | (with_reducible exact BD.out) | refine Below.setCell ?_ (by first | exact hgr.out | simp) _)

set_option maxHeartbeats 3200000 in
theorem adecode_any (l : Bool) (A : Option Addr) (n cap : Nat) (zs : List Int) (w : World) (h : Sl w A n cap zs) (hn : n ≤ 100000) : Calls Try.prog 15 #[.slice A n cap, .bool l] w (DecOut7 l zs w) := by
  have HF := Lib.hid (tot_fit7 h.range l)
  have RC := Lib.hid (fun W (hs : Sl W A n cap zs) => aread_any l A n cap zs W hs hn)
  have HB := Lib.hid (fun hb => S7.tot_bad (l := l) (zs := zs) hb)
  obtain ⟨P, hP⟩ : ∃ P, P = S7.tot l zs := ⟨_, rfl⟩
  rw [← hP] at HF RC HB
  clear hP
  have EC := Lib.hid (fun W => aencode_any l P HF.out W)
  have HI := Lib.hid (fun (c : S7.chkE P = 0) (e : S7.enc l P = zs) => S7.dec_yes (l := l) (zs := zs) (t := P) ⟨c, e⟩)
  unfold S7.Au.val S7.Au.cells at EC RC
  have hk := Lib.hid h
  have B0 := Lib.hid (show Below w.heap.size w (w.alloc (.cells zeroA.toArray 25)) from (Below.refl _ _).alloc (Nat.le_refl _) _)
  have X0 := Lib.hid (BoxAt.new w zeroA 25)
  unfold zeroA at B0 X0
  clear h
  go_enter Try.func15, Try.ntmps15
  go_wp2_with (fail)
  refine (RC.out _ (hk.out.keep B0.out)).mono ?_
  rintro e w1 ⟨rfl, hb1⟩
  have X1 := Lib.hid (X0.out.keep hb1)
  have B1 := Lib.hid (below_keep hb1 B0.out)
  clear hb1 B0 X0
  have hlt := X1.out.lt
  have hR := Lib.hid (show w.heap.size ≠ w1.heap.size by omega)
  go_wp2_with (fail)
  have T3 := Lib.hid (AuAt.new w1 P 25)
  have B3 := Lib.hid (B1.out.alloc B1.out.size (.cells P.cells 25))
  have X3 := Lib.hid (X1.out.grown (World.grownBy_alloc w1 (.cells P.cells 25) none) (by simp))
  unfold S7.Au.cells at T3 B3 X3
  clear B1 X1
  refine (EC.out _).mono ?_
  rintro e w2 ⟨A2, n2, c2, rfl, hs2, hb2, _⟩
  have T4 := Lib.hid (T3.out.keep hb2)
  have X4 := X3.out.keep hb2
  have B4 := Lib.hid (below_keep hb2 B3.out)
  have EQ := bequal_any A2 A n2 c2 n cap (S7.encB l P) zs w2 hs2 (hk.out.keep B4.out)
  clear hb2 T3 B3 X3 hs2 hlt
  obtain ⟨q0, q1, q2, q3, q4, q5⟩ := T4.out
  have x0 := X4.c 0 _ rfl
  have x1 := X4.c 1 _ rfl
  have x2 := X4.c 2 _ rfl
  have x3 := X4.c 3 _ rfl
  have x4 := X4.c 4 _ rfl
  have x5 := X4.c 5 _ rfl
  have xf := X4.fz
  have xl := X4.lt
  clear X4 T4
  by_cases he : S7.chkE P = 0
  · have he2 : (S7.chkE P != 0) = false := by simpa using he
    by_cases hz : S7.encB l P = zs
    · have HX := Lib.hid (HI.out he (by rw [← hz]; unfold S7.encB; rw [if_pos he]))
      rw [decide_eq_true hz] at EQ
      replace EQ := Lib.hid EQ
      clear hz he
      go_wp2_with (go_at_call 41; refine EQ.out.mono ?_; rintro e w' ⟨rfl, rfl⟩)
      refine bodyPost_ret (v := .tuple #[P.val, .int .i64 0]) ?_ rfl ?_
      · simp [results, Try.results15, go_sem, S7.Au.val, S7.Au.cells, x0, x1, x2, x3, x4, x5]
      · exact dec_out7 HX.out (by repeat (first | (with_reducible exact B4.out) | refine Below.setCell ?_ (by simp) _))
    · have HX := Lib.hid (HB.out (.inr hz))
      rw [decide_eq_false hz] at EQ
      replace EQ := Lib.hid EQ
      clear hz he
      go_wp2_with (go_at_call 41; refine EQ.out.mono ?_; rintro e w' ⟨rfl, rfl⟩)
      refine bodyPost_ret (v := .tuple #[S7.Au.zero.val, .int .i64 100]) ?_ rfl ?_
      · simp [results, Try.results15, go_sem, S7.Au.val, S7.Au.cells, S7.Au.zero, x0, x1, x2, x3, x4, x5]
      · exact dec_out7 HX.out (by repeat (first | (with_reducible exact B4.out) | refine Below.setCell ?_ (by simp) _))
  · have HX := Lib.hid (HB.out (.inl he))
    have he2 : (S7.chkE P != 0) = true := by simpa using he
    clear he EQ
    go_wp2_with (fail)
    refine bodyPost_ret (v := .tuple #[S7.Au.zero.val, .int .i64 100]) ?_ rfl ?_
    · simp [results, Try.results15, go_sem, S7.Au.val, S7.Au.cells, S7.Au.zero, x0, x1, x2, x3, x4, x5]
    · exact dec_out7 HX.out (by repeat (first | (with_reducible exact B4.out) | refine Below.setCell ?_ (by simp) _))

end Go.Proofs.Ytihacmonohjmaaa
