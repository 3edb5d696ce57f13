/-
  What read and Decode of package ticket return: what is read where a field cannot be read does not matter, for the encoding of what was read is compared.
-/
import Derived.Test.YtjkpbkbgbgckaaaGreatQTkCodeB
import Derived.Test.YtjkpbkbgbgckaaaGreatQFieldD
import Derived.Test.YtjkpbkbgbgckaaaGreatQFieldQ
import Derived.Test.YtjkpbkbgbgckaaaGreatQDst
import Derived.Test.YtjkpbkbgbgckaaaGreatQTkC
namespace Go.Proofs.YtjkpbkbgbgckaaaGreat
open Go.RowKit
set_option maxRecDepth 100000

namespace S6
def i1 (zs : List Int) : Int := S5.getN zs 0 1
def i2 (zs : List Int) : Int := S5.prN zs (i1 zs)
def i3 (zs : List Int) : Int := S5.getN zs (i2 zs) 4
def i4 (zs : List Int) : Int := S5.byN zs (i3 zs) 8
def i5 (zs : List Int) : Int := S5.getN zs (i4 zs) 1
def i6 (zs : List Int) : Int := S5.getN zs (i5 zs) 4
def i7 (zs : List Int) : Int := S5.txN zs (i6 zs)
/-- What is read, whether it can be read or not. -/
def tot (zs : List Int) : Tk :=
  ⟨pl zs, strOfNums (S5.prA zs (i1 zs)), strOfNums (S5.prB zs (i1 zs)), strOfNums (S5.prC zs (i1 zs)), S5.getV zs (i2 zs) 4 (pl zs), S3.readN (S5.byS zs (i3 zs) 8), S5.getV zs (i4 zs) 1 false, S5.getV zs (i5 zs) 4 (pl zs), strOfNums (S5.txS zs (i6 zs)), strOfNums (S5.txS zs (i7 zs))⟩

theorem tot_enc {t : Tk} (f : t.Fit) (h : chkE t = 0) (zs : List Int) (hz : zs = enc t) : tot zs = t := by
  have o := ok_of h
  have hvp : S1.vP t.a.data.toList t.b.data.toList t.c.data.toList = true := by
    have := (chk_zero h).1
    unfold nm at this
    simp only [Bool.and_eq_true] at this
    exact this.1.1
  have A0 : S5.AtF zs (raw t) 0 := by
    subst hz
    unfold enc S5.pad
    exact (S5.AtF.all _).left
  have hfl : 0 ≤ flag t.l ∧ flag t.l ≤ 255 := by unfold flag; split <;> omega
  obtain ⟨e1, v1, n1⟩ := A0.left.num1 hfl.1 hfl.2
  have hl : pl zs = t.l := by
    unfold pl; rw [v1]; unfold flag; cases t.l <;> rfl
  have A1 := A0.right
  have q1 : (0 : Int) + ((S5.num1 (flag t.l)).length : Int) = i1 zs := by unfold i1; rw [n1]; rfl
  rw [q1] at A1
  obtain ⟨e2, v2, n2⟩ := A1.left.text (S5.vName_ok o.a).1 (S5.vName_ok o.a).2
  have A2 := A1.right
  rw [show i1 zs + ((S5.text (nums t.a)).length : Int) = S5.txN zs (i1 zs) by rw [n2]; simp [S5.text]] at A2
  obtain ⟨e3, v3, n3⟩ := A2.left.text (S5.vInst_ok o.b).1 (S5.vInst_ok o.b).2
  have A3 := A2.right
  rw [show S5.txN zs (i1 zs) + ((S5.text (nums t.b)).length : Int) = S5.txN zs (S5.txN zs (i1 zs)) by rw [n3]; simp [S5.text]] at A3
  obtain ⟨e4, v4, n4⟩ := A3.left.text (S5.vRealm_ok o.c).1 (S5.vRealm_ok o.c).2
  have A4 := A3.right
  obtain ⟨_, p1, p2, p3, p4⟩ := S5.pr_ok e2 e3 e4 (by rw [v2, v3, v4]; unfold S5.vPr; rw [str_nums, str_nums, str_nums]; exact hvp)
  have q4 : S5.txN zs (S5.txN zs (i1 zs)) + ((S5.text (nums t.c)).length : Int) = i2 zs := by unfold i2; rw [p4, n4]; simp [S5.text]
  rw [q4] at A4
  obtain ⟨e5, v5, n5⟩ := A4.left.num4 o.ad.1 o.ad.2
  have A5 := A4.right
  have q5 : i2 zs + ((S5.num4 t.l t.ad).length : Int) = i3 zs := by unfold i3; rw [n5, S5.num4_len]; rfl
  rw [q5] at A5
  obtain ⟨e6, v6, n6⟩ := A5.left.bytes (n := 8) (by rw [S3.bytes8_len]; rfl)
  have A6 := A5.right
  have q6 : i3 zs + ((S3.bytes8 t.k).length : Int) = i4 zs := by unfold i4; rw [n6, S3.bytes8_len]; rfl
  rw [q6] at A6
  obtain ⟨e7, v7, n7⟩ := A6.left.num1 o.li.1 o.li.2
  have A7 := A6.right
  have q7 : i4 zs + ((S5.num1 t.li).length : Int) = i5 zs := by unfold i5; rw [n7]; rfl
  rw [q7] at A7
  obtain ⟨e8, v8, n8⟩ := A7.left.num4 o.is.1 o.is.2
  have A8 := A7.right
  have q8 : i5 zs + ((S5.num4 t.l t.is).length : Int) = i6 zs := by unfold i6; rw [n8, S5.num4_len]; rfl
  rw [q8] at A8
  obtain ⟨e9, v9, n9⟩ := A8.left.text (S5.vName_ok o.s).1 (S5.vName_ok o.s).2
  have A9 := A8.right
  have q9 : i6 zs + ((S5.text (nums t.s)).length : Int) = i7 zs := by unfold i7; rw [n9]; simp [S5.text]
  rw [q9] at A9
  obtain ⟨e10, v10, n10⟩ := A9.text (S5.vInst_ok o.i).1 (S5.vInst_ok o.i).2
  unfold tot
  rw [hl, p1, p2, p3, v2, v3, v4, v5, v6, v7, v8, v9, v10, (S3.read_bytes8 f.k.1 f.k.2).2, if_pos o.k.1]
  simp only [str_nums]
/-- By what was read. -/
theorem tot_bad {zs : List Int} (h : ¬ 1 < zs.getD 0 0) (hb : chkE (tot zs) ≠ 0 ∨ encB (tot zs) ≠ zs) : decE zs = 100 ∧ decT zs = Tk.zero := by
  refine dec_no h ?_
  rintro ⟨t, f, c, e⟩
  have g2 := tot_enc f c zs e.symm
  rcases hb with hb | hb
  · rw [g2] at hb; exact hb c
  · rw [g2] at hb; unfold encB at hb; rw [if_pos c] at hb; exact hb e
end S6

theorem prA_size (zs : List Int) (at' : Int) : (strOfNums (S5.prA zs at')).size ≤ maxLen := by
  unfold S5.prA
  split
  · exact txS_size _ _
  · rw [strOfNums_size]; decide
theorem prB_size (zs : List Int) (at' : Int) : (strOfNums (S5.prB zs at')).size ≤ maxLen := by
  unfold S5.prB
  split
  · exact txS_size _ _
  · rw [strOfNums_size]; decide
theorem prC_size (zs : List Int) (at' : Int) : (strOfNums (S5.prC zs at')).size ≤ maxLen := by
  unfold S5.prC
  split
  · exact txS_size _ _
  · rw [strOfNums_size]; decide
theorem tot_fit {zs : List Int} (hz : ∀ z ∈ zs, 0 ≤ z ∧ z ≤ 255) : (S6.tot zs).Fit := by
  have g : ∀ a k l, k ≤ 4 → -9223372036854775808 ≤ S5.getV zs a k l ∧ S5.getV zs a k l ≤ 9223372036854775807 := fun a k l hk => by have := getV_range hz a k l hk; omega
  exact ⟨prA_size _ _, prB_size _ _, prC_size _ _, txS_size _ _, txS_size _ _, g _ _ _ (by decide), readN_range (byS_range hz _ _), g _ _ _ (by decide), g _ _ _ (by decide)⟩

/-- What is built and what is returned, while it is built: w0 is the world ahead of the call. -/
structure Bld (w0 W : World) (R g : Nat) (rs cs : List Value) : Prop where
  below : Below w0.heap.size w0 W
  tk : BoxAt W g cs
  res : BoxAt W R rs
  hg : w0.heap.size ≤ g
  Rg : R ≠ g
theorem Bld.set {w0 W : World} {R g : Nat} {rs cs : List Value} (h : Bld w0 W R g rs cs) (i : Nat) (x : Value) (hi : i < cs.length) : Bld w0 (W.setCell ⟨g, i, none⟩ x) R g rs (cs.set i x) :=
  ⟨h.below.grown (grown_set W ⟨g, i, none⟩ x) h.below.size (fun k e => by cases e; exact h.hg), h.tk.set i x hi, h.res.grown (grown_set W ⟨g, i, none⟩ x) (by have := h.Rg; simpa using this), h.hg, h.Rg⟩
theorem Bld.keep {w0 W W' : World} {R g : Nat} {rs cs : List Value} (h : Bld w0 W R g rs cs) (hb : Below W.heap.size W W') : Bld w0 W' R g rs cs :=
  ⟨below_keep hb h.below, h.tk.keep hb, h.res.keep hb, h.hg, h.Rg⟩

theorem goctet {A : Option Addr} {n cap : Nat} {zs : List Int} {W : World} (hs : Sl W A n cap zs) (hn : n ≤ 100000) (at' v I : Int) (hv : v = S5.getV zs at' 1 false) (hI : I = S5.getN zs at' 1) : Calls Tryz.prog 72 #[.slice A n cap, .int .i64 at'] W fun e W' => ∃ x, e = .returned (.tuple #[.int .i64 v, .int .i64 I, .int .i64 x]) ∧ Below W.heap.size W W' := by
  subst hv hI
  exact (foctet_any A n cap zs at' W hs hn).mono fun _ _ ⟨he, hb⟩ => ⟨_, he, hb⟩

theorem gnumber {A : Option Addr} {n cap : Nat} {zs : List Int} {W : World} (hs : Sl W A n cap zs) (hn : n ≤ 100000) (at' : Int) (l : Bool) (v I : Int) (hv : v = S5.getV zs at' 4 l) (hI : I = S5.getN zs at' 4) : Calls Tryz.prog 74 #[.slice A n cap, .int .i64 at', .bool l] W fun e W' => ∃ x, e = .returned (.tuple #[.int .i64 v, .int .i64 I, .int .i64 x]) ∧ Below W.heap.size W W' := by
  subst hv hI
  exact (fnumber_any A n cap zs at' l W hs hn).mono fun _ _ ⟨he, hb⟩ => ⟨_, he, hb⟩

theorem gtext {A : Option Addr} {n cap : Nat} {zs : List Int} {W : World} (hs : Sl W A n cap zs) (hn : n ≤ 100000) (at' : Int) (v : ByteArray) (I : Int) (hv : v = strOfNums (S5.txS zs at')) (hI : I = S5.txN zs at') : Calls Tryz.prog 77 #[.slice A n cap, .int .i64 at'] W fun e W' => ∃ x, e = .returned (.tuple #[.string v, .int .i64 I, .int .i64 x]) ∧ Below W.heap.size W W' := by
  subst hv hI
  exact (ftext_any A n cap zs at' W hs hn).mono fun _ _ ⟨he, hb⟩ => ⟨_, he, hb⟩

theorem gprincipal {A : Option Addr} {n cap : Nat} {zs : List Int} {W : World} (hs : Sl W A n cap zs) (hn : n ≤ 100000) (at' : Int) (a b c : ByteArray) (I : Int) (ha : a = strOfNums (S5.prA zs at')) (hb : b = strOfNums (S5.prB zs at')) (hc : c = strOfNums (S5.prC zs at')) (hI : I = S5.prN zs at') : Calls Tryz.prog 73 #[.slice A n cap, .int .i64 at'] W fun e W' => ∃ x, e = .returned (.tuple #[.agg #[.string a, .string b, .string c], .int .i64 I, .int .i64 x]) ∧ Below W.heap.size W W' := by
  subst ha hb hc hI
  exact (fprincipal_any A n cap zs at' W hs hn).mono fun _ _ ⟨he, hb⟩ => ⟨_, he, hb⟩

theorem gbytes {A : Option Addr} {n cap : Nat} {zs : List Int} {W : World} (hs : Sl W A n cap zs) (hn : n ≤ 100000) (at' m : Int) (I : Int) (hI : I = S5.byN zs at' m) : Calls Tryz.prog 75 #[.slice A n cap, .int .i64 at', .int .i64 m] W fun e W' => ∃ A2 n2 c2 x, e = .returned (.tuple #[.slice A2 n2 c2, .int .i64 I, .int .i64 x]) ∧ Sl W' A2 n2 c2 (S5.byS zs at' m) ∧ Below W.heap.size W W' := by
  subst hI
  exact (fbytes_any A n cap zs at' m W hs hn).mono fun _ _ ⟨A2, n2, c2, he, h2, hb, _⟩ => ⟨A2, n2, c2, _, he, h2, hb⟩

set_option maxHeartbeats 3200000 in
theorem tread_any (A : Option Addr) (n cap : Nat) (zs : List Int) (w : World) (h : Sl w A n cap zs) (hn : n ≤ 100000) : Calls Tryz.prog 47 #[.slice A n cap] w fun e w' => e = .returned (S6.tot zs).val ∧ Below w.heap.size w w' := by
  obtain ⟨P, hP⟩ : ∃ P, P = S6.tot zs := ⟨_, rfl⟩
  have gl : P.l = (S5.getV zs 0 1 false == 1) := by rw [hP]; rfl
  have ga : P.a = strOfNums (S5.prA zs (S6.i1 zs)) := by rw [hP]; rfl
  have gb : P.b = strOfNums (S5.prB zs (S6.i1 zs)) := by rw [hP]; rfl
  have gc : P.c = strOfNums (S5.prC zs (S6.i1 zs)) := by rw [hP]; rfl
  have gad : P.ad = S5.getV zs (S6.i2 zs) 4 P.l := by rw [hP]; rfl
  have gk : P.k = S3.readN (S5.byS zs (S6.i3 zs) 8) := by rw [hP]; rfl
  have gli : P.li = S5.getV zs (S6.i4 zs) 1 false := by rw [hP]; rfl
  have gis : P.is = S5.getV zs (S6.i5 zs) 4 P.l := by rw [hP]; rfl
  have gs : P.s = strOfNums (S5.txS zs (S6.i6 zs)) := by rw [hP]; rfl
  have gi : P.i = strOfNums (S5.txS zs (S6.i7 zs)) := by rw [hP]; rfl
  obtain ⟨I1, j1⟩ : ∃ I, I = S6.i1 zs := ⟨_, rfl⟩
  obtain ⟨I2, j2⟩ : ∃ I, I = S6.i2 zs := ⟨_, rfl⟩
  obtain ⟨I3, j3⟩ : ∃ I, I = S6.i3 zs := ⟨_, rfl⟩
  obtain ⟨I4, j4⟩ : ∃ I, I = S6.i4 zs := ⟨_, rfl⟩
  obtain ⟨I5, j5⟩ : ∃ I, I = S6.i5 zs := ⟨_, rfl⟩
  obtain ⟨I6, j6⟩ : ∃ I, I = S6.i6 zs := ⟨_, rfl⟩
  obtain ⟨I7, j7⟩ : ∃ I, I = S6.i7 zs := ⟨_, rfl⟩
  have m1 : I1 = S5.getN zs 0 1 := by rw [j1]; rfl
  have m2 : I2 = S5.prN zs I1 := by rw [j2, j1]; rfl
  have m3 : I3 = S5.getN zs I2 4 := by rw [j3, j2]; rfl
  have m4 : I4 = S5.byN zs I3 8 := by rw [j4, j3]; rfl
  have m5 : I5 = S5.getN zs I4 1 := by rw [j5, j4]; rfl
  have m6 : I6 = S5.getN zs I5 4 := by rw [j6, j5]; rfl
  have m7 : I7 = S5.txN zs I6 := by rw [j7, j6]; rfl
  rw [← j1] at ga
  rw [← j1] at gb
  rw [← j1] at gc
  rw [← j2] at gad
  rw [← j3] at gk
  rw [← j4] at gli
  rw [← j5] at gis
  rw [← j6] at gs
  rw [← j7] at gi
  rw [← hP]
  clear hP j1 j2 j3 j4 j5 j6 j7
  replace m1 := Lib.hid m1
  replace m2 := Lib.hid m2
  replace m3 := Lib.hid m3
  replace m4 := Lib.hid m4
  replace m5 := Lib.hid m5
  replace m6 := Lib.hid m6
  replace m7 := Lib.hid m7
  replace gl := Lib.hid gl
  replace ga := Lib.hid ga
  replace gb := Lib.hid gb
  replace gc := Lib.hid gc
  replace gad := Lib.hid gad
  replace gk := Lib.hid gk
  replace gli := Lib.hid gli
  replace gis := Lib.hid gis
  replace gs := Lib.hid gs
  replace gi := Lib.hid gi
  have hk := Lib.hid h
  clear h
  have D1 : Bld w ((w.alloc (.cells #[.bool false, .string ⟨#[]⟩, .string ⟨#[]⟩, .string ⟨#[]⟩, .int .i64 0, .int .u64 0, .int .i64 0, .int .i64 0, .string ⟨#[]⟩, .string ⟨#[]⟩] 27)).alloc (.cells #[.bool false, .string ⟨#[]⟩, .string ⟨#[]⟩, .string ⟨#[]⟩, .int .i64 0, .int .u64 0, .int .i64 0, .int .i64 0, .string ⟨#[]⟩, .string ⟨#[]⟩] 27)) w.heap.size (w.heap.size + 1) zeroL zeroL := by
    have hn3 := BoxAt.new (w.alloc (.cells #[.bool false, .string ⟨#[]⟩, .string ⟨#[]⟩, .string ⟨#[]⟩, .int .i64 0, .int .u64 0, .int .i64 0, .int .i64 0, .string ⟨#[]⟩, .string ⟨#[]⟩] 27)) zeroL 27
    rw [show (w.alloc (.cells #[.bool false, .string ⟨#[]⟩, .string ⟨#[]⟩, .string ⟨#[]⟩, .int .i64 0, .int .u64 0, .int .i64 0, .int .i64 0, .string ⟨#[]⟩, .string ⟨#[]⟩] 27)).heap.size = w.heap.size + 1 by simp] at hn3
    exact ⟨((Below.refl _ _).alloc (Nat.le_refl _) _).alloc (by simp) _, hn3, (BoxAt.new w zeroL 27).grown (World.grownBy_alloc _ _ none) (by simp), by omega, by omega⟩
  obtain ⟨g, hg⟩ : ∃ g, g = w.heap.size + 1 := ⟨_, rfl⟩
  obtain ⟨W1, hW1⟩ : ∃ W1, W1 = ((w.alloc (.cells #[.bool false, .string ⟨#[]⟩, .string ⟨#[]⟩, .string ⟨#[]⟩, .int .i64 0, .int .u64 0, .int .i64 0, .int .i64 0, .string ⟨#[]⟩, .string ⟨#[]⟩] 27)).alloc (.cells #[.bool false, .string ⟨#[]⟩, .string ⟨#[]⟩, .string ⟨#[]⟩, .int .i64 0, .int .u64 0, .int .i64 0, .int .i64 0, .string ⟨#[]⟩, .string ⟨#[]⟩] 27)) := ⟨_, rfl⟩
  rw [← hW1, ← hg] at D1
  replace hW1 := Lib.hid hW1
  replace hg := Lib.hid hg
  have hnn := Lib.hid hn
  go_enter Tryz.func47, Tryz.ntmps47
  go_wp2_with (fail)
  rw [← hW1.out, ← hg.out]
  clear hW1 hg
  refine (goctet (hk.out.keep D1.below) hnn.out 0 _ I1 rfl m1.out).mono ?_
  rintro e W2 ⟨x2, rfl, hb2⟩
  have D2 := D1.keep hb2
  clear D1 hb2
  have q0 := D2.tk.c 0 _ rfl
  have q1 := D2.tk.c 1 _ rfl
  have q2 := D2.tk.c 2 _ rfl
  have q3 := D2.tk.c 3 _ rfl
  have q4 := D2.tk.c 4 _ rfl
  have q5 := D2.tk.c 5 _ rfl
  have q6 := D2.tk.c 6 _ rfl
  have q7 := D2.tk.c 7 _ rfl
  have q8 := D2.tk.c 8 _ rfl
  have q9 := D2.tk.c 9 _ rfl
  have qf := D2.tk.fz
  have ql := D2.tk.lt
  go_wp2_with (fail)
  rw [← gl.out]
  clear q0 q1 q2 q3 q4 q5 q6 q7 q8 q9 qf ql
  have D3 : Bld w (W2.setCell ⟨g, 0, none⟩ (.bool P.l)) w.heap.size g zeroL [.bool P.l, .string ⟨#[]⟩, .string ⟨#[]⟩, .string ⟨#[]⟩, .int .i64 0, .int .u64 0, .int .i64 0, .int .i64 0, .string ⟨#[]⟩, .string ⟨#[]⟩] := (D2.set 0 (.bool P.l) (by first | simp | simp [zeroL]))
  clear D2
  generalize (W2.setCell ⟨g, 0, none⟩ (.bool P.l)) = W3 at D3 ⊢
  refine (gprincipal (hk.out.keep D3.below) hnn.out I1 P.a P.b P.c I2 ga.out gb.out gc.out m2.out).mono ?_
  rintro e W4 ⟨x4, rfl, hb4⟩
  have D4 := D3.keep hb4
  clear D3 hb4
  have q0 := D4.tk.c 0 _ rfl
  have q1 := D4.tk.c 1 _ rfl
  have q2 := D4.tk.c 2 _ rfl
  have q3 := D4.tk.c 3 _ rfl
  have q4 := D4.tk.c 4 _ rfl
  have q5 := D4.tk.c 5 _ rfl
  have q6 := D4.tk.c 6 _ rfl
  have q7 := D4.tk.c 7 _ rfl
  have q8 := D4.tk.c 8 _ rfl
  have q9 := D4.tk.c 9 _ rfl
  have qf := D4.tk.fz
  have ql := D4.tk.lt
  go_wp2_with (fail)
  clear q0 q1 q2 q3 q4 q5 q6 q7 q8 q9 qf ql
  have D5 : Bld w (((W4.setCell ⟨g, 1, none⟩ (.string P.a)).setCell ⟨g, 2, none⟩ (.string P.b)).setCell ⟨g, 3, none⟩ (.string P.c)) w.heap.size g zeroL [.bool P.l, .string P.a, .string P.b, .string P.c, .int .i64 0, .int .u64 0, .int .i64 0, .int .i64 0, .string ⟨#[]⟩, .string ⟨#[]⟩] := (((D4.set 1 (.string P.a) (by first | simp | simp [zeroL])).set 2 (.string P.b) (by first | simp | simp [zeroL])).set 3 (.string P.c) (by first | simp | simp [zeroL]))
  clear D4
  generalize (((W4.setCell ⟨g, 1, none⟩ (.string P.a)).setCell ⟨g, 2, none⟩ (.string P.b)).setCell ⟨g, 3, none⟩ (.string P.c)) = W5 at D5 ⊢
  refine (gnumber (hk.out.keep D5.below) hnn.out I2 P.l P.ad I3 gad.out m3.out).mono ?_
  rintro e W6 ⟨x6, rfl, hb6⟩
  have D6 := D5.keep hb6
  clear D5 hb6
  have q0 := D6.tk.c 0 _ rfl
  have q1 := D6.tk.c 1 _ rfl
  have q2 := D6.tk.c 2 _ rfl
  have q3 := D6.tk.c 3 _ rfl
  have q4 := D6.tk.c 4 _ rfl
  have q5 := D6.tk.c 5 _ rfl
  have q6 := D6.tk.c 6 _ rfl
  have q7 := D6.tk.c 7 _ rfl
  have q8 := D6.tk.c 8 _ rfl
  have q9 := D6.tk.c 9 _ rfl
  have qf := D6.tk.fz
  have ql := D6.tk.lt
  go_wp2_with (fail)
  clear q0 q1 q2 q3 q4 q5 q6 q7 q8 q9 qf ql
  have D7 : Bld w (W6.setCell ⟨g, 4, none⟩ (.int .i64 P.ad)) w.heap.size g zeroL [.bool P.l, .string P.a, .string P.b, .string P.c, .int .i64 P.ad, .int .u64 0, .int .i64 0, .int .i64 0, .string ⟨#[]⟩, .string ⟨#[]⟩] := (D6.set 4 (.int .i64 P.ad) (by first | simp | simp [zeroL]))
  clear D6
  generalize (W6.setCell ⟨g, 4, none⟩ (.int .i64 P.ad)) = W7 at D7 ⊢
  refine (gbytes (hk.out.keep D7.below) hnn.out I3 8 I4 m4.out).mono ?_
  rintro e W8 ⟨A8, n8, c8, x8, rfl, hs8, hb8⟩
  have D8 := D7.keep hb8
  clear D7 hb8
  have hl8 := Lib.hid (show n8 ≤ maxLen from Nat.le_trans hs8.2.1 hs8.2.2.1)
  replace hs8 := Lib.hid hs8
  have q0 := D8.tk.c 0 _ rfl
  have q1 := D8.tk.c 1 _ rfl
  have q2 := D8.tk.c 2 _ rfl
  have q3 := D8.tk.c 3 _ rfl
  have q4 := D8.tk.c 4 _ rfl
  have q5 := D8.tk.c 5 _ rfl
  have q6 := D8.tk.c 6 _ rfl
  have q7 := D8.tk.c 7 _ rfl
  have q8 := D8.tk.c 8 _ rfl
  have q9 := D8.tk.c 9 _ rfl
  have qf := D8.tk.fz
  have ql := D8.tk.lt
  go_wp2_with (fail)
  refine (kread_any A8 n8 c8 _ _ hs8.out.row hl8.out).mono ?_
  rintro e W' ⟨rfl, rfl⟩
  go_wp2_with (fail)
  rw [← gk.out]
  clear q0 q1 q2 q3 q4 q5 q6 q7 q8 q9 qf ql
  clear hs8 hl8
  have D9 : Bld w (W8.setCell ⟨g, 5, none⟩ (.int .u64 P.k)) w.heap.size g zeroL [.bool P.l, .string P.a, .string P.b, .string P.c, .int .i64 P.ad, .int .u64 P.k, .int .i64 0, .int .i64 0, .string ⟨#[]⟩, .string ⟨#[]⟩] := (D8.set 5 (.int .u64 P.k) (by simp))
  clear D8
  generalize (W8.setCell ⟨g, 5, none⟩ (.int .u64 P.k)) = W9 at D9 ⊢
  refine (goctet (hk.out.keep D9.below) hnn.out I4 P.li I5 gli.out m5.out).mono ?_
  rintro e W10 ⟨x10, rfl, hb10⟩
  have D10 := D9.keep hb10
  clear D9 hb10
  have q0 := D10.tk.c 0 _ rfl
  have q1 := D10.tk.c 1 _ rfl
  have q2 := D10.tk.c 2 _ rfl
  have q3 := D10.tk.c 3 _ rfl
  have q4 := D10.tk.c 4 _ rfl
  have q5 := D10.tk.c 5 _ rfl
  have q6 := D10.tk.c 6 _ rfl
  have q7 := D10.tk.c 7 _ rfl
  have q8 := D10.tk.c 8 _ rfl
  have q9 := D10.tk.c 9 _ rfl
  have qf := D10.tk.fz
  have ql := D10.tk.lt
  go_wp2_with (fail)
  clear q0 q1 q2 q3 q4 q5 q6 q7 q8 q9 qf ql
  have D11 : Bld w (W10.setCell ⟨g, 6, none⟩ (.int .i64 P.li)) w.heap.size g zeroL [.bool P.l, .string P.a, .string P.b, .string P.c, .int .i64 P.ad, .int .u64 P.k, .int .i64 P.li, .int .i64 0, .string ⟨#[]⟩, .string ⟨#[]⟩] := (D10.set 6 (.int .i64 P.li) (by first | simp | simp [zeroL]))
  clear D10
  generalize (W10.setCell ⟨g, 6, none⟩ (.int .i64 P.li)) = W11 at D11 ⊢
  refine (gnumber (hk.out.keep D11.below) hnn.out I5 P.l P.is I6 gis.out m6.out).mono ?_
  rintro e W12 ⟨x12, rfl, hb12⟩
  have D12 := D11.keep hb12
  clear D11 hb12
  have q0 := D12.tk.c 0 _ rfl
  have q1 := D12.tk.c 1 _ rfl
  have q2 := D12.tk.c 2 _ rfl
  have q3 := D12.tk.c 3 _ rfl
  have q4 := D12.tk.c 4 _ rfl
  have q5 := D12.tk.c 5 _ rfl
  have q6 := D12.tk.c 6 _ rfl
  have q7 := D12.tk.c 7 _ rfl
  have q8 := D12.tk.c 8 _ rfl
  have q9 := D12.tk.c 9 _ rfl
  have qf := D12.tk.fz
  have ql := D12.tk.lt
  go_wp2_with (fail)
  clear q0 q1 q2 q3 q4 q5 q6 q7 q8 q9 qf ql
  have D13 : Bld w (W12.setCell ⟨g, 7, none⟩ (.int .i64 P.is)) w.heap.size g zeroL [.bool P.l, .string P.a, .string P.b, .string P.c, .int .i64 P.ad, .int .u64 P.k, .int .i64 P.li, .int .i64 P.is, .string ⟨#[]⟩, .string ⟨#[]⟩] := (D12.set 7 (.int .i64 P.is) (by first | simp | simp [zeroL]))
  clear D12
  generalize (W12.setCell ⟨g, 7, none⟩ (.int .i64 P.is)) = W13 at D13 ⊢
  refine (gtext (hk.out.keep D13.below) hnn.out I6 P.s I7 gs.out m7.out).mono ?_
  rintro e W14 ⟨x14, rfl, hb14⟩
  have D14 := D13.keep hb14
  clear D13 hb14
  have q0 := D14.tk.c 0 _ rfl
  have q1 := D14.tk.c 1 _ rfl
  have q2 := D14.tk.c 2 _ rfl
  have q3 := D14.tk.c 3 _ rfl
  have q4 := D14.tk.c 4 _ rfl
  have q5 := D14.tk.c 5 _ rfl
  have q6 := D14.tk.c 6 _ rfl
  have q7 := D14.tk.c 7 _ rfl
  have q8 := D14.tk.c 8 _ rfl
  have q9 := D14.tk.c 9 _ rfl
  have qf := D14.tk.fz
  have ql := D14.tk.lt
  go_wp2_with (fail)
  clear q0 q1 q2 q3 q4 q5 q6 q7 q8 q9 qf ql
  have D15 : Bld w (W14.setCell ⟨g, 8, none⟩ (.string P.s)) w.heap.size g zeroL [.bool P.l, .string P.a, .string P.b, .string P.c, .int .i64 P.ad, .int .u64 P.k, .int .i64 P.li, .int .i64 P.is, .string P.s, .string ⟨#[]⟩] := (D14.set 8 (.string P.s) (by first | simp | simp [zeroL]))
  clear D14
  generalize (W14.setCell ⟨g, 8, none⟩ (.string P.s)) = W15 at D15 ⊢
  refine (gtext (hk.out.keep D15.below) hnn.out I7 P.i _ gi.out rfl).mono ?_
  rintro e W16 ⟨x16, rfl, hb16⟩
  have D16 := D15.keep hb16
  clear D15 hb16
  have q0 := D16.tk.c 0 _ rfl
  have q1 := D16.tk.c 1 _ rfl
  have q2 := D16.tk.c 2 _ rfl
  have q3 := D16.tk.c 3 _ rfl
  have q4 := D16.tk.c 4 _ rfl
  have q5 := D16.tk.c 5 _ rfl
  have q6 := D16.tk.c 6 _ rfl
  have q7 := D16.tk.c 7 _ rfl
  have q8 := D16.tk.c 8 _ rfl
  have q9 := D16.tk.c 9 _ rfl
  have qf := D16.tk.fz
  have ql := D16.tk.lt
  have y0 := D16.res.c 0 _ rfl
  have y1 := D16.res.c 1 _ rfl
  have y2 := D16.res.c 2 _ rfl
  have y3 := D16.res.c 3 _ rfl
  have y4 := D16.res.c 4 _ rfl
  have y5 := D16.res.c 5 _ rfl
  have y6 := D16.res.c 6 _ rfl
  have y7 := D16.res.c 7 _ rfl
  have y8 := D16.res.c 8 _ rfl
  have y9 := D16.res.c 9 _ rfl
  have yf := D16.res.fz
  have yl := D16.res.lt
  have BD := Lib.hid D16.below
  have hgr := Lib.hid D16.hg
  have nRg := D16.Rg
  clear D16
  go_wp2_with (fail)
  refine bodyPost_ret (v := P.val) ?_ rfl ?_
  · simp [results, Tryz.results47, go_sem, S6.Tk.val, S6.Tk.cells, y0, y1, y2, y3, y4, y5, y6, y7, y8, y9]
  · refine ⟨rfl, ?_⟩
    repeat (first | (with_reducible exact BD.out) | refine Below.setCell ?_ (by first | exact hgr.out | simp) _)

theorem conv_slc {w : World} {A : Option Addr} {n cap : Nat} {zs : List Int} (h : Sl w A n cap zs) : (convert 28 9 (.slice A n cap)).run Tryz.prog w = .ok (.string (strOfNums zs)) w := conv_sl h
theorem bequal_any (A A2 : Option Addr) (n cap n2 cap2 : Nat) (xs ys : List Int) (w : World) (h : Sl w A n cap xs) (h2 : Sl w A2 n2 cap2 ys) : Calls Tryz.prog 48 #[.slice A n cap, .slice A2 n2 cap2] w fun e w' => e = .returned (.bool (decide (xs = ys))) ∧ w = w' := by
  have u1 := conv_sl h
  have u2 := conv_sl h2
  by_cases hz : xs = ys
  · have hq := Lib.hid (decide_eq_true hz)
    rw [hz] at u1
    clear hz h h2
    go_enter Tryz.func48, Tryz.ntmps48
    go_wp2_with (fail)
    go_ret
    exact ⟨ret_bool hq.out.symm, rfl⟩
  · have hq := Lib.hid (decide_eq_false hz)
    have hzz : ((strOfNums xs).toList == (strOfNums ys).toList) = false := beq_eq_false_iff_ne.2 (fun e => hz (str_inj h.range h2.range e))
    clear hz h h2
    go_enter Tryz.func48, Tryz.ntmps48
    go_wp2_with (fail)
    go_ret
    exact ⟨ret_bool hq.out.symm, rfl⟩

theorem tdecode_order (A : Option Addr) (n cap : Nat) (zs : List Int) (w : World) (h : Sl w A n cap zs) (h1 : 1 < zs.getD 0 0) : Calls Tryz.prog 23 #[.slice A n cap] w (DecOut zs w) := by
  have HD := Lib.hid (S6.dec_order h1)
  have hn : 0 < n := by
    rcases Nat.eq_zero_or_pos n with e | e
    · have : zs = [] := List.eq_nil_of_length_eq_zero (by rw [h.len]; exact e)
      subst this; simp at h1
    · exact e
  obtain ⟨b, off, z0, rfl, hz, _, _, d0⟩ := h.row.at hn
  rw [Nat.add_zero] at d0
  have hz1 : 1 < z0 := by rw [List.getD_eq_getElem?_getD, hz] at h1; exact h1
  have hlt := cell_lt d0
  have hn' : (0 : Int) < (n : Int) := by omega
  clear hz h1
  go_enter Tryz.func23, Tryz.ntmps23
  go_wp2_with (fail)
  refine bodyPost_ret (v := .tuple #[S6.Tk.zero.val, .int .i64 7]) (by simp [results, Tryz.results23, go_sem, S6.Tk.val, S6.Tk.cells, S6.Tk.zero]) rfl ⟨by rw [HD.out.1, HD.out.2], ?_⟩
  repeat (first | exact Below.refl _ _ | refine Below.setCell ?_ (by simp) _ | refine Below.alloc ?_ (by simp) _)

set_option maxHeartbeats 3200000 in
theorem tdecode_read (A : Option Addr) (n cap : Nat) (zs : List Int) (w : World) (h : Sl w A n cap zs) (hn : n ≤ 100000) (h1 : ¬ 1 < zs.getD 0 0) : Calls Tryz.prog 23 #[.slice A n cap] w (DecOut zs w) := by
  have HN := Lib.hid h1
  have HF := Lib.hid (tot_fit h.range)
  have RC := Lib.hid (fun W (hs : Sl W A n cap zs) => tread_any A n cap zs W hs hn)
  have HB := Lib.hid (fun hb => S6.tot_bad (zs := zs) HN.out hb)
  obtain ⟨P, hP⟩ : ∃ P, P = S6.tot zs := ⟨_, rfl⟩
  rw [← hP] at HF RC HB
  clear hP
  have EC := Lib.hid (fun W => tencode_any P HF.out W)
  have HI := Lib.hid (fun (c : S6.chkE P = 0) (e : S6.enc P = zs) => S6.dec_yes (zs := zs) (t := P) ⟨HF.out, c, e⟩)
  unfold S6.Tk.val S6.Tk.cells at EC RC
  have hk := Lib.hid h
  clear h1
  have hcase : n = 0 ∨ ∃ b off z0, A = some ⟨b, off, none⟩ ∧ z0 ≤ 1 ∧ w.cell? ⟨b, off, none⟩ = some (.int .u8 z0) ∧ 0 < n := by
    rcases Nat.eq_zero_or_pos n with e | e
    · exact .inl e
    · obtain ⟨b, off, z0, ha, hz, _, _, d0⟩ := hk.out.row.at e
      rw [Nat.add_zero] at d0
      refine .inr ⟨b, off, z0, ha, ?_, d0, e⟩
      have := HN.out
      rw [List.getD_eq_getElem?_getD, hz] at this
      simp at this; omega
  have B0 := Lib.hid (show Below w.heap.size w (w.alloc (.cells zeroL.toArray 27)) from (Below.refl _ _).alloc (Nat.le_refl _) _)
  have X0 := Lib.hid (BoxAt.new w zeroL 27)
  unfold zeroL at B0 X0
  clear h
  rcases hcase with e0 | ⟨b, off, z0, rfl, hz1, d0, e0⟩
  · subst e0
    go_enter Tryz.func23, Tryz.ntmps23
    go_wp2_with (fail)
    refine (RC.out _ (hk.out.keep B0.out)).mono ?_
    rintro e w1 ⟨rfl, hb1⟩
    have X1 := Lib.hid (X0.out.keep hb1)
    have B1 := Lib.hid (below_keep hb1 B0.out)
    clear hb1 B0 X0
    have hlt := X1.out.lt
    have hR := Lib.hid (show w.heap.size ≠ w1.heap.size by omega)
    go_wp2_with (fail)
    have T3 := Lib.hid (TkAt.new w1 P 27)
    have B3 := Lib.hid (B1.out.alloc B1.out.size (.cells P.cells 27))
    have X3 := Lib.hid (X1.out.grown (World.grownBy_alloc w1 (.cells P.cells 27) none) (by simp))
    unfold S6.Tk.cells at T3 B3 X3
    clear B1 X1
    refine (EC.out _).mono ?_
    rintro e w2 ⟨A2, n2, c2, rfl, hs2, hb2, _⟩
    have T4 := Lib.hid (T3.out.keep hb2)
    have X4 := X3.out.keep hb2
    have B4 := Lib.hid (below_keep hb2 B3.out)
    have EQ := bequal_any A2 A n2 c2 0 cap (S6.encB P) zs w2 hs2 (hk.out.keep B4.out)
    clear hb2 T3 B3 X3 hs2 hlt
    obtain ⟨q0, q1, q2, q3, q4, q5, q6, q7, q8, q9⟩ := T4.out
    have x0 := X4.c 0 _ rfl
    have x1 := X4.c 1 _ rfl
    have x2 := X4.c 2 _ rfl
    have x3 := X4.c 3 _ rfl
    have x4 := X4.c 4 _ rfl
    have x5 := X4.c 5 _ rfl
    have x6 := X4.c 6 _ rfl
    have x7 := X4.c 7 _ rfl
    have x8 := X4.c 8 _ rfl
    have x9 := X4.c 9 _ rfl
    have xf := X4.fz
    have xl := X4.lt
    clear X4 T4
    by_cases he : S6.chkE P = 0
    · have he2 : (S6.chkE P != 0) = false := by simpa using he
      by_cases hz : S6.encB P = zs
      · have HX := Lib.hid (HI.out he (by rw [← hz]; unfold S6.encB; rw [if_pos he]))
        rw [decide_eq_true hz] at EQ
        replace EQ := Lib.hid EQ
        clear hz he
        go_wp2_with (go_at_call 48; refine EQ.out.mono ?_; rintro e w' ⟨rfl, rfl⟩)
        refine bodyPost_ret (v := .tuple #[P.val, .int .i64 0]) ?_ rfl ?_
        · simp [results, Tryz.results23, go_sem, S6.Tk.val, S6.Tk.cells, x0, x1, x2, x3, x4, x5, x6, x7, x8, x9]
        · exact dec_out HX.out (by repeat (first | (with_reducible exact B4.out) | refine Below.setCell ?_ (by simp) _))
      · have HX := Lib.hid (HB.out (.inr hz))
        rw [decide_eq_false hz] at EQ
        replace EQ := Lib.hid EQ
        clear hz he
        go_wp2_with (go_at_call 48; refine EQ.out.mono ?_; rintro e w' ⟨rfl, rfl⟩)
        refine bodyPost_ret (v := .tuple #[S6.Tk.zero.val, .int .i64 100]) ?_ rfl ?_
        · simp [results, Tryz.results23, go_sem, S6.Tk.val, S6.Tk.cells, S6.Tk.zero, x0, x1, x2, x3, x4, x5, x6, x7, x8, x9]
        · exact dec_out HX.out (by repeat (first | (with_reducible exact B4.out) | refine Below.setCell ?_ (by simp) _))
    · have HX := Lib.hid (HB.out (.inl he))
      have he2 : (S6.chkE P != 0) = true := by simpa using he
      clear he EQ
      go_wp2_with (fail)
      refine bodyPost_ret (v := .tuple #[S6.Tk.zero.val, .int .i64 100]) ?_ rfl ?_
      · simp [results, Tryz.results23, go_sem, S6.Tk.val, S6.Tk.cells, S6.Tk.zero, x0, x1, x2, x3, x4, x5, x6, x7, x8, x9]
      · exact dec_out HX.out (by repeat (first | (with_reducible exact B4.out) | refine Below.setCell ?_ (by simp) _))
  · have hd := cell_lt d0
    go_enter Tryz.func23, Tryz.ntmps23
    go_wp2_with (fail)
    refine (RC.out _ (hk.out.keep B0.out)).mono ?_
    rintro e w1 ⟨rfl, hb1⟩
    have X1 := Lib.hid (X0.out.keep hb1)
    have B1 := Lib.hid (below_keep hb1 B0.out)
    clear hb1 B0 X0
    have hlt := X1.out.lt
    have hR := Lib.hid (show w.heap.size ≠ w1.heap.size by omega)
    go_wp2_with (fail)
    have T3 := Lib.hid (TkAt.new w1 P 27)
    have B3 := Lib.hid (B1.out.alloc B1.out.size (.cells P.cells 27))
    have X3 := Lib.hid (X1.out.grown (World.grownBy_alloc w1 (.cells P.cells 27) none) (by simp))
    unfold S6.Tk.cells at T3 B3 X3
    clear B1 X1
    refine (EC.out _).mono ?_
    rintro e w2 ⟨A2, n2, c2, rfl, hs2, hb2, _⟩
    have T4 := Lib.hid (T3.out.keep hb2)
    have X4 := X3.out.keep hb2
    have B4 := Lib.hid (below_keep hb2 B3.out)
    have EQ := bequal_any A2 (some ⟨b, off, none⟩) n2 c2 n cap (S6.encB P) zs w2 hs2 (hk.out.keep B4.out)
    clear hb2 T3 B3 X3 hs2 hlt
    obtain ⟨q0, q1, q2, q3, q4, q5, q6, q7, q8, q9⟩ := T4.out
    have x0 := X4.c 0 _ rfl
    have x1 := X4.c 1 _ rfl
    have x2 := X4.c 2 _ rfl
    have x3 := X4.c 3 _ rfl
    have x4 := X4.c 4 _ rfl
    have x5 := X4.c 5 _ rfl
    have x6 := X4.c 6 _ rfl
    have x7 := X4.c 7 _ rfl
    have x8 := X4.c 8 _ rfl
    have x9 := X4.c 9 _ rfl
    have xf := X4.fz
    have xl := X4.lt
    clear X4 T4
    by_cases he : S6.chkE P = 0
    · have he2 : (S6.chkE P != 0) = false := by simpa using he
      by_cases hz : S6.encB P = zs
      · have HX := Lib.hid (HI.out he (by rw [← hz]; unfold S6.encB; rw [if_pos he]))
        rw [decide_eq_true hz] at EQ
        replace EQ := Lib.hid EQ
        clear hz he
        go_wp2_with (go_at_call 48; refine EQ.out.mono ?_; rintro e w' ⟨rfl, rfl⟩)
        refine bodyPost_ret (v := .tuple #[P.val, .int .i64 0]) ?_ rfl ?_
        · simp [results, Tryz.results23, go_sem, S6.Tk.val, S6.Tk.cells, x0, x1, x2, x3, x4, x5, x6, x7, x8, x9]
        · exact dec_out HX.out (by repeat (first | (with_reducible exact B4.out) | refine Below.setCell ?_ (by simp) _))
      · have HX := Lib.hid (HB.out (.inr hz))
        rw [decide_eq_false hz] at EQ
        replace EQ := Lib.hid EQ
        clear hz he
        go_wp2_with (go_at_call 48; refine EQ.out.mono ?_; rintro e w' ⟨rfl, rfl⟩)
        refine bodyPost_ret (v := .tuple #[S6.Tk.zero.val, .int .i64 100]) ?_ rfl ?_
        · simp [results, Tryz.results23, go_sem, S6.Tk.val, S6.Tk.cells, S6.Tk.zero, x0, x1, x2, x3, x4, x5, x6, x7, x8, x9]
        · exact dec_out HX.out (by repeat (first | (with_reducible exact B4.out) | refine Below.setCell ?_ (by simp) _))
    · have HX := Lib.hid (HB.out (.inl he))
      have he2 : (S6.chkE P != 0) = true := by simpa using he
      clear he EQ
      go_wp2_with (fail)
      refine bodyPost_ret (v := .tuple #[S6.Tk.zero.val, .int .i64 100]) ?_ rfl ?_
      · simp [results, Tryz.results23, go_sem, S6.Tk.val, S6.Tk.cells, S6.Tk.zero, x0, x1, x2, x3, x4, x5, x6, x7, x8, x9]
      · exact dec_out HX.out (by repeat (first | (with_reducible exact B4.out) | refine Below.setCell ?_ (by simp) _))

theorem tdecode_any (A : Option Addr) (n cap : Nat) (zs : List Int) (w : World) (h : Sl w A n cap zs) (hn : n ≤ 100000) : Calls Tryz.prog 23 #[.slice A n cap] w (DecOut zs w) := by
  by_cases h1 : 1 < zs.getD 0 0
  · exact tdecode_order A n cap zs w h h1
  · exact tdecode_read A n cap zs w h hn h1

end Go.Proofs.YtjkpbkbgbgckaaaGreat
