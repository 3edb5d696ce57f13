/-
  What the readers of package kdcmessage return, whether the fields can be read or not.
-/
import Derived.Test.YtkhkmgblgonfoaaQCodeG
import Derived.Test.YtkhkmgblgonfoaaQRqD
import Derived.Test.YtkhkmgblgonfoaaQKeyBytes
namespace Go.Proofs.Ytkhkmgblgonfoaa
open Go.RowKit
set_option maxRecDepth 100000

theorem getN_bounds (zs : List Int) (a : Int) (k : Nat) : 0 ≤ S5.getN zs a k ∧ S5.getN zs a k ≤ (zs.length : Int) := by
  unfold S5.getN
  split
  · rename_i h
    unfold S5.getE at h
    split at h
    · omega
    · split at h
      · omega
      · omega
  · omega

theorem gshort {A : Option Addr} {n cap : Nat} {zs : List Int} {W : World} (hs : Sl W A n cap zs) (hn : n ≤ 100000) (at' : Int) (l : Bool) (v I : Int) (hv : v = S5.getV zs at' 2 l) (hI : I = S5.getN zs at' 2) : Calls Try.prog 84 #[.slice A n cap, .int .i64 at', .bool l] W fun e W' => ∃ x, e = .returned (.tuple #[.int .i64 v, .int .i64 I, .int .i64 x]) ∧ Below W.heap.size W W' := by
  subst hv hI
  exact (fshort_any A n cap zs at' l W hs hn).mono fun _ _ ⟨he, hb⟩ => ⟨_, he, hb⟩

theorem gbytesF {A : Option Addr} {n cap : Nat} {zs : List Int} {W : World} (hs : Sl W A n cap zs) (hn : n ≤ 100000) (at' m : Int) (I : Int) (ys : List Int) (hy : ys = S5.byS zs at' m) (hI : I = S5.byN zs at' m) : Calls Try.prog 81 #[.slice A n cap, .int .i64 at', .int .i64 m] W fun e W' => ∃ A2 n2 c2 x, e = .returned (.tuple #[.slice A2 n2 c2, .int .i64 I, .int .i64 x]) ∧ Sl W' A2 n2 c2 ys ∧ Below W.heap.size W W' ∧ Fresh W.heap.size A2 := by
  subst hI hy
  exact (fbytes_any A n cap zs at' m W hs hn).mono fun _ _ ⟨A2, n2, c2, he, h2, hb, hf⟩ => ⟨A2, n2, c2, _, he, h2, hb, hf⟩

theorem gkread {A : Option Addr} {n cap : Nat} {zs : List Int} {W : World} (hs : Sl W A n cap zs) (v : Int) (hv : v = S3.readN zs) : Calls Try.prog 82 #[.slice A n cap] W fun e W' => ∃ b, e = .returned (.tuple #[.int .u64 v, .bool b]) ∧ W = W' := by
  subst hv
  exact (kread_any A n cap zs W hs.row hs.max).mono fun _ _ ⟨he, hb⟩ => ⟨_, he, hb⟩

theorem Fresh.ne {base : Nat} {A : Option Addr} (h : Fresh base A) {g : Nat} (hg : g < base) : ∀ b off, A = some ⟨b, off, none⟩ → b ≠ g := fun b off e => by have := h b off e; omega

namespace S9q
def at1 (_l : Bool) (zs : List Int) : Int := S5.prN zs 2
def at2 (l : Bool) (zs : List Int) : Int := S5.getN zs (at1 l zs) 4
def at3 (l : Bool) (zs : List Int) : Int := S5.getN zs (at2 l zs) 1
def at4 (l : Bool) (zs : List Int) : Int := S5.txN zs (at3 l zs)
/-- What is read, whether it can be read or not. -/
def tot (l : Bool) (zs : List Int) : Rq :=
  ⟨l, strOfNums (S5.prA zs 2), strOfNums (S5.prB zs 2), strOfNums (S5.prC zs 2), S5.getV zs (at1 l zs) 4 l, S5.getV zs (at2 l zs) 1 false, strOfNums (S5.txS zs (at3 l zs)), strOfNums (S5.txS zs (at4 l zs))⟩

theorem tot_enc {t : Rq} (_f : t.Fit) (h : chkE t = 0) (zs : List Int) (hz : zs = enc t) : tot t.l zs = t := by
  have o := ok_of h
  have hvp : S1.vP t.a.data.toList t.b.data.toList t.c.data.toList = true := by
    rcases e : S1.vP t.a.data.toList t.b.data.toList t.c.data.toList
    · exfalso
      have hq := chk_zero h
      simp [q0, e] at hq
    · rfl
  have A0 : S5.AtF zs (raw t) 0 := by
    subst hz
    unfold enc
    exact S5.AtF.all _
  unfold raw at A0
  have C := A0.right
  rw [show (0 : Int) + ((S8.put 1 t.l).length : Int) = 2 by simp [S8.put, S8.okK]] at C
  obtain ⟨ea, va, na⟩ := C.left.text (S5.vName_ok o.a).1 (S5.vName_ok o.a).2
  replace C := C.right
  rw [show 2 + ((S5.text (nums t.a)).length : Int) = S5.txN zs 2 by rw [na]; simp [S5.text]] at C
  obtain ⟨eb, vb, nb⟩ := C.left.text (S5.vInst_ok o.b).1 (S5.vInst_ok o.b).2
  replace C := C.right
  rw [show S5.txN zs 2 + ((S5.text (nums t.b)).length : Int) = S5.txN zs (S5.txN zs 2) by rw [nb]; simp [S5.text]] at C
  obtain ⟨ec, vc, nc⟩ := C.left.text (S5.vRealm_ok o.c).1 (S5.vRealm_ok o.c).2
  obtain ⟨_, p1, p2, p3, p4⟩ := S5.pr_ok ea eb ec (by rw [va, vb, vc]; unfold S5.vPr; rw [str_nums, str_nums, str_nums]; exact hvp)
  replace C := C.right
  rw [show S5.txN zs (S5.txN zs 2) + ((S5.text (nums t.c)).length : Int) = (at1 t.l zs) by unfold at1; rw [p4, nc]; simp [S5.text]] at C
  obtain ⟨e1, v1, n1⟩ := C.left.num4 (by have := o.tm; omega) (by have := o.tm; omega)
  have r1 : (at1 t.l zs) + ((S5.num4 t.l t.tm).length : Int) = (at2 t.l zs) := by unfold at2; rw [n1, S5.num4_len]; rfl
  replace C := C.right
  rw [r1] at C
  obtain ⟨e2, v2, n2⟩ := C.left.num1 (by have := o.li; omega) (by have := o.li; omega)
  have r2 : (at2 t.l zs) + ((S5.num1 t.li).length : Int) = (at3 t.l zs) := by unfold at3; rw [n2]; simp [S5.num1]
  replace C := C.right
  rw [r2] at C
  obtain ⟨e3, v3, n3⟩ := C.left.text (S5.vName_ok o.s).1 (S5.vName_ok o.s).2
  have r3 : (at3 t.l zs) + ((S5.text (nums t.s)).length : Int) = (at4 t.l zs) := by unfold at4; rw [n3]; simp [S5.text]
  replace C := C.right
  rw [r3] at C
  obtain ⟨e4, v4, n4⟩ := C.text (S5.vInst_ok o.i).1 (S5.vInst_ok o.i).2
  unfold tot
  rw [p1, p2, p3, va, vb, vc, v1, v2, v3, v4]
  simp only [str_nums]
/-- By what was read. -/
theorem tot_bad {zs : List Int} (h : S8.isE zs [1] = 0) (hb : chkE (tot (S8.isB zs [1]) zs) ≠ 0 ∨ encB (tot (S8.isB zs [1]) zs) ≠ zs) : decE zs = 100 ∧ decT zs = Rq.zero := by
  refine dec_no h ?_
  rintro ⟨t, f, c, e⟩
  have g1 := (is_enc t).2
  have g2 := tot_enc f c zs e.symm
  rw [e] at g1
  rw [g1] at hb
  rcases hb with hb | hb
  · rw [g2] at hb; exact hb c
  · rw [g2] at hb; unfold encB at hb; rw [if_pos c] at hb; exact hb e
end S9q

theorem krqtot_fit {zs : List Int} (hz : ∀ z ∈ zs, 0 ≤ z ∧ z ≤ 255) (l : Bool) : (S9q.tot l zs).Fit := by
  have g : ∀ a k l, k ≤ 4 → -9223372036854775808 ≤ S5.getV zs a k l ∧ S5.getV zs a k l ≤ 9223372036854775807 := fun a k l hk => by have := getV_range hz a k l hk; omega
  exact ⟨prA_size _ _, prB_size _ _, prC_size _ _, g _ _ _ (by decide), g _ _ _ (by decide), txS_size _ _, txS_size _ _⟩

set_option maxHeartbeats 6400000 in
theorem krqread_any (l : Bool) (A : Option Addr) (n cap : Nat) (zs : List Int) (w : World) (h : Sl w A n cap zs) (hn : n ≤ 100000) : Calls Try.prog 40 #[.slice A n cap, .bool l] w (fun e w' => e = .returned (S9q.tot l zs).val ∧ Below w.heap.size w w') := by
  have hfit := krqtot_fit h.range l
  obtain ⟨P, hP⟩ : ∃ P, P = S9q.tot l zs := ⟨_, rfl⟩
  rw [← hP] at hfit
  obtain ⟨I1, j1⟩ : ∃ I, I = S9q.at1 l zs := ⟨_, rfl⟩
  obtain ⟨I2, j2⟩ : ∃ I, I = S9q.at2 l zs := ⟨_, rfl⟩
  obtain ⟨I3, j3⟩ : ∃ I, I = S9q.at3 l zs := ⟨_, rfl⟩
  obtain ⟨I4, j4⟩ : ∃ I, I = S9q.at4 l zs := ⟨_, rfl⟩
  have m1 : I1 = S5.prN zs 2 := by rw [j1]; rfl
  have g_a : P.a = strOfNums (S5.prA zs 2) := by rw [hP]; rfl
  have g_b : P.b = strOfNums (S5.prB zs 2) := by rw [hP]; rfl
  have g_c : P.c = strOfNums (S5.prC zs 2) := by rw [hP]; rfl
  have m2 : I2 = S5.getN zs I1 4 := by rw [j2, j1]; rfl
  have g_tm : P.tm = S5.getV zs I1 4 l := by rw [hP, j1]; rfl
  have m3 : I3 = S5.getN zs I2 1 := by rw [j3, j2]; rfl
  have g_li : P.li = S5.getV zs I2 1 false := by rw [hP, j2]; rfl
  have m4 : I4 = S5.txN zs I3 := by rw [j4, j3]; rfl
  have g_s : P.s = strOfNums (S5.txS zs I3) := by rw [hP, j3]; rfl
  have g_i : P.i = strOfNums (S5.txS zs I4) := by rw [hP, j4]; rfl
  have g_l : P.l = l := by rw [hP]; rfl
  rw [← hP]
  clear hP j1 j2 j3 j4
  replace m1 := Lib.hid m1
  replace m2 := Lib.hid m2
  replace m3 := Lib.hid m3
  replace m4 := Lib.hid m4
  replace g_a := Lib.hid g_a
  replace g_b := Lib.hid g_b
  replace g_c := Lib.hid g_c
  replace g_tm := Lib.hid g_tm
  replace g_li := Lib.hid g_li
  replace g_s := Lib.hid g_s
  replace g_i := Lib.hid g_i
  obtain ⟨lo_tm, hi_tm⟩ := hfit.tm
  obtain ⟨lo_li, hi_li⟩ := hfit.li
  clear hfit
  have hk := Lib.hid h
  clear h
  have D : Bld w ((w.alloc (.cells #[.bool false, .string ⟨#[]⟩, .string ⟨#[]⟩, .string ⟨#[]⟩, .int .i64 0, .int .i64 0, .string ⟨#[]⟩, .string ⟨#[]⟩] 25)).alloc (.cells #[.bool l, .string ⟨#[]⟩, .string ⟨#[]⟩, .string ⟨#[]⟩, .int .i64 0, .int .i64 0, .string ⟨#[]⟩, .string ⟨#[]⟩] 25)) w.heap.size (w.heap.size + 1) zeroRq [.bool l, .string ⟨#[]⟩, .string ⟨#[]⟩, .string ⟨#[]⟩, .int .i64 0, .int .i64 0, .string ⟨#[]⟩, .string ⟨#[]⟩] := by
    have hn3 := BoxAt.new (w.alloc (.cells #[.bool false, .string ⟨#[]⟩, .string ⟨#[]⟩, .string ⟨#[]⟩, .int .i64 0, .int .i64 0, .string ⟨#[]⟩, .string ⟨#[]⟩] 25)) [.bool l, .string ⟨#[]⟩, .string ⟨#[]⟩, .string ⟨#[]⟩, .int .i64 0, .int .i64 0, .string ⟨#[]⟩, .string ⟨#[]⟩] 25
    rw [show (w.alloc (.cells #[.bool false, .string ⟨#[]⟩, .string ⟨#[]⟩, .string ⟨#[]⟩, .int .i64 0, .int .i64 0, .string ⟨#[]⟩, .string ⟨#[]⟩] 25)).heap.size = w.heap.size + 1 by simp] at hn3
    exact ⟨((Below.refl _ _).alloc (Nat.le_refl _) _).alloc (by simp) _, hn3, (BoxAt.new w zeroRq 25).grown (World.grownBy_alloc _ _ none) (by simp), by omega, by omega⟩
  obtain ⟨g, hg⟩ : ∃ g, g = w.heap.size + 1 := ⟨_, rfl⟩
  obtain ⟨W1, hW1⟩ : ∃ W1, W1 = ((w.alloc (.cells #[.bool false, .string ⟨#[]⟩, .string ⟨#[]⟩, .string ⟨#[]⟩, .int .i64 0, .int .i64 0, .string ⟨#[]⟩, .string ⟨#[]⟩] 25)).alloc (.cells #[.bool l, .string ⟨#[]⟩, .string ⟨#[]⟩, .string ⟨#[]⟩, .int .i64 0, .int .i64 0, .string ⟨#[]⟩, .string ⟨#[]⟩] 25)) := ⟨_, rfl⟩
  rw [← hW1, ← hg] at D
  replace hW1 := Lib.hid hW1
  replace hg := Lib.hid hg
  have hnn := Lib.hid hn
  go_enter Try.func40, Try.ntmps40
  go_wp2_with (fail)
  rw [← hW1.out, ← hg.out]
  clear hW1 hg
  refine (gprincipal (hk.out.keep D.below) hnn.out 2 P.a P.b P.c I1 g_a.out g_b.out g_c.out m1.out).mono ?_
  rintro e W2 ⟨x2, rfl, hb⟩
  replace D := D.keep hb
  clear hb
  have q0 := D.tk.c 0 _ rfl
  have q1 := D.tk.c 1 _ rfl
  have q2 := D.tk.c 2 _ rfl
  have q3 := D.tk.c 3 _ rfl
  have q4 := D.tk.c 4 _ rfl
  have q5 := D.tk.c 5 _ rfl
  have q6 := D.tk.c 6 _ rfl
  have q7 := D.tk.c 7 _ rfl
  have qf := D.tk.fz
  have ql := D.tk.lt
  go_wp2_with (fail)
  clear q0 q1 q2 q3 q4 q5 q6 q7 qf ql
  replace D : Bld w (((W2.setCell ⟨g, 1, none⟩ (.string P.a)).setCell ⟨g, 2, none⟩ (.string P.b)).setCell ⟨g, 3, none⟩ (.string P.c)) w.heap.size g zeroRq [.bool l, .string P.a, .string P.b, .string P.c, .int .i64 0, .int .i64 0, .string ⟨#[]⟩, .string ⟨#[]⟩] := (((D.set 1 (.string P.a) (by simp)).set 2 (.string P.b) (by simp)).set 3 (.string P.c) (by simp))
  generalize (((W2.setCell ⟨g, 1, none⟩ (.string P.a)).setCell ⟨g, 2, none⟩ (.string P.b)).setCell ⟨g, 3, none⟩ (.string P.c)) = V2 at D ⊢
  refine (gnumber (hk.out.keep D.below) hnn.out I1 l P.tm I2 g_tm.out m2.out).mono ?_
  rintro e W3 ⟨x3, rfl, hb⟩
  replace D := D.keep hb
  clear hb
  have q0 := D.tk.c 0 _ rfl
  have q1 := D.tk.c 1 _ rfl
  have q2 := D.tk.c 2 _ rfl
  have q3 := D.tk.c 3 _ rfl
  have q4 := D.tk.c 4 _ rfl
  have q5 := D.tk.c 5 _ rfl
  have q6 := D.tk.c 6 _ rfl
  have q7 := D.tk.c 7 _ rfl
  have qf := D.tk.fz
  have ql := D.tk.lt
  go_wp2_with (fail)
  clear q0 q1 q2 q3 q4 q5 q6 q7 qf ql
  replace D : Bld w (W3.setCell ⟨g, 4, none⟩ (.int .i64 P.tm)) w.heap.size g zeroRq [.bool l, .string P.a, .string P.b, .string P.c, .int .i64 P.tm, .int .i64 0, .string ⟨#[]⟩, .string ⟨#[]⟩] := (D.set 4 (.int .i64 P.tm) (by simp))
  generalize (W3.setCell ⟨g, 4, none⟩ (.int .i64 P.tm)) = V3 at D ⊢
  refine (goctet (hk.out.keep D.below) hnn.out I2 P.li I3 g_li.out m3.out).mono ?_
  rintro e W4 ⟨x4, rfl, hb⟩
  replace D := D.keep hb
  clear hb
  have q0 := D.tk.c 0 _ rfl
  have q1 := D.tk.c 1 _ rfl
  have q2 := D.tk.c 2 _ rfl
  have q3 := D.tk.c 3 _ rfl
  have q4 := D.tk.c 4 _ rfl
  have q5 := D.tk.c 5 _ rfl
  have q6 := D.tk.c 6 _ rfl
  have q7 := D.tk.c 7 _ rfl
  have qf := D.tk.fz
  have ql := D.tk.lt
  go_wp2_with (fail)
  clear q0 q1 q2 q3 q4 q5 q6 q7 qf ql
  replace D : Bld w (W4.setCell ⟨g, 5, none⟩ (.int .i64 P.li)) w.heap.size g zeroRq [.bool l, .string P.a, .string P.b, .string P.c, .int .i64 P.tm, .int .i64 P.li, .string ⟨#[]⟩, .string ⟨#[]⟩] := (D.set 5 (.int .i64 P.li) (by simp))
  generalize (W4.setCell ⟨g, 5, none⟩ (.int .i64 P.li)) = V4 at D ⊢
  refine (gtext (hk.out.keep D.below) hnn.out I3 P.s I4 g_s.out m4.out).mono ?_
  rintro e W5 ⟨x5, rfl, hb⟩
  replace D := D.keep hb
  clear hb
  have q0 := D.tk.c 0 _ rfl
  have q1 := D.tk.c 1 _ rfl
  have q2 := D.tk.c 2 _ rfl
  have q3 := D.tk.c 3 _ rfl
  have q4 := D.tk.c 4 _ rfl
  have q5 := D.tk.c 5 _ rfl
  have q6 := D.tk.c 6 _ rfl
  have q7 := D.tk.c 7 _ rfl
  have qf := D.tk.fz
  have ql := D.tk.lt
  go_wp2_with (fail)
  clear q0 q1 q2 q3 q4 q5 q6 q7 qf ql
  replace D : Bld w (W5.setCell ⟨g, 6, none⟩ (.string P.s)) w.heap.size g zeroRq [.bool l, .string P.a, .string P.b, .string P.c, .int .i64 P.tm, .int .i64 P.li, .string P.s, .string ⟨#[]⟩] := (D.set 6 (.string P.s) (by simp))
  generalize (W5.setCell ⟨g, 6, none⟩ (.string P.s)) = V5 at D ⊢
  refine (gtext (hk.out.keep D.below) hnn.out I4 P.i _ g_i.out rfl).mono ?_
  rintro e W6 ⟨x6, rfl, hb⟩
  replace D := D.keep hb
  clear hb
  have q0 := D.tk.c 0 _ rfl
  have q1 := D.tk.c 1 _ rfl
  have q2 := D.tk.c 2 _ rfl
  have q3 := D.tk.c 3 _ rfl
  have q4 := D.tk.c 4 _ rfl
  have q5 := D.tk.c 5 _ rfl
  have q6 := D.tk.c 6 _ rfl
  have q7 := D.tk.c 7 _ rfl
  have qf := D.tk.fz
  have ql := D.tk.lt
  have y0 := D.res.c 0 _ rfl
  have y1 := D.res.c 1 _ rfl
  have y2 := D.res.c 2 _ rfl
  have y3 := D.res.c 3 _ rfl
  have y4 := D.res.c 4 _ rfl
  have y5 := D.res.c 5 _ rfl
  have y6 := D.res.c 6 _ rfl
  have y7 := D.res.c 7 _ rfl
  have yf := D.res.fz
  have yl := D.res.lt
  have BD := Lib.hid D.below
  have hgr := Lib.hid D.hg
  have nRg := D.Rg
  clear D
  have HL := Lib.hid g_l
  clear g_l
  go_wp2_with (fail)
  refine bodyPost_ret (v := P.val) ?_ rfl ?_
  · have HL2 := HL.out; subst HL2; simp [results, Try.results40, go_sem, S9q.Rq.val, S9q.Rq.cells, y0, y1, y2, y3, y4, y5, y6, y7]
  · exact ⟨rfl, by repeat (first | (with_reducible exact BD.out) | refine Below.setCell ?_ (by first | exact hgr.out | simp) _)⟩

namespace S9p
def at1 (_l : Bool) (zs : List Int) : Int := S5.byN zs 1 8
def at2 (l : Bool) (zs : List Int) : Int := S5.prN zs (at1 l zs)
def at3 (l : Bool) (zs : List Int) : Int := S5.getN zs (at2 l zs) 1
def at4 (l : Bool) (zs : List Int) : Int := S5.getN zs (at3 l zs) 1
def at5 (l : Bool) (zs : List Int) : Int := S5.getN zs (at4 l zs) 1
def at6 (l : Bool) (zs : List Int) : Int := S5.byN zs (at5 l zs) (S5.getV zs (at4 l zs) 1 false)
/-- What is read, whether it can be read or not. -/
def tot (l : Bool) (zs : List Int) : Pt :=
  ⟨S3.readN (S5.byS zs 1 8), strOfNums (S5.prA zs (at1 l zs)), strOfNums (S5.prB zs (at1 l zs)), strOfNums (S5.prC zs (at1 l zs)), S5.getV zs (at2 l zs) 1 false, S5.getV zs (at3 l zs) 1 false, S5.byS zs (at5 l zs) (S5.getV zs (at4 l zs) 1 false), S5.getV zs (at6 l zs) 4 l⟩

theorem tot_enc {l : Bool} {t : Pt} (f : t.Fit) (h : chkE t = 0) (zs : List Int) (hz : zs = enc l t) : tot l zs = t := by
  have o := ok_of h
  have hvp : S1.vP t.a.data.toList t.b.data.toList t.c.data.toList = true := by
    rcases e : S1.vP t.a.data.toList t.b.data.toList t.c.data.toList
    · exfalso
      have hq := chk_zero h
      simp [q1, e] at hq
    · rfl
  have A0 : S5.AtF zs (raw l t) 0 := by
    subst hz
    unfold enc S5.pad
    exact (S5.AtF.all _).left
  unfold raw at A0
  have C := A0.right
  rw [show (0 : Int) + ((S5.num1 (flag l)).length : Int) = 1 by simp [S5.num1]] at C
  obtain ⟨e0, v0, n0⟩ := C.left.bytes (n := 8) (by rw [S3.bytes8_len]; rfl)
  have r0 : 1 + ((S3.bytes8 t.k).length : Int) = (at1 l zs) := by unfold at1; rw [n0]; simp [S3.bytes8_len]
  replace C := C.right
  rw [r0] at C
  obtain ⟨ea, va, na⟩ := C.left.text (S5.vName_ok o.a).1 (S5.vName_ok o.a).2
  replace C := C.right
  rw [show (at1 l zs) + ((S5.text (nums t.a)).length : Int) = S5.txN zs (at1 l zs) by rw [na]; simp [S5.text]] at C
  obtain ⟨eb, vb, nb⟩ := C.left.text (S5.vInst_ok o.b).1 (S5.vInst_ok o.b).2
  replace C := C.right
  rw [show S5.txN zs (at1 l zs) + ((S5.text (nums t.b)).length : Int) = S5.txN zs (S5.txN zs (at1 l zs)) by rw [nb]; simp [S5.text]] at C
  obtain ⟨ec, vc, nc⟩ := C.left.text (S5.vRealm_ok o.c).1 (S5.vRealm_ok o.c).2
  obtain ⟨_, p1, p2, p3, p4⟩ := S5.pr_ok ea eb ec (by rw [va, vb, vc]; unfold S5.vPr; rw [str_nums, str_nums, str_nums]; exact hvp)
  replace C := C.right
  rw [show S5.txN zs (S5.txN zs (at1 l zs)) + ((S5.text (nums t.c)).length : Int) = (at2 l zs) by unfold at2; rw [p4, nc]; simp [S5.text]] at C
  obtain ⟨e2, v2, n2⟩ := C.left.num1 (by have := o.li; omega) (by have := o.li; omega)
  have r2 : (at2 l zs) + ((S5.num1 t.li).length : Int) = (at3 l zs) := by unfold at3; rw [n2]; simp [S5.num1]
  replace C := C.right
  rw [r2] at C
  obtain ⟨e3, v3, n3⟩ := C.left.num1 (by have := o.kv; omega) (by have := o.kv; omega)
  have r3 : (at3 l zs) + ((S5.num1 t.kv).length : Int) = (at4 l zs) := by unfold at4; rw [n3]; simp [S5.num1]
  replace C := C.right
  rw [r3] at C
  obtain ⟨e4, v4, n4⟩ := C.left.num1 (by omega) (by have := o.z; omega)
  have r4 : (at4 l zs) + ((S5.num1 (t.z.length : Int)).length : Int) = (at5 l zs) := by unfold at5; rw [n4]; simp [S5.num1]
  replace C := C.right
  rw [r4] at C
  obtain ⟨e5, v5, n5⟩ := C.left.bytes (n := (t.z.length : Int)) rfl
  rw [← v4] at e5 v5 n5
  have r5 : (at5 l zs) + ((t.z).length : Int) = (at6 l zs) := by unfold at6; rw [n5, v4]
  replace C := C.right
  rw [r5] at C
  obtain ⟨e6, v6, n6⟩ := C.num4 (by have := o.tm; omega) (by have := o.tm; omega)
  unfold tot
  rw [v0, (S3.read_bytes8 f.k.1 f.k.2).2, if_pos o.k, p1, p2, p3, va, vb, vc, v2, v3, v5, v6]
  simp only [str_nums]
/-- By what was read. -/
theorem tot_bad {l : Bool} {zs : List Int} (hb : chkE (tot l zs) ≠ 0 ∨ encB l (tot l zs) ≠ zs) : decE l zs = 100 ∧ decT l zs = Pt.zero := by
  refine dec_no ?_
  rintro ⟨t, f, c, e⟩
  have g2 := tot_enc f c zs e.symm
  rcases hb with hb | hb
  · rw [g2] at hb; exact hb c
  · rw [g2] at hb; unfold encB at hb; rw [if_pos c] at hb; exact hb e
end S9p

theorem kpttot_fit {zs : List Int} (hz : ∀ z ∈ zs, 0 ≤ z ∧ z ≤ 255) (l : Bool) : (S9p.tot l zs).Fit := by
  have g : ∀ a k l, k ≤ 4 → -9223372036854775808 ≤ S5.getV zs a k l ∧ S5.getV zs a k l ≤ 9223372036854775807 := fun a k l hk => by have := getV_range hz a k l hk; omega
  exact ⟨readN_range (byS_range hz _ _), prA_size _ _, prB_size _ _, prC_size _ _, g _ _ _ (by decide), g _ _ _ (by decide), byS_range hz _ _, g _ _ _ (by decide)⟩

set_option maxHeartbeats 6400000 in
theorem kptread_any (l : Bool) (A : Option Addr) (n cap : Nat) (zs : List Int) (w : World) (h : Sl w A n cap zs) (hn : n ≤ 100000) : Calls Try.prog 51 #[.slice A n cap, .bool l] w (fun e w' => ∃ A2 n2 c2, e = .returned ((S9p.tot l zs).val A2 n2 c2) ∧ Sl w' A2 n2 c2 (S9p.tot l zs).z ∧ Below w.heap.size w w' ∧ Fresh w.heap.size A2) := by
  have hfit := kpttot_fit h.range l
  obtain ⟨P, hP⟩ : ∃ P, P = S9p.tot l zs := ⟨_, rfl⟩
  rw [← hP] at hfit
  obtain ⟨I1, j1⟩ : ∃ I, I = S9p.at1 l zs := ⟨_, rfl⟩
  obtain ⟨I2, j2⟩ : ∃ I, I = S9p.at2 l zs := ⟨_, rfl⟩
  obtain ⟨I3, j3⟩ : ∃ I, I = S9p.at3 l zs := ⟨_, rfl⟩
  obtain ⟨I4, j4⟩ : ∃ I, I = S9p.at4 l zs := ⟨_, rfl⟩
  obtain ⟨I5, j5⟩ : ∃ I, I = S9p.at5 l zs := ⟨_, rfl⟩
  obtain ⟨I6, j6⟩ : ∃ I, I = S9p.at6 l zs := ⟨_, rfl⟩
  have m1 : I1 = S5.byN zs 1 8 := by rw [j1]; rfl
  have g_k : P.k = S3.readN (S5.byS zs 1 8) := by rw [hP]; rfl
  have m2 : I2 = S5.prN zs I1 := by rw [j2, j1]; rfl
  have g_a : P.a = strOfNums (S5.prA zs I1) := by rw [hP, j1]; rfl
  have g_b : P.b = strOfNums (S5.prB zs I1) := by rw [hP, j1]; rfl
  have g_c : P.c = strOfNums (S5.prC zs I1) := by rw [hP, j1]; rfl
  have m3 : I3 = S5.getN zs I2 1 := by rw [j3, j2]; rfl
  have g_li : P.li = S5.getV zs I2 1 false := by rw [hP, j2]; rfl
  have m4 : I4 = S5.getN zs I3 1 := by rw [j4, j3]; rfl
  have g_kv : P.kv = S5.getV zs I3 1 false := by rw [hP, j3]; rfl
  obtain ⟨Ln, jl⟩ : ∃ x, x = (S5.getV zs I4 1 false) := ⟨_, rfl⟩
  have m5 : I5 = S5.getN zs I4 1 := by rw [j5, j4]; rfl
  have m6 : I6 = S5.byN zs I5 Ln := by rw [j6, jl, j4, j5]; rfl
  have g_z : P.z = S5.byS zs I5 Ln := by rw [hP, jl, j4, j5]; rfl
  have g_tm : P.tm = S5.getV zs I6 4 l := by rw [hP, j6]; rfl
  rw [← hP]
  clear hP j1 j2 j3 j4 j5 j6
  replace m1 := Lib.hid m1
  replace m2 := Lib.hid m2
  replace m3 := Lib.hid m3
  replace m4 := Lib.hid m4
  replace m5 := Lib.hid m5
  replace m6 := Lib.hid m6
  replace jl := Lib.hid jl
  replace g_k := Lib.hid g_k
  replace g_a := Lib.hid g_a
  replace g_b := Lib.hid g_b
  replace g_c := Lib.hid g_c
  replace g_li := Lib.hid g_li
  replace g_kv := Lib.hid g_kv
  replace g_z := Lib.hid g_z
  replace g_tm := Lib.hid g_tm
  obtain ⟨lo_li, hi_li⟩ := hfit.li
  obtain ⟨lo_kv, hi_kv⟩ := hfit.kv
  obtain ⟨lo_tm, hi_tm⟩ := hfit.tm
  clear hfit
  have hk := Lib.hid h
  clear h
  have D : Bld w ((w.alloc (.cells #[.int .u64 0, .string ⟨#[]⟩, .string ⟨#[]⟩, .string ⟨#[]⟩, .int .i64 0, .int .i64 0, .slice none 0 0, .int .i64 0] 40)).alloc (.cells #[.int .u64 0, .string ⟨#[]⟩, .string ⟨#[]⟩, .string ⟨#[]⟩, .int .i64 0, .int .i64 0, .slice none 0 0, .int .i64 0] 40)) w.heap.size (w.heap.size + 1) zeroPt [.int .u64 0, .string ⟨#[]⟩, .string ⟨#[]⟩, .string ⟨#[]⟩, .int .i64 0, .int .i64 0, .slice none 0 0, .int .i64 0] := by
    have hn3 := BoxAt.new (w.alloc (.cells #[.int .u64 0, .string ⟨#[]⟩, .string ⟨#[]⟩, .string ⟨#[]⟩, .int .i64 0, .int .i64 0, .slice none 0 0, .int .i64 0] 40)) [.int .u64 0, .string ⟨#[]⟩, .string ⟨#[]⟩, .string ⟨#[]⟩, .int .i64 0, .int .i64 0, .slice none 0 0, .int .i64 0] 40
    rw [show (w.alloc (.cells #[.int .u64 0, .string ⟨#[]⟩, .string ⟨#[]⟩, .string ⟨#[]⟩, .int .i64 0, .int .i64 0, .slice none 0 0, .int .i64 0] 40)).heap.size = w.heap.size + 1 by simp] at hn3
    exact ⟨((Below.refl _ _).alloc (Nat.le_refl _) _).alloc (by simp) _, hn3, (BoxAt.new w zeroPt 40).grown (World.grownBy_alloc _ _ none) (by simp), by omega, by omega⟩
  obtain ⟨g, hg⟩ : ∃ g, g = w.heap.size + 1 := ⟨_, rfl⟩
  obtain ⟨W1, hW1⟩ : ∃ W1, W1 = ((w.alloc (.cells #[.int .u64 0, .string ⟨#[]⟩, .string ⟨#[]⟩, .string ⟨#[]⟩, .int .i64 0, .int .i64 0, .slice none 0 0, .int .i64 0] 40)).alloc (.cells #[.int .u64 0, .string ⟨#[]⟩, .string ⟨#[]⟩, .string ⟨#[]⟩, .int .i64 0, .int .i64 0, .slice none 0 0, .int .i64 0] 40)) := ⟨_, rfl⟩
  rw [← hW1, ← hg] at D
  replace hW1 := Lib.hid hW1
  replace hg := Lib.hid hg
  have hnn := Lib.hid hn
  go_enter Try.func51, Try.ntmps51
  go_wp2_with (fail)
  rw [← hW1.out, ← hg.out]
  clear hW1 hg
  refine (gbytesF (hk.out.keep D.below) hnn.out 1 8 I1 _ rfl m1.out).mono ?_
  rintro e W2 ⟨Ak, nk, ck, x2, rfl, hsk, hb, _⟩
  replace hsk := Lib.hid hsk
  replace D := D.keep hb
  clear hb
  go_wp2_with (fail)
  refine (gkread hsk.out P.k g_k.out).mono ?_
  rintro e w' ⟨b2, rfl, rfl⟩
  clear hsk
  have q0 := D.tk.c 0 _ rfl
  have q1 := D.tk.c 1 _ rfl
  have q2 := D.tk.c 2 _ rfl
  have q3 := D.tk.c 3 _ rfl
  have q4 := D.tk.c 4 _ rfl
  have q5 := D.tk.c 5 _ rfl
  have q6 := D.tk.c 6 _ rfl
  have q7 := D.tk.c 7 _ rfl
  have qf := D.tk.fz
  have ql := D.tk.lt
  go_wp2_with (fail)
  clear q0 q1 q2 q3 q4 q5 q6 q7 qf ql
  replace D : Bld w (W2.setCell ⟨g, 0, none⟩ (.int .u64 P.k)) w.heap.size g zeroPt [.int .u64 P.k, .string ⟨#[]⟩, .string ⟨#[]⟩, .string ⟨#[]⟩, .int .i64 0, .int .i64 0, .slice none 0 0, .int .i64 0] := (D.set 0 (.int .u64 P.k) (by simp))
  generalize (W2.setCell ⟨g, 0, none⟩ (.int .u64 P.k)) = V2 at D ⊢
  refine (gprincipal (hk.out.keep D.below) hnn.out I1 P.a P.b P.c I2 g_a.out g_b.out g_c.out m2.out).mono ?_
  rintro e W3 ⟨x3, rfl, hb⟩
  replace D := D.keep hb
  clear hb
  have q0 := D.tk.c 0 _ rfl
  have q1 := D.tk.c 1 _ rfl
  have q2 := D.tk.c 2 _ rfl
  have q3 := D.tk.c 3 _ rfl
  have q4 := D.tk.c 4 _ rfl
  have q5 := D.tk.c 5 _ rfl
  have q6 := D.tk.c 6 _ rfl
  have q7 := D.tk.c 7 _ rfl
  have qf := D.tk.fz
  have ql := D.tk.lt
  go_wp2_with (fail)
  clear q0 q1 q2 q3 q4 q5 q6 q7 qf ql
  replace D : Bld w (((W3.setCell ⟨g, 1, none⟩ (.string P.a)).setCell ⟨g, 2, none⟩ (.string P.b)).setCell ⟨g, 3, none⟩ (.string P.c)) w.heap.size g zeroPt [.int .u64 P.k, .string P.a, .string P.b, .string P.c, .int .i64 0, .int .i64 0, .slice none 0 0, .int .i64 0] := (((D.set 1 (.string P.a) (by simp)).set 2 (.string P.b) (by simp)).set 3 (.string P.c) (by simp))
  generalize (((W3.setCell ⟨g, 1, none⟩ (.string P.a)).setCell ⟨g, 2, none⟩ (.string P.b)).setCell ⟨g, 3, none⟩ (.string P.c)) = V3 at D ⊢
  refine (goctet (hk.out.keep D.below) hnn.out I2 P.li I3 g_li.out m3.out).mono ?_
  rintro e W4 ⟨x4, rfl, hb⟩
  replace D := D.keep hb
  clear hb
  have q0 := D.tk.c 0 _ rfl
  have q1 := D.tk.c 1 _ rfl
  have q2 := D.tk.c 2 _ rfl
  have q3 := D.tk.c 3 _ rfl
  have q4 := D.tk.c 4 _ rfl
  have q5 := D.tk.c 5 _ rfl
  have q6 := D.tk.c 6 _ rfl
  have q7 := D.tk.c 7 _ rfl
  have qf := D.tk.fz
  have ql := D.tk.lt
  go_wp2_with (fail)
  clear q0 q1 q2 q3 q4 q5 q6 q7 qf ql
  replace D : Bld w (W4.setCell ⟨g, 4, none⟩ (.int .i64 P.li)) w.heap.size g zeroPt [.int .u64 P.k, .string P.a, .string P.b, .string P.c, .int .i64 P.li, .int .i64 0, .slice none 0 0, .int .i64 0] := (D.set 4 (.int .i64 P.li) (by simp))
  generalize (W4.setCell ⟨g, 4, none⟩ (.int .i64 P.li)) = V4 at D ⊢
  refine (goctet (hk.out.keep D.below) hnn.out I3 P.kv I4 g_kv.out m4.out).mono ?_
  rintro e W5 ⟨x5, rfl, hb⟩
  replace D := D.keep hb
  clear hb
  have q0 := D.tk.c 0 _ rfl
  have q1 := D.tk.c 1 _ rfl
  have q2 := D.tk.c 2 _ rfl
  have q3 := D.tk.c 3 _ rfl
  have q4 := D.tk.c 4 _ rfl
  have q5 := D.tk.c 5 _ rfl
  have q6 := D.tk.c 6 _ rfl
  have q7 := D.tk.c 7 _ rfl
  have qf := D.tk.fz
  have ql := D.tk.lt
  go_wp2_with (fail)
  clear q0 q1 q2 q3 q4 q5 q6 q7 qf ql
  replace D : Bld w (W5.setCell ⟨g, 5, none⟩ (.int .i64 P.kv)) w.heap.size g zeroPt [.int .u64 P.k, .string P.a, .string P.b, .string P.c, .int .i64 P.li, .int .i64 P.kv, .slice none 0 0, .int .i64 0] := (D.set 5 (.int .i64 P.kv) (by simp))
  generalize (W5.setCell ⟨g, 5, none⟩ (.int .i64 P.kv)) = V5 at D ⊢
  refine (goctet (hk.out.keep D.below) hnn.out I4 Ln I5 jl.out m5.out).mono ?_
  rintro e W6 ⟨x6, rfl, hb⟩
  replace D := D.keep hb
  clear hb
  go_wp2_with (fail)
  refine (gbytesF (hk.out.keep D.below) hnn.out I5 Ln I6 P.z g_z.out m6.out).mono ?_
  rintro e W7 ⟨A2, n2, c2, x7, rfl, hs2, hb, hf2⟩
  have hgl := D.tk.lt
  have hzg := Lib.hid (hf2.ne hgl)
  replace hs2 := Lib.hid hs2
  have hRl := D.res.lt
  have hzR := Lib.hid (hf2.ne hRl)
  have hfr := Lib.hid (hf2.le D.below.size)
  clear hgl hf2 hRl
  replace D := D.keep hb
  clear hb
  have q0 := D.tk.c 0 _ rfl
  have q1 := D.tk.c 1 _ rfl
  have q2 := D.tk.c 2 _ rfl
  have q3 := D.tk.c 3 _ rfl
  have q4 := D.tk.c 4 _ rfl
  have q5 := D.tk.c 5 _ rfl
  have q6 := D.tk.c 6 _ rfl
  have q7 := D.tk.c 7 _ rfl
  have qf := D.tk.fz
  have ql := D.tk.lt
  go_wp2_with (fail)
  clear q0 q1 q2 q3 q4 q5 q6 q7 qf ql
  replace D : Bld w (W7.setCell ⟨g, 6, none⟩ (.slice A2 n2 c2)) w.heap.size g zeroPt [.int .u64 P.k, .string P.a, .string P.b, .string P.c, .int .i64 P.li, .int .i64 P.kv, .slice A2 n2 c2, .int .i64 0] := (D.set 6 (.slice A2 n2 c2) (by simp))
  replace hs2 := Lib.hid (show Sl (W7.setCell ⟨g, 6, none⟩ (.slice A2 n2 c2)) A2 n2 c2 P.z from (hs2.out.set ⟨g, 6, none⟩ (.slice A2 n2 c2) hzg.out))
  generalize (W7.setCell ⟨g, 6, none⟩ (.slice A2 n2 c2)) = V7 at D hs2 ⊢
  refine (gnumber (hk.out.keep D.below) hnn.out I6 l P.tm _ g_tm.out rfl).mono ?_
  rintro e W8 ⟨x8, rfl, hb⟩
  replace hs2 := Lib.hid (hs2.out.keep hb)
  replace D := D.keep hb
  clear hb
  have q0 := D.tk.c 0 _ rfl
  have q1 := D.tk.c 1 _ rfl
  have q2 := D.tk.c 2 _ rfl
  have q3 := D.tk.c 3 _ rfl
  have q4 := D.tk.c 4 _ rfl
  have q5 := D.tk.c 5 _ rfl
  have q6 := D.tk.c 6 _ rfl
  have q7 := D.tk.c 7 _ rfl
  have qf := D.tk.fz
  have ql := D.tk.lt
  have y0 := D.res.c 0 _ rfl
  have y1 := D.res.c 1 _ rfl
  have y2 := D.res.c 2 _ rfl
  have y3 := D.res.c 3 _ rfl
  have y4 := D.res.c 4 _ rfl
  have y5 := D.res.c 5 _ rfl
  have y6 := D.res.c 6 _ rfl
  have y7 := D.res.c 7 _ rfl
  have yf := D.res.fz
  have yl := D.res.lt
  have BD := Lib.hid D.below
  have hgr := Lib.hid D.hg
  have nRg := D.Rg
  clear D
  go_wp2_with (fail)
  refine bodyPost_ret (v := (P.val A2 n2 c2)) ?_ rfl ?_
  · simp [results, Try.results51, go_sem, S9p.Pt.val, S9p.Pt.cells, y0, y1, y2, y3, y4, y5, y6, y7]
  · exact ⟨A2, n2, c2, rfl, by repeat (first | (with_reducible exact hs2.out) | refine Sl.set ?_ _ _ (by first | exact hzg.out | exact hzR.out)), by repeat (first | (with_reducible exact BD.out) | refine Below.setCell ?_ (by first | exact hgr.out | simp) _), hfr.out⟩

namespace S9r
def at1 (_l : Bool) (zs : List Int) : Int := S5.prN zs 2
def at2 (l : Bool) (zs : List Int) : Int := S5.getN zs (at1 l zs) 4
def at3 (l : Bool) (zs : List Int) : Int := S5.getN zs (at2 l zs + 1) 4
def at4 (l : Bool) (zs : List Int) : Int := S5.getN zs (at3 l zs) 1
def at5 (l : Bool) (zs : List Int) : Int := S5.getN zs (at4 l zs) 2
/-- What is read, whether it can be read or not. -/
def tot (l : Bool) (zs : List Int) : Rp :=
  ⟨l, strOfNums (S5.prA zs 2), strOfNums (S5.prB zs 2), strOfNums (S5.prC zs 2), S5.getV zs (at1 l zs) 4 l, S5.getV zs (at2 l zs + 1) 4 l, S5.getV zs (at3 l zs) 1 false, S5.byS zs (at5 l zs) (S5.getV zs (at4 l zs) 2 l)⟩

theorem tot_enc {t : Rp} (_f : t.Fit) (h : chkE t = 0) (zs : List Int) (hz : zs = enc t) : tot t.l zs = t := by
  have o := ok_of h
  have hvp : S1.vP t.a.data.toList t.b.data.toList t.c.data.toList = true := by
    rcases e : S1.vP t.a.data.toList t.b.data.toList t.c.data.toList
    · exfalso
      have hq := chk_zero h
      simp [q0, e] at hq
    · rfl
  have A0 : S5.AtF zs (raw t) 0 := by
    subst hz
    unfold enc
    exact S5.AtF.all _
  unfold raw at A0
  have C := A0.right
  rw [show (0 : Int) + ((S8.put 2 t.l).length : Int) = 2 by simp [S8.put, S8.okK]] at C
  obtain ⟨ea, va, na⟩ := C.left.text (S5.vName_ok o.a).1 (S5.vName_ok o.a).2
  replace C := C.right
  rw [show 2 + ((S5.text (nums t.a)).length : Int) = S5.txN zs 2 by rw [na]; simp [S5.text]] at C
  obtain ⟨eb, vb, nb⟩ := C.left.text (S5.vInst_ok o.b).1 (S5.vInst_ok o.b).2
  replace C := C.right
  rw [show S5.txN zs 2 + ((S5.text (nums t.b)).length : Int) = S5.txN zs (S5.txN zs 2) by rw [nb]; simp [S5.text]] at C
  obtain ⟨ec, vc, nc⟩ := C.left.text (S5.vRealm_ok o.c).1 (S5.vRealm_ok o.c).2
  obtain ⟨_, p1, p2, p3, p4⟩ := S5.pr_ok ea eb ec (by rw [va, vb, vc]; unfold S5.vPr; rw [str_nums, str_nums, str_nums]; exact hvp)
  replace C := C.right
  rw [show S5.txN zs (S5.txN zs 2) + ((S5.text (nums t.c)).length : Int) = (at1 t.l zs) by unfold at1; rw [p4, nc]; simp [S5.text]] at C
  obtain ⟨e1, v1, n1⟩ := C.left.num4 (by have := o.tm; omega) (by have := o.tm; omega)
  have r1 : (at1 t.l zs) + ((S5.num4 t.l t.tm).length : Int) = (at2 t.l zs) := by unfold at2; rw [n1, S5.num4_len]; rfl
  replace C := C.right
  rw [r1] at C
  replace C := C.right
  rw [show (at2 t.l zs) + ((S5.num1 1).length : Int) = (at2 t.l zs) + 1 by simp [S5.num1]] at C
  obtain ⟨e3, v3, n3⟩ := C.left.num4 (by have := o.ex; omega) (by have := o.ex; omega)
  have r3 : (at2 t.l zs + 1) + ((S5.num4 t.l t.ex).length : Int) = (at3 t.l zs) := by unfold at3; rw [n3, S5.num4_len]; rfl
  replace C := C.right
  rw [r3] at C
  obtain ⟨e4, v4, n4⟩ := C.left.num1 (by have := o.kv; omega) (by have := o.kv; omega)
  have r4 : (at3 t.l zs) + ((S5.num1 t.kv).length : Int) = (at4 t.l zs) := by unfold at4; rw [n4]; simp [S5.num1]
  replace C := C.right
  rw [r4] at C
  obtain ⟨e5, v5, n5⟩ := C.left.num2 (by omega) (by have := o.z; omega)
  have r5 : (at4 t.l zs) + ((S5.num2 t.l (t.z.length : Int)).length : Int) = (at5 t.l zs) := by unfold at5; rw [n5, S5.num2_len]; rfl
  replace C := C.right
  rw [r5] at C
  obtain ⟨e6, v6, n6⟩ := C.bytes (n := (t.z.length : Int)) rfl
  rw [← v5] at e6 v6 n6
  unfold tot
  rw [p1, p2, p3, va, vb, vc, v1, v3, v4, v6]
  simp only [str_nums]
/-- By what was read. -/
theorem tot_bad {zs : List Int} (h : S8.isE zs [2] = 0) (hb : chkE (tot (S8.isB zs [2]) zs) ≠ 0 ∨ encB (tot (S8.isB zs [2]) zs) ≠ zs) : decE zs = 100 ∧ decT zs = Rp.zero := by
  refine dec_no h ?_
  rintro ⟨t, f, c, e⟩
  have g1 := (is_enc t).2
  have g2 := tot_enc f c zs e.symm
  rw [e] at g1
  rw [g1] at hb
  rcases hb with hb | hb
  · rw [g2] at hb; exact hb c
  · rw [g2] at hb; unfold encB at hb; rw [if_pos c] at hb; exact hb e
end S9r

theorem krptot_fit {zs : List Int} (hz : ∀ z ∈ zs, 0 ≤ z ∧ z ≤ 255) (l : Bool) : (S9r.tot l zs).Fit := by
  have g : ∀ a k l, k ≤ 4 → -9223372036854775808 ≤ S5.getV zs a k l ∧ S5.getV zs a k l ≤ 9223372036854775807 := fun a k l hk => by have := getV_range hz a k l hk; omega
  exact ⟨prA_size _ _, prB_size _ _, prC_size _ _, g _ _ _ (by decide), g _ _ _ (by decide), g _ _ _ (by decide), byS_range hz _ _⟩

set_option maxHeartbeats 6400000 in
theorem krpread_any (l : Bool) (A : Option Addr) (n cap : Nat) (zs : List Int) (w : World) (h : Sl w A n cap zs) (hn : n ≤ 100000) : Calls Try.prog 56 #[.slice A n cap, .bool l] w (fun e w' => ∃ A2 n2 c2, e = .returned ((S9r.tot l zs).val A2 n2 c2) ∧ Sl w' A2 n2 c2 (S9r.tot l zs).z ∧ Below w.heap.size w w' ∧ Fresh w.heap.size A2) := by
  have hfit := krptot_fit h.range l
  obtain ⟨P, hP⟩ : ∃ P, P = S9r.tot l zs := ⟨_, rfl⟩
  rw [← hP] at hfit
  obtain ⟨I1, j1⟩ : ∃ I, I = S9r.at1 l zs := ⟨_, rfl⟩
  obtain ⟨I2, j2⟩ : ∃ I, I = S9r.at2 l zs := ⟨_, rfl⟩
  obtain ⟨I3, j3⟩ : ∃ I, I = S9r.at3 l zs := ⟨_, rfl⟩
  obtain ⟨I4, j4⟩ : ∃ I, I = S9r.at4 l zs := ⟨_, rfl⟩
  obtain ⟨I5, j5⟩ : ∃ I, I = S9r.at5 l zs := ⟨_, rfl⟩
  have m1 : I1 = S5.prN zs 2 := by rw [j1]; rfl
  have g_a : P.a = strOfNums (S5.prA zs 2) := by rw [hP]; rfl
  have g_b : P.b = strOfNums (S5.prB zs 2) := by rw [hP]; rfl
  have g_c : P.c = strOfNums (S5.prC zs 2) := by rw [hP]; rfl
  have m2 : I2 = S5.getN zs I1 4 := by rw [j2, j1]; rfl
  have g_tm : P.tm = S5.getV zs I1 4 l := by rw [hP, j1]; rfl
  have m3 : I3 = S5.getN zs (I2 + 1) 4 := by rw [j3, j2]; rfl
  have g_ex : P.ex = S5.getV zs (I2 + 1) 4 l := by rw [hP, j2]; rfl
  have m4 : I4 = S5.getN zs I3 1 := by rw [j4, j3]; rfl
  have g_kv : P.kv = S5.getV zs I3 1 false := by rw [hP, j3]; rfl
  obtain ⟨Ln, jl⟩ : ∃ x, x = (S5.getV zs I4 2 l) := ⟨_, rfl⟩
  have m5 : I5 = S5.getN zs I4 2 := by rw [j5, j4]; rfl
  have g_z : P.z = S5.byS zs I5 Ln := by rw [hP, jl, j4, j5]; rfl
  have g_l : P.l = l := by rw [hP]; rfl
  rw [← hP]
  clear hP j1 j2 j3 j4 j5
  have hI2 : 0 ≤ I2 ∧ I2 ≤ 100000 := by have h1 := getN_bounds zs I1 4; have h2 := h.len; omega
  replace m1 := Lib.hid m1
  replace m2 := Lib.hid m2
  replace m3 := Lib.hid m3
  replace m4 := Lib.hid m4
  replace m5 := Lib.hid m5
  replace jl := Lib.hid jl
  replace g_a := Lib.hid g_a
  replace g_b := Lib.hid g_b
  replace g_c := Lib.hid g_c
  replace g_tm := Lib.hid g_tm
  replace g_ex := Lib.hid g_ex
  replace g_kv := Lib.hid g_kv
  replace g_z := Lib.hid g_z
  obtain ⟨lo_tm, hi_tm⟩ := hfit.tm
  obtain ⟨lo_ex, hi_ex⟩ := hfit.ex
  obtain ⟨lo_kv, hi_kv⟩ := hfit.kv
  clear hfit
  have hk := Lib.hid h
  clear h
  have D : Bld w ((w.alloc (.cells #[.bool false, .string ⟨#[]⟩, .string ⟨#[]⟩, .string ⟨#[]⟩, .int .i64 0, .int .i64 0, .int .i64 0, .slice none 0 0] 49)).alloc (.cells #[.bool l, .string ⟨#[]⟩, .string ⟨#[]⟩, .string ⟨#[]⟩, .int .i64 0, .int .i64 0, .int .i64 0, .slice none 0 0] 49)) w.heap.size (w.heap.size + 1) zeroRp [.bool l, .string ⟨#[]⟩, .string ⟨#[]⟩, .string ⟨#[]⟩, .int .i64 0, .int .i64 0, .int .i64 0, .slice none 0 0] := by
    have hn3 := BoxAt.new (w.alloc (.cells #[.bool false, .string ⟨#[]⟩, .string ⟨#[]⟩, .string ⟨#[]⟩, .int .i64 0, .int .i64 0, .int .i64 0, .slice none 0 0] 49)) [.bool l, .string ⟨#[]⟩, .string ⟨#[]⟩, .string ⟨#[]⟩, .int .i64 0, .int .i64 0, .int .i64 0, .slice none 0 0] 49
    rw [show (w.alloc (.cells #[.bool false, .string ⟨#[]⟩, .string ⟨#[]⟩, .string ⟨#[]⟩, .int .i64 0, .int .i64 0, .int .i64 0, .slice none 0 0] 49)).heap.size = w.heap.size + 1 by simp] at hn3
    exact ⟨((Below.refl _ _).alloc (Nat.le_refl _) _).alloc (by simp) _, hn3, (BoxAt.new w zeroRp 49).grown (World.grownBy_alloc _ _ none) (by simp), by omega, by omega⟩
  obtain ⟨g, hg⟩ : ∃ g, g = w.heap.size + 1 := ⟨_, rfl⟩
  obtain ⟨W1, hW1⟩ : ∃ W1, W1 = ((w.alloc (.cells #[.bool false, .string ⟨#[]⟩, .string ⟨#[]⟩, .string ⟨#[]⟩, .int .i64 0, .int .i64 0, .int .i64 0, .slice none 0 0] 49)).alloc (.cells #[.bool l, .string ⟨#[]⟩, .string ⟨#[]⟩, .string ⟨#[]⟩, .int .i64 0, .int .i64 0, .int .i64 0, .slice none 0 0] 49)) := ⟨_, rfl⟩
  rw [← hW1, ← hg] at D
  replace hW1 := Lib.hid hW1
  replace hg := Lib.hid hg
  have hnn := Lib.hid hn
  go_enter Try.func56, Try.ntmps56
  go_wp2_with (fail)
  rw [← hW1.out, ← hg.out]
  clear hW1 hg
  refine (gprincipal (hk.out.keep D.below) hnn.out 2 P.a P.b P.c I1 g_a.out g_b.out g_c.out m1.out).mono ?_
  rintro e W2 ⟨x2, rfl, hb⟩
  replace D := D.keep hb
  clear hb
  have q0 := D.tk.c 0 _ rfl
  have q1 := D.tk.c 1 _ rfl
  have q2 := D.tk.c 2 _ rfl
  have q3 := D.tk.c 3 _ rfl
  have q4 := D.tk.c 4 _ rfl
  have q5 := D.tk.c 5 _ rfl
  have q6 := D.tk.c 6 _ rfl
  have q7 := D.tk.c 7 _ rfl
  have qf := D.tk.fz
  have ql := D.tk.lt
  go_wp2_with (fail)
  clear q0 q1 q2 q3 q4 q5 q6 q7 qf ql
  replace D : Bld w (((W2.setCell ⟨g, 1, none⟩ (.string P.a)).setCell ⟨g, 2, none⟩ (.string P.b)).setCell ⟨g, 3, none⟩ (.string P.c)) w.heap.size g zeroRp [.bool l, .string P.a, .string P.b, .string P.c, .int .i64 0, .int .i64 0, .int .i64 0, .slice none 0 0] := (((D.set 1 (.string P.a) (by simp)).set 2 (.string P.b) (by simp)).set 3 (.string P.c) (by simp))
  generalize (((W2.setCell ⟨g, 1, none⟩ (.string P.a)).setCell ⟨g, 2, none⟩ (.string P.b)).setCell ⟨g, 3, none⟩ (.string P.c)) = V2 at D ⊢
  refine (gnumber (hk.out.keep D.below) hnn.out I1 l P.tm I2 g_tm.out m2.out).mono ?_
  rintro e W3 ⟨x3, rfl, hb⟩
  replace D := D.keep hb
  clear hb
  have q0 := D.tk.c 0 _ rfl
  have q1 := D.tk.c 1 _ rfl
  have q2 := D.tk.c 2 _ rfl
  have q3 := D.tk.c 3 _ rfl
  have q4 := D.tk.c 4 _ rfl
  have q5 := D.tk.c 5 _ rfl
  have q6 := D.tk.c 6 _ rfl
  have q7 := D.tk.c 7 _ rfl
  have qf := D.tk.fz
  have ql := D.tk.lt
  go_wp2_with (fail)
  clear q0 q1 q2 q3 q4 q5 q6 q7 qf ql
  replace D : Bld w (W3.setCell ⟨g, 4, none⟩ (.int .i64 P.tm)) w.heap.size g zeroRp [.bool l, .string P.a, .string P.b, .string P.c, .int .i64 P.tm, .int .i64 0, .int .i64 0, .slice none 0 0] := (D.set 4 (.int .i64 P.tm) (by simp))
  generalize (W3.setCell ⟨g, 4, none⟩ (.int .i64 P.tm)) = V3 at D ⊢
  refine (gnumber (hk.out.keep D.below) hnn.out (I2 + 1) l P.ex I3 g_ex.out m3.out).mono ?_
  rintro e W4 ⟨x4, rfl, hb⟩
  replace D := D.keep hb
  clear hb
  have q0 := D.tk.c 0 _ rfl
  have q1 := D.tk.c 1 _ rfl
  have q2 := D.tk.c 2 _ rfl
  have q3 := D.tk.c 3 _ rfl
  have q4 := D.tk.c 4 _ rfl
  have q5 := D.tk.c 5 _ rfl
  have q6 := D.tk.c 6 _ rfl
  have q7 := D.tk.c 7 _ rfl
  have qf := D.tk.fz
  have ql := D.tk.lt
  go_wp2_with (fail)
  clear q0 q1 q2 q3 q4 q5 q6 q7 qf ql
  replace D : Bld w (W4.setCell ⟨g, 5, none⟩ (.int .i64 P.ex)) w.heap.size g zeroRp [.bool l, .string P.a, .string P.b, .string P.c, .int .i64 P.tm, .int .i64 P.ex, .int .i64 0, .slice none 0 0] := (D.set 5 (.int .i64 P.ex) (by simp))
  generalize (W4.setCell ⟨g, 5, none⟩ (.int .i64 P.ex)) = V4 at D ⊢
  refine (goctet (hk.out.keep D.below) hnn.out I3 P.kv I4 g_kv.out m4.out).mono ?_
  rintro e W5 ⟨x5, rfl, hb⟩
  replace D := D.keep hb
  clear hb
  have q0 := D.tk.c 0 _ rfl
  have q1 := D.tk.c 1 _ rfl
  have q2 := D.tk.c 2 _ rfl
  have q3 := D.tk.c 3 _ rfl
  have q4 := D.tk.c 4 _ rfl
  have q5 := D.tk.c 5 _ rfl
  have q6 := D.tk.c 6 _ rfl
  have q7 := D.tk.c 7 _ rfl
  have qf := D.tk.fz
  have ql := D.tk.lt
  go_wp2_with (fail)
  clear q0 q1 q2 q3 q4 q5 q6 q7 qf ql
  replace D : Bld w (W5.setCell ⟨g, 6, none⟩ (.int .i64 P.kv)) w.heap.size g zeroRp [.bool l, .string P.a, .string P.b, .string P.c, .int .i64 P.tm, .int .i64 P.ex, .int .i64 P.kv, .slice none 0 0] := (D.set 6 (.int .i64 P.kv) (by simp))
  generalize (W5.setCell ⟨g, 6, none⟩ (.int .i64 P.kv)) = V5 at D ⊢
  refine (gshort (hk.out.keep D.below) hnn.out I4 l Ln I5 jl.out m5.out).mono ?_
  rintro e W6 ⟨x6, rfl, hb⟩
  replace D := D.keep hb
  clear hb
  go_wp2_with (fail)
  refine (gbytesF (hk.out.keep D.below) hnn.out I5 Ln _ P.z g_z.out rfl).mono ?_
  rintro e W7 ⟨A2, n2, c2, x7, rfl, hs2, hb, hf2⟩
  have hgl := D.tk.lt
  have hzg := Lib.hid (hf2.ne hgl)
  replace hs2 := Lib.hid hs2
  have hRl := D.res.lt
  have hzR := Lib.hid (hf2.ne hRl)
  have hfr := Lib.hid (hf2.le D.below.size)
  clear hgl hf2 hRl
  replace D := D.keep hb
  clear hb
  have q0 := D.tk.c 0 _ rfl
  have q1 := D.tk.c 1 _ rfl
  have q2 := D.tk.c 2 _ rfl
  have q3 := D.tk.c 3 _ rfl
  have q4 := D.tk.c 4 _ rfl
  have q5 := D.tk.c 5 _ rfl
  have q6 := D.tk.c 6 _ rfl
  have q7 := D.tk.c 7 _ rfl
  have qf := D.tk.fz
  have ql := D.tk.lt
  have y0 := D.res.c 0 _ rfl
  have y1 := D.res.c 1 _ rfl
  have y2 := D.res.c 2 _ rfl
  have y3 := D.res.c 3 _ rfl
  have y4 := D.res.c 4 _ rfl
  have y5 := D.res.c 5 _ rfl
  have y6 := D.res.c 6 _ rfl
  have y7 := D.res.c 7 _ rfl
  have yf := D.res.fz
  have yl := D.res.lt
  have BD := Lib.hid D.below
  have hgr := Lib.hid D.hg
  have nRg := D.Rg
  clear D
  have HL := Lib.hid g_l
  clear g_l
  go_wp2_with (fail)
  refine bodyPost_ret (v := (P.val A2 n2 c2)) ?_ rfl ?_
  · have HL2 := HL.out; subst HL2; simp [results, Try.results56, go_sem, S9r.Rp.val, S9r.Rp.cells, y0, y1, y2, y3, y4, y5, y6, y7]
  · exact ⟨A2, n2, c2, rfl, by repeat (first | (with_reducible exact hs2.out) | refine Sl.set ?_ _ _ (by first | exact hzg.out | exact hzR.out)), by repeat (first | (with_reducible exact BD.out) | refine Below.setCell ?_ (by first | exact hgr.out | simp) _), hfr.out⟩

namespace S9e
def at1 (_l : Bool) (zs : List Int) : Int := S5.prN zs 2
def at2 (l : Bool) (zs : List Int) : Int := S5.getN zs (at1 l zs) 4
def at3 (l : Bool) (zs : List Int) : Int := S5.getN zs (at2 l zs) 4
/-- What is read, whether it can be read or not. -/
def tot (l : Bool) (zs : List Int) : Er :=
  ⟨l, strOfNums (S5.prA zs 2), strOfNums (S5.prB zs 2), strOfNums (S5.prC zs 2), S5.getV zs (at1 l zs) 4 l, S5.getV zs (at2 l zs) 4 l, strOfNums (S5.txS zs (at3 l zs))⟩

theorem tot_enc {t : Er} (_f : t.Fit) (h : chkE t = 0) (zs : List Int) (hz : zs = enc t) : tot t.l zs = t := by
  have o := ok_of h
  have hvp : S1.vP t.a.data.toList t.b.data.toList t.c.data.toList = true := by
    rcases e : S1.vP t.a.data.toList t.b.data.toList t.c.data.toList
    · exfalso
      have hq := chk_zero h
      simp [q0, e] at hq
    · rfl
  have A0 : S5.AtF zs (raw t) 0 := by
    subst hz
    unfold enc
    exact S5.AtF.all _
  unfold raw at A0
  have C := A0.right
  rw [show (0 : Int) + ((S8.put 5 t.l).length : Int) = 2 by simp [S8.put, S8.okK]] at C
  obtain ⟨ea, va, na⟩ := C.left.text (S5.vName_ok o.a).1 (S5.vName_ok o.a).2
  replace C := C.right
  rw [show 2 + ((S5.text (nums t.a)).length : Int) = S5.txN zs 2 by rw [na]; simp [S5.text]] at C
  obtain ⟨eb, vb, nb⟩ := C.left.text (S5.vInst_ok o.b).1 (S5.vInst_ok o.b).2
  replace C := C.right
  rw [show S5.txN zs 2 + ((S5.text (nums t.b)).length : Int) = S5.txN zs (S5.txN zs 2) by rw [nb]; simp [S5.text]] at C
  obtain ⟨ec, vc, nc⟩ := C.left.text (S5.vRealm_ok o.c).1 (S5.vRealm_ok o.c).2
  obtain ⟨_, p1, p2, p3, p4⟩ := S5.pr_ok ea eb ec (by rw [va, vb, vc]; unfold S5.vPr; rw [str_nums, str_nums, str_nums]; exact hvp)
  replace C := C.right
  rw [show S5.txN zs (S5.txN zs 2) + ((S5.text (nums t.c)).length : Int) = (at1 t.l zs) by unfold at1; rw [p4, nc]; simp [S5.text]] at C
  obtain ⟨e1, v1, n1⟩ := C.left.num4 (by have := o.tm; omega) (by have := o.tm; omega)
  have r1 : (at1 t.l zs) + ((S5.num4 t.l t.tm).length : Int) = (at2 t.l zs) := by unfold at2; rw [n1, S5.num4_len]; rfl
  replace C := C.right
  rw [r1] at C
  obtain ⟨e2, v2, n2⟩ := C.left.num4 (by have := o.co; omega) (by have := o.co; omega)
  have r2 : (at2 t.l zs) + ((S5.num4 t.l t.co).length : Int) = (at3 t.l zs) := by unfold at3; rw [n2, S5.num4_len]; rfl
  replace C := C.right
  rw [r2] at C
  obtain ⟨e3, v3, n3⟩ := C.text o.s (by rw [nums_len]; exact o.sl)
  unfold tot
  rw [p1, p2, p3, va, vb, vc, v1, v2, v3]
  simp only [str_nums]
/-- By what was read. -/
theorem tot_bad {zs : List Int} (h : S8.isE zs [5] = 0) (hb : chkE (tot (S8.isB zs [5]) zs) ≠ 0 ∨ encB (tot (S8.isB zs [5]) zs) ≠ zs) : decE zs = 100 ∧ decT zs = Er.zero := by
  refine dec_no h ?_
  rintro ⟨t, f, c, e⟩
  have g1 := (is_enc t).2
  have g2 := tot_enc f c zs e.symm
  rw [e] at g1
  rw [g1] at hb
  rcases hb with hb | hb
  · rw [g2] at hb; exact hb c
  · rw [g2] at hb; unfold encB at hb; rw [if_pos c] at hb; exact hb e
end S9e

theorem kertot_fit {zs : List Int} (hz : ∀ z ∈ zs, 0 ≤ z ∧ z ≤ 255) (l : Bool) : (S9e.tot l zs).Fit := by
  have g : ∀ a k l, k ≤ 4 → -9223372036854775808 ≤ S5.getV zs a k l ∧ S5.getV zs a k l ≤ 9223372036854775807 := fun a k l hk => by have := getV_range hz a k l hk; omega
  exact ⟨prA_size _ _, prB_size _ _, prC_size _ _, g _ _ _ (by decide), g _ _ _ (by decide), txS_size _ _⟩


end Go.Proofs.Ytkhkmgblgonfoaa
