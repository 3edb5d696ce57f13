/-
  What the functions of package kdcmessage return.
-/
import Derived.Test.YtkhkmgblgonfoaaDoorQKdEnc
import Derived.Test.YtkhkmgblgonfoaaDoorQKdRd
namespace Go.Proofs.YtkhkmgblgonfoaaDoor
open Go.RowKit
set_option maxRecDepth 100000

def krqConf (P : S9q.Rq) (zs : List Int) (w : World) (e : Ending) (w' : World) : Prop := ∃ T x, e = .returned (.tuple #[S9q.Rq.val T, .int .i64 x]) ∧ Below w.heap.size w w' ∧ (S9q.chkE P = 0 ∧ S9q.encB P = zs ∧ x = 0 ∧ T = P ∨ (S9q.chkE P ≠ 0 ∨ S9q.encB P ≠ zs) ∧ x = 100 ∧ T = S9q.Rq.zero)






def kerConf (P : S9e.Er) (zs : List Int) (w : World) (e : Ending) (w' : World) : Prop := ∃ T x, e = .returned (.tuple #[S9e.Er.val T, .int .i64 x]) ∧ Below w.heap.size w w' ∧ (S9e.chkE P = 0 ∧ S9e.encB P = zs ∧ x = 0 ∧ T = P ∨ (S9e.chkE P ≠ 0 ∨ S9e.encB P ≠ zs) ∧ x = 100 ∧ T = S9e.Er.zero)

set_option maxHeartbeats 6400000 in
theorem kerconf_any (P : S9e.Er) (f : P.Fit) (A : Option Addr) (n cap : Nat) (zs : List Int) (w : World) (h : Sl w A n cap zs) : Calls Tryd.prog 41 #[.slice A n cap, P.val, .func (.func 8) #[] #[]] w (kerConf P zs w) := by
  have EC := Lib.hid (fun W => kerenc_any P f W)
  have hk := Lib.hid h
  have B0 := Lib.hid (show Below w.heap.size w ((w.alloc (.cells (P.cells) 26)).alloc (.cells #[.bool false, .string ⟨#[]⟩, .string ⟨#[]⟩, .string ⟨#[]⟩, .int .i64 0, .int .i64 0, .string ⟨#[]⟩] 26)) from ((Below.refl _ _).alloc (Nat.le_refl _) _).alloc (by simp) _)
  have T0 := Lib.hid ((ErAt.new w P 26).keep (show Below (w.alloc (.cells (P.cells) 26)).heap.size (w.alloc (.cells (P.cells) 26)) ((w.alloc (.cells (P.cells) 26)).alloc (.cells #[.bool false, .string ⟨#[]⟩, .string ⟨#[]⟩, .string ⟨#[]⟩, .int .i64 0, .int .i64 0, .string ⟨#[]⟩] 26)) from (Below.refl _ _).alloc (Nat.le_refl _) _))
  have X0 := Lib.hid (show BoxAt ((w.alloc (.cells (P.cells) 26)).alloc (.cells #[.bool false, .string ⟨#[]⟩, .string ⟨#[]⟩, .string ⟨#[]⟩, .int .i64 0, .int .i64 0, .string ⟨#[]⟩] 26)) (w.heap.size + 1) zeroEr by have h1 := BoxAt.new (w.alloc (.cells (P.cells) 26)) zeroEr 26; rw [show (w.alloc (.cells (P.cells) 26)).heap.size = w.heap.size + 1 by simp] at h1; exact h1)
  clear h
  unfold S9e.Er.val S9e.Er.cells at EC
  unfold S9e.Er.val S9e.Er.cells
  unfold S9e.Er.cells at B0 T0 X0
  unfold zeroEr at X0
  go_enter Tryd.func41, Tryd.ntmps41
  go_wp2_with (fail)
  refine (EC.out _).mono ?_
  rintro e w2 ⟨A2, n2, c2, rfl, hs2, hb2, _⟩
  have T4 := Lib.hid (T0.out.keep hb2)
  have X4 := X0.out.keep hb2
  have B4 := Lib.hid (below_keep hb2 B0.out)
  have EQ := bequal_any A2 A n2 c2 n cap (S9e.encB P) zs w2 hs2 (hk.out.keep B4.out)
  clear hb2 T0 B0 X0 hs2
  obtain ⟨q0, q1, q2, q3, q4, q5, q6⟩ := T4.out
  have x0 := X4.c 0 _ rfl
  have x1 := X4.c 1 _ rfl
  have x2 := X4.c 2 _ rfl
  have x3 := X4.c 3 _ rfl
  have x4 := X4.c 4 _ rfl
  have x5 := X4.c 5 _ rfl
  have x6 := X4.c 6 _ rfl
  have xf := X4.fz
  have xl := X4.lt
  have hsz := B4.out.size
  clear X4 T4
  by_cases he : S9e.chkE P = 0
  · have he2 : (S9e.chkE P != 0) = false := by simpa using he
    by_cases hz : S9e.encB P = zs
    · have HC := Lib.hid (And.intro he hz)
      rw [decide_eq_true hz] at EQ
      replace EQ := Lib.hid EQ
      clear hz he
      go_wp2_with (go_at_call 54; refine EQ.out.mono ?_; rintro e w' ⟨rfl, rfl⟩)
      refine bodyPost_ret (v := .tuple #[P.val, .int .i64 0]) ?_ rfl ?_
      · simp [results, Tryd.results41, go_sem, S9e.Er.val, S9e.Er.cells, x0, x1, x2, x3, x4, x5, x6]
      · exact ⟨P, 0, rfl, by repeat (first | (with_reducible exact B4.out) | refine Below.setCell ?_ (by first | omega | simp) _), .inl ⟨HC.out.1, HC.out.2, rfl, rfl⟩⟩
    · have HC := Lib.hid hz
      rw [decide_eq_false hz] at EQ
      replace EQ := Lib.hid EQ
      clear hz he
      go_wp2_with (go_at_call 54; refine EQ.out.mono ?_; rintro e w' ⟨rfl, rfl⟩)
      refine bodyPost_ret (v := .tuple #[S9e.Er.zero.val, .int .i64 100]) ?_ rfl ?_
      · simp [results, Tryd.results41, go_sem, S9e.Er.val, S9e.Er.cells, S9e.Er.zero, xl, x0, x1, x2, x3, x4, x5, x6]
      · exact ⟨S9e.Er.zero, 100, rfl, by refine Below.alloc ?_ (by simp; omega) _; repeat (first | (with_reducible exact B4.out) | refine Below.setCell ?_ (by first | omega | simp) _), .inr ⟨.inr HC.out, rfl, rfl⟩⟩
  · have HC := Lib.hid he
    have he2 : (S9e.chkE P != 0) = true := by simpa using he
    clear he EQ
    go_wp2_with (fail)
    refine bodyPost_ret (v := .tuple #[S9e.Er.zero.val, .int .i64 100]) ?_ rfl ?_
    · simp [results, Tryd.results41, go_sem, S9e.Er.val, S9e.Er.cells, S9e.Er.zero, xl, x0, x1, x2, x3, x4, x5, x6]
    · exact ⟨S9e.Er.zero, 100, rfl, by refine Below.alloc ?_ (by simp; omega) _; repeat (first | (with_reducible exact B4.out) | refine Below.setCell ?_ (by first | omega | simp) _), .inr ⟨.inl HC.out, rfl, rfl⟩⟩

set_option maxHeartbeats 6400000 in
theorem kerdecode_kind (A : Option Addr) (n cap : Nat) (zs : List Int) (w : World) (h : Sl w A n cap zs) (hn : n ≤ 100000) (he : S8.isE zs [5] ≠ 0) : Calls Tryd.prog 25 #[.slice A n cap, .int .i64 5, .func (.func 26) #[] #[], .func (.func 8) #[] #[]] w (ErDec zs w) := by
  have HX := Lib.hid (S9e.dec_kind he)
  have he2 : (S8.isE zs [5] != 0) = true := by simpa using he
  have hk := Lib.hid h
  have X0 : BoxAt ((w.alloc (.cells #[.bool false, .string ⟨#[]⟩, .string ⟨#[]⟩, .string ⟨#[]⟩, .int .i64 0, .int .i64 0, .string ⟨#[]⟩] 26)).alloc (.cells #[.int .i64 5] 3)) w.heap.size zeroEr := (BoxAt.new w zeroEr 26).grown (World.grownBy_alloc _ _ none) (by simp)
  have B0 : Below w.heap.size w ((w.alloc (.cells #[.bool false, .string ⟨#[]⟩, .string ⟨#[]⟩, .string ⟨#[]⟩, .int .i64 0, .int .i64 0, .string ⟨#[]⟩] 26)).alloc (.cells #[.int .i64 5] 3)) := ((Below.refl _ _).alloc (Nat.le_refl _) _).alloc (by simp) _
  have KR : RowK .i64 ((w.alloc (.cells #[.bool false, .string ⟨#[]⟩, .string ⟨#[]⟩, .string ⟨#[]⟩, .int .i64 0, .int .i64 0, .string ⟨#[]⟩] 26)).alloc (.cells #[.int .i64 5] 3)) (some ⟨w.heap.size + 1, 0, none⟩) 1 [5] := by
    have := rqrow_one (w.alloc (.cells #[.bool false, .string ⟨#[]⟩, .string ⟨#[]⟩, .string ⟨#[]⟩, .int .i64 0, .int .i64 0, .string ⟨#[]⟩] 26)) 5 (by decide) 3
    rw [show (w.alloc (.cells #[.bool false, .string ⟨#[]⟩, .string ⟨#[]⟩, .string ⟨#[]⟩, .int .i64 0, .int .i64 0, .string ⟨#[]⟩] 26)).heap.size = w.heap.size + 1 by simp] at this
    exact this
  have IC := his_any A n cap zs (some ⟨w.heap.size + 1, 0, none⟩) 1 1 [5] ((w.alloc (.cells #[.bool false, .string ⟨#[]⟩, .string ⟨#[]⟩, .string ⟨#[]⟩, .int .i64 0, .int .i64 0, .string ⟨#[]⟩] 26)).alloc (.cells #[.int .i64 5] 3)) (h.keep B0) hn KR (by decide)
  unfold IsOut at IC
  clear he h
  replace IC := Lib.hid IC; replace X0 := Lib.hid X0; replace B0 := Lib.hid B0
  clear KR
  unfold zeroEr at X0
  go_enter Tryd.func25, Tryd.ntmps25
  go_wp2_with (fail)
  refine IC.out.mono ?_
  rintro e w1 ⟨rfl, hb1⟩
  have X1 := X0.out.keep hb1
  have B1 := Lib.hid (below_keep hb1 B0.out)
  have hsz := B1.out.size
  clear hb1 B0 X0 IC
  have x0 := X1.c 0 _ rfl
  have x1 := X1.c 1 _ rfl
  have x2 := X1.c 2 _ rfl
  have x3 := X1.c 3 _ rfl
  have x4 := X1.c 4 _ rfl
  have x5 := X1.c 5 _ rfl
  have x6 := X1.c 6 _ rfl
  have xf := X1.fz
  have xl := X1.lt
  clear X1
  go_wp2_with (fail)
  refine bodyPost_ret (v := .tuple #[S9e.Er.zero.val, .int .i64 (S8.isE zs [5])]) ?_ rfl ?_
  · simp [results, Tryd.results25, go_sem, S9e.Er.val, S9e.Er.cells, S9e.Er.zero, xl, x0, x1, x2, x3, x4, x5, x6]
  · exact ErDec.mk HX.out (by refine Below.alloc ?_ (by simp; omega) _; repeat (first | (with_reducible exact B1.out) | refine Below.setCell ?_ (by simp) _))

set_option maxHeartbeats 6400000 in
theorem kerdecode_read (A : Option Addr) (n cap : Nat) (zs : List Int) (w : World) (h : Sl w A n cap zs) (hn : n ≤ 100000) (he : S8.isE zs [5] = 0) : Calls Tryd.prog 25 #[.slice A n cap, .int .i64 5, .func (.func 26) #[] #[], .func (.func 8) #[] #[]] w (ErDec zs w) := by
  have hk := Lib.hid h
  have X0 : BoxAt ((w.alloc (.cells #[.bool false, .string ⟨#[]⟩, .string ⟨#[]⟩, .string ⟨#[]⟩, .int .i64 0, .int .i64 0, .string ⟨#[]⟩] 26)).alloc (.cells #[.int .i64 5] 3)) w.heap.size zeroEr := (BoxAt.new w zeroEr 26).grown (World.grownBy_alloc _ _ none) (by simp)
  have B0 : Below w.heap.size w ((w.alloc (.cells #[.bool false, .string ⟨#[]⟩, .string ⟨#[]⟩, .string ⟨#[]⟩, .int .i64 0, .int .i64 0, .string ⟨#[]⟩] 26)).alloc (.cells #[.int .i64 5] 3)) := ((Below.refl _ _).alloc (Nat.le_refl _) _).alloc (by simp) _
  have KR : RowK .i64 ((w.alloc (.cells #[.bool false, .string ⟨#[]⟩, .string ⟨#[]⟩, .string ⟨#[]⟩, .int .i64 0, .int .i64 0, .string ⟨#[]⟩] 26)).alloc (.cells #[.int .i64 5] 3)) (some ⟨w.heap.size + 1, 0, none⟩) 1 [5] := by
    have := rqrow_one (w.alloc (.cells #[.bool false, .string ⟨#[]⟩, .string ⟨#[]⟩, .string ⟨#[]⟩, .int .i64 0, .int .i64 0, .string ⟨#[]⟩] 26)) 5 (by decide) 3
    rw [show (w.alloc (.cells #[.bool false, .string ⟨#[]⟩, .string ⟨#[]⟩, .string ⟨#[]⟩, .int .i64 0, .int .i64 0, .string ⟨#[]⟩] 26)).heap.size = w.heap.size + 1 by simp] at this
    exact this
  have IC := his_any A n cap zs (some ⟨w.heap.size + 1, 0, none⟩) 1 1 [5] ((w.alloc (.cells #[.bool false, .string ⟨#[]⟩, .string ⟨#[]⟩, .string ⟨#[]⟩, .int .i64 0, .int .i64 0, .string ⟨#[]⟩] 26)).alloc (.cells #[.int .i64 5] 3)) (h.keep B0) hn KR (by decide)
  unfold IsOut at IC
  rw [he] at IC
  obtain ⟨L, hL⟩ : ∃ L, L = S8.isB zs [5] := ⟨_, rfl⟩
  have HB := Lib.hid (fun hb => S9e.tot_bad he hb)
  rw [← hL] at IC HB
  clear hL
  have HF := Lib.hid (kertot_fit h.range L)
  have RC := Lib.hid (fun W (hs : Sl W A n cap zs) => kerread_any L A n cap zs W hs hn)
  obtain ⟨P, hP⟩ : ∃ P, P = S9e.tot L zs := ⟨_, rfl⟩
  rw [← hP] at HF RC HB
  clear hP
  have CF := Lib.hid (fun W (hs : Sl W A n cap zs) => kerconf_any P HF.out A n cap zs W hs)
  have HI := Lib.hid (fun (c : S9e.chkE P = 0) (e : S9e.encB P = zs) => S9e.dec_yes (zs := zs) (t := P) ⟨HF.out, c, by rw [← e]; unfold S9e.encB; rw [if_pos c]⟩)
  unfold S9e.Er.val S9e.Er.cells at RC CF
  clear he h
  replace IC := Lib.hid IC; replace X0 := Lib.hid X0; replace B0 := Lib.hid B0
  clear KR
  unfold zeroEr at X0
  go_enter Tryd.func25, Tryd.ntmps25
  go_wp2_with (fail)
  refine IC.out.mono ?_
  rintro e w1 ⟨rfl, hb1⟩
  have X1 := Lib.hid (X0.out.keep hb1)
  have B1 := Lib.hid (below_keep hb1 B0.out)
  clear hb1 B0 X0 IC
  go_wp2_with (fail)
  refine (RC.out _ (hk.out.keep B1.out)).mono ?_
  rintro e w2 ⟨rfl, hb2⟩
  have X2 := Lib.hid (X1.out.keep hb2)
  have B2 := Lib.hid (below_keep hb2 B1.out)
  clear hb2 B1 X1
  go_wp2_with (fail)
  refine (CF.out _ (hk.out.keep B2.out)).mono ?_
  rintro e w3 ⟨T, x, rfl, hb3, hcase⟩
  have HX : S9e.decE zs = x ∧ S9e.decT zs = T := by
    rcases hcase with ⟨c, e, rfl, rfl⟩ | ⟨hb, rfl, rfl⟩
    · exact HI.out c e
    · exact HB.out hb
  replace HX := Lib.hid HX
  have X3 := X2.out.keep hb3
  have B3 := Lib.hid (below_keep hb3 B2.out)
  clear hcase hb3 X2 B2
  have x0 := X3.c 0 _ rfl
  have x1 := X3.c 1 _ rfl
  have x2 := X3.c 2 _ rfl
  have x3 := X3.c 3 _ rfl
  have x4 := X3.c 4 _ rfl
  have x5 := X3.c 5 _ rfl
  have x6 := X3.c 6 _ rfl
  have xf := X3.fz
  have xl := X3.lt
  clear X3
  unfold S9e.Er.val S9e.Er.cells
  go_wp2_with (fail)
  refine bodyPost_ret (v := .tuple #[T.val, .int .i64 x]) ?_ rfl ?_
  · simp [results, Tryd.results25, go_sem, S9e.Er.val, S9e.Er.cells, x0, x1, x2, x3, x4, x5, x6]
  · exact ErDec.mk HX.out (by repeat (first | (with_reducible exact B3.out) | refine Below.setCell ?_ (by simp) _))

theorem kerdecode_any (A : Option Addr) (n cap : Nat) (zs : List Int) (w : World) (h : Sl w A n cap zs) (hn : n ≤ 100000) : Calls Tryd.prog 25 #[.slice A n cap, .int .i64 5, .func (.func 26) #[] #[], .func (.func 8) #[] #[]] w (ErDec zs w) := by
  by_cases he : S8.isE zs [5] = 0
  · exact kerdecode_read A n cap zs w h hn he
  · exact kerdecode_kind A n cap zs w h hn he

set_option maxHeartbeats 3200000 in
theorem kerdec_any (A : Option Addr) (n cap : Nat) (zs : List Int) (w : World) (h : Sl w A n cap zs) (hn : n ≤ 100000) : Calls Tryd.prog 10 #[.slice A n cap] w (ErDec zs w) := by
  have Bw := Lib.hid (show Below w.heap.size w (w.alloc (.cells zeroEr.toArray 26)) from (Below.refl _ _).alloc (Nat.le_refl _) _)
  have X0 := Lib.hid (BoxAt.new w zeroEr 26)
  have DC := Lib.hid (kerdecode_any A n cap zs _ (h.keep Bw.out) hn)
  unfold ErDec at DC
  obtain ⟨T, hT⟩ : ∃ T, T = S9e.decT zs := ⟨_, rfl⟩
  have HO := Lib.hid hT
  rw [← hT] at DC
  clear hT
  unfold S9e.Er.val S9e.Er.cells at DC
  unfold zeroEr at DC Bw X0
  go_enter Tryd.func10, Tryd.ntmps10
  go_wp2_with (fail)
  refine DC.out.mono ?_
  rintro e w2 ⟨rfl, hb2⟩
  have X2 := X0.out.keep hb2
  have B2 := Lib.hid (below_keep hb2 Bw.out)
  have x0 := X2.c 0 _ rfl
  have x1 := X2.c 1 _ rfl
  have x2 := X2.c 2 _ rfl
  have x3 := X2.c 3 _ rfl
  have x4 := X2.c 4 _ rfl
  have x5 := X2.c 5 _ rfl
  have x6 := X2.c 6 _ rfl
  have xf := X2.fz
  have xl := X2.lt
  clear X2 hb2
  go_wp2_with (fail)
  refine bodyPost_ret (v := .tuple #[T.val, .int .i64 (S9e.decE zs)]) ?_ rfl ?_
  · simp [results, Tryd.results10, go_sem, S9e.Er.val, S9e.Er.cells, x0, x1, x2, x3, x4, x5, x6]
  · exact ⟨by rw [HO.out], by repeat (first | (with_reducible exact B2.out) | refine Below.setCell ?_ (by simp) _)⟩

def krpConf (P : S9r.Rp) (Az : Option Addr) (nz cz : Nat) (zs : List Int) (w : World) (e : Ending) (w' : World) : Prop := ∃ T Y m c x, e = .returned (.tuple #[S9r.Rp.val T Y m c, .int .i64 x]) ∧ Below w.heap.size w w' ∧ (S9r.chkE P = 0 ∧ S9r.encB P = zs ∧ x = 0 ∧ T = P ∧ Y = Az ∧ m = nz ∧ c = cz ∨ (S9r.chkE P ≠ 0 ∨ S9r.encB P ≠ zs) ∧ x = 100 ∧ T = S9r.Rp.zero ∧ Y = none ∧ m = 0 ∧ c = 0)







def kptConf (l : Bool) (P : S9p.Pt) (Az : Option Addr) (nz cz : Nat) (zs : List Int) (w : World) (e : Ending) (w' : World) : Prop := ∃ T Y m c x, e = .returned (.tuple #[S9p.Pt.val T Y m c, .int .i64 x]) ∧ Below w.heap.size w w' ∧ (S9p.chkE P = 0 ∧ S9p.encB l P = zs ∧ x = 0 ∧ T = P ∧ Y = Az ∧ m = nz ∧ c = cz ∨ (S9p.chkE P ≠ 0 ∨ S9p.encB l P ≠ zs) ∧ x = 100 ∧ T = S9p.Pt.zero ∧ Y = none ∧ m = 0 ∧ c = 0)



end Go.Proofs.YtkhkmgblgonfoaaDoor
