/-
  What the functions of package kdcmessage return.
-/
import Derived.Test.YtkhkmgblgonfoaaQKdEnc
import Derived.Test.YtkhkmgblgonfoaaQKdRd
namespace Go.Proofs.Ytkhkmgblgonfoaa
open Go.RowKit
set_option maxRecDepth 100000

def krqConf (P : S9q.Rq) (zs : List Int) (w : World) (e : Ending) (w' : World) : Prop := ∃ T x, e = .returned (.tuple #[S9q.Rq.val T, .int .i64 x]) ∧ Below w.heap.size w w' ∧ (S9q.chkE P = 0 ∧ S9q.encB P = zs ∧ x = 0 ∧ T = P ∨ (S9q.chkE P ≠ 0 ∨ S9q.encB P ≠ zs) ∧ x = 100 ∧ T = S9q.Rq.zero)

set_option maxHeartbeats 6400000 in
theorem krqconf_any (P : S9q.Rq) (f : P.Fit) (A : Option Addr) (n cap : Nat) (zs : List Int) (w : World) (h : Sl w A n cap zs) : Calls Try.prog 73 #[.slice A n cap, P.val, .func (.func 9) #[] #[]] w (krqConf P zs w) := by
  have EC := Lib.hid (fun W => krqenc_any P f W)
  have hk := Lib.hid h
  have B0 := Lib.hid (show Below w.heap.size w ((w.alloc (.cells (P.cells) 25)).alloc (.cells #[.bool false, .string ⟨#[]⟩, .string ⟨#[]⟩, .string ⟨#[]⟩, .int .i64 0, .int .i64 0, .string ⟨#[]⟩, .string ⟨#[]⟩] 25)) from ((Below.refl _ _).alloc (Nat.le_refl _) _).alloc (by simp) _)
  have T0 := Lib.hid ((RqAt.new w P 25).keep (show Below (w.alloc (.cells (P.cells) 25)).heap.size (w.alloc (.cells (P.cells) 25)) ((w.alloc (.cells (P.cells) 25)).alloc (.cells #[.bool false, .string ⟨#[]⟩, .string ⟨#[]⟩, .string ⟨#[]⟩, .int .i64 0, .int .i64 0, .string ⟨#[]⟩, .string ⟨#[]⟩] 25)) from (Below.refl _ _).alloc (Nat.le_refl _) _))
  have X0 := Lib.hid (show BoxAt ((w.alloc (.cells (P.cells) 25)).alloc (.cells #[.bool false, .string ⟨#[]⟩, .string ⟨#[]⟩, .string ⟨#[]⟩, .int .i64 0, .int .i64 0, .string ⟨#[]⟩, .string ⟨#[]⟩] 25)) (w.heap.size + 1) zeroRq by have h1 := BoxAt.new (w.alloc (.cells (P.cells) 25)) zeroRq 25; rw [show (w.alloc (.cells (P.cells) 25)).heap.size = w.heap.size + 1 by simp] at h1; exact h1)
  clear h
  unfold S9q.Rq.val S9q.Rq.cells at EC
  unfold S9q.Rq.val S9q.Rq.cells
  unfold S9q.Rq.cells at B0 T0 X0
  unfold zeroRq at X0
  go_enter Try.func73, Try.ntmps73
  go_wp2_with (fail)
  refine (EC.out _).mono ?_
  rintro e w2 ⟨A2, n2, c2, rfl, hs2, hb2, _⟩
  have T4 := Lib.hid (T0.out.keep hb2)
  have X4 := X0.out.keep hb2
  have B4 := Lib.hid (below_keep hb2 B0.out)
  have EQ := bequal_any A2 A n2 c2 n cap (S9q.encB P) zs w2 hs2 (hk.out.keep B4.out)
  clear hb2 T0 B0 X0 hs2
  obtain ⟨q0, q1, q2, q3, q4, q5, q6, q7⟩ := T4.out
  have x0 := X4.c 0 _ rfl
  have x1 := X4.c 1 _ rfl
  have x2 := X4.c 2 _ rfl
  have x3 := X4.c 3 _ rfl
  have x4 := X4.c 4 _ rfl
  have x5 := X4.c 5 _ rfl
  have x6 := X4.c 6 _ rfl
  have x7 := X4.c 7 _ rfl
  have xf := X4.fz
  have xl := X4.lt
  have hsz := B4.out.size
  clear X4 T4
  by_cases he : S9q.chkE P = 0
  · have he2 : (S9q.chkE P != 0) = false := by simpa using he
    by_cases hz : S9q.encB P = zs
    · have HC := Lib.hid (And.intro he hz)
      rw [decide_eq_true hz] at EQ
      replace EQ := Lib.hid EQ
      clear hz he
      go_wp2_with (go_at_call 80; refine EQ.out.mono ?_; rintro e w' ⟨rfl, rfl⟩)
      refine bodyPost_ret (v := .tuple #[P.val, .int .i64 0]) ?_ rfl ?_
      · simp [results, Try.results73, go_sem, S9q.Rq.val, S9q.Rq.cells, x0, x1, x2, x3, x4, x5, x6, x7]
      · exact ⟨P, 0, rfl, by repeat (first | (with_reducible exact B4.out) | refine Below.setCell ?_ (by first | omega | simp) _), .inl ⟨HC.out.1, HC.out.2, rfl, rfl⟩⟩
    · have HC := Lib.hid hz
      rw [decide_eq_false hz] at EQ
      replace EQ := Lib.hid EQ
      clear hz he
      go_wp2_with (go_at_call 80; refine EQ.out.mono ?_; rintro e w' ⟨rfl, rfl⟩)
      refine bodyPost_ret (v := .tuple #[S9q.Rq.zero.val, .int .i64 100]) ?_ rfl ?_
      · simp [results, Try.results73, go_sem, S9q.Rq.val, S9q.Rq.cells, S9q.Rq.zero, xl, x0, x1, x2, x3, x4, x5, x6, x7]
      · exact ⟨S9q.Rq.zero, 100, rfl, by refine Below.alloc ?_ (by simp; omega) _; repeat (first | (with_reducible exact B4.out) | refine Below.setCell ?_ (by first | omega | simp) _), .inr ⟨.inr HC.out, rfl, rfl⟩⟩
  · have HC := Lib.hid he
    have he2 : (S9q.chkE P != 0) = true := by simpa using he
    clear he EQ
    go_wp2_with (fail)
    refine bodyPost_ret (v := .tuple #[S9q.Rq.zero.val, .int .i64 100]) ?_ rfl ?_
    · simp [results, Try.results73, go_sem, S9q.Rq.val, S9q.Rq.cells, S9q.Rq.zero, xl, x0, x1, x2, x3, x4, x5, x6, x7]
    · exact ⟨S9q.Rq.zero, 100, rfl, by refine Below.alloc ?_ (by simp; omega) _; repeat (first | (with_reducible exact B4.out) | refine Below.setCell ?_ (by first | omega | simp) _), .inr ⟨.inl HC.out, rfl, rfl⟩⟩

set_option maxHeartbeats 6400000 in
theorem krqdecode_kind (A : Option Addr) (n cap : Nat) (zs : List Int) (w : World) (h : Sl w A n cap zs) (hn : n ≤ 100000) (he : S8.isE zs [1] ≠ 0) : Calls Try.prog 39 #[.slice A n cap, .int .i64 1, .func (.func 40) #[] #[], .func (.func 9) #[] #[]] w (RqDec zs w) := by
  have HX := Lib.hid (S9q.dec_kind he)
  have he2 : (S8.isE zs [1] != 0) = true := by simpa using he
  have hk := Lib.hid h
  have X0 : BoxAt ((w.alloc (.cells #[.bool false, .string ⟨#[]⟩, .string ⟨#[]⟩, .string ⟨#[]⟩, .int .i64 0, .int .i64 0, .string ⟨#[]⟩, .string ⟨#[]⟩] 25)).alloc (.cells #[.int .i64 1] 3)) w.heap.size zeroRq := (BoxAt.new w zeroRq 25).grown (World.grownBy_alloc _ _ none) (by simp)
  have B0 : Below w.heap.size w ((w.alloc (.cells #[.bool false, .string ⟨#[]⟩, .string ⟨#[]⟩, .string ⟨#[]⟩, .int .i64 0, .int .i64 0, .string ⟨#[]⟩, .string ⟨#[]⟩] 25)).alloc (.cells #[.int .i64 1] 3)) := ((Below.refl _ _).alloc (Nat.le_refl _) _).alloc (by simp) _
  have KR : RowK .i64 ((w.alloc (.cells #[.bool false, .string ⟨#[]⟩, .string ⟨#[]⟩, .string ⟨#[]⟩, .int .i64 0, .int .i64 0, .string ⟨#[]⟩, .string ⟨#[]⟩] 25)).alloc (.cells #[.int .i64 1] 3)) (some ⟨w.heap.size + 1, 0, none⟩) 1 [1] := by
    have := rqrow_one (w.alloc (.cells #[.bool false, .string ⟨#[]⟩, .string ⟨#[]⟩, .string ⟨#[]⟩, .int .i64 0, .int .i64 0, .string ⟨#[]⟩, .string ⟨#[]⟩] 25)) 1 (by decide) 3
    rw [show (w.alloc (.cells #[.bool false, .string ⟨#[]⟩, .string ⟨#[]⟩, .string ⟨#[]⟩, .int .i64 0, .int .i64 0, .string ⟨#[]⟩, .string ⟨#[]⟩] 25)).heap.size = w.heap.size + 1 by simp] at this
    exact this
  have IC := his_any A n cap zs (some ⟨w.heap.size + 1, 0, none⟩) 1 1 [1] ((w.alloc (.cells #[.bool false, .string ⟨#[]⟩, .string ⟨#[]⟩, .string ⟨#[]⟩, .int .i64 0, .int .i64 0, .string ⟨#[]⟩, .string ⟨#[]⟩] 25)).alloc (.cells #[.int .i64 1] 3)) (h.keep B0) hn KR (by decide)
  unfold IsOut at IC
  clear he h
  replace IC := Lib.hid IC; replace X0 := Lib.hid X0; replace B0 := Lib.hid B0
  clear KR
  unfold zeroRq at X0
  go_enter Try.func39, Try.ntmps39
  go_wp2_with (fail)
  refine IC.out.mono ?_
  rintro e w1 ⟨rfl, hb1⟩
  have X1 := X0.out.keep hb1
  have B1 := Lib.hid (below_keep hb1 B0.out)
  have hsz := B1.out.size
  clear hb1 B0 X0 IC
  have x0 := X1.c 0 _ rfl
  have x1 := X1.c 1 _ rfl
  have x2 := X1.c 2 _ rfl
  have x3 := X1.c 3 _ rfl
  have x4 := X1.c 4 _ rfl
  have x5 := X1.c 5 _ rfl
  have x6 := X1.c 6 _ rfl
  have x7 := X1.c 7 _ rfl
  have xf := X1.fz
  have xl := X1.lt
  clear X1
  go_wp2_with (fail)
  refine bodyPost_ret (v := .tuple #[S9q.Rq.zero.val, .int .i64 (S8.isE zs [1])]) ?_ rfl ?_
  · simp [results, Try.results39, go_sem, S9q.Rq.val, S9q.Rq.cells, S9q.Rq.zero, xl, x0, x1, x2, x3, x4, x5, x6, x7]
  · exact RqDec.mk HX.out (by refine Below.alloc ?_ (by simp; omega) _; repeat (first | (with_reducible exact B1.out) | refine Below.setCell ?_ (by simp) _))

set_option maxHeartbeats 6400000 in
theorem krqdecode_read (A : Option Addr) (n cap : Nat) (zs : List Int) (w : World) (h : Sl w A n cap zs) (hn : n ≤ 100000) (he : S8.isE zs [1] = 0) : Calls Try.prog 39 #[.slice A n cap, .int .i64 1, .func (.func 40) #[] #[], .func (.func 9) #[] #[]] w (RqDec zs w) := by
  have hk := Lib.hid h
  have X0 : BoxAt ((w.alloc (.cells #[.bool false, .string ⟨#[]⟩, .string ⟨#[]⟩, .string ⟨#[]⟩, .int .i64 0, .int .i64 0, .string ⟨#[]⟩, .string ⟨#[]⟩] 25)).alloc (.cells #[.int .i64 1] 3)) w.heap.size zeroRq := (BoxAt.new w zeroRq 25).grown (World.grownBy_alloc _ _ none) (by simp)
  have B0 : Below w.heap.size w ((w.alloc (.cells #[.bool false, .string ⟨#[]⟩, .string ⟨#[]⟩, .string ⟨#[]⟩, .int .i64 0, .int .i64 0, .string ⟨#[]⟩, .string ⟨#[]⟩] 25)).alloc (.cells #[.int .i64 1] 3)) := ((Below.refl _ _).alloc (Nat.le_refl _) _).alloc (by simp) _
  have KR : RowK .i64 ((w.alloc (.cells #[.bool false, .string ⟨#[]⟩, .string ⟨#[]⟩, .string ⟨#[]⟩, .int .i64 0, .int .i64 0, .string ⟨#[]⟩, .string ⟨#[]⟩] 25)).alloc (.cells #[.int .i64 1] 3)) (some ⟨w.heap.size + 1, 0, none⟩) 1 [1] := by
    have := rqrow_one (w.alloc (.cells #[.bool false, .string ⟨#[]⟩, .string ⟨#[]⟩, .string ⟨#[]⟩, .int .i64 0, .int .i64 0, .string ⟨#[]⟩, .string ⟨#[]⟩] 25)) 1 (by decide) 3
    rw [show (w.alloc (.cells #[.bool false, .string ⟨#[]⟩, .string ⟨#[]⟩, .string ⟨#[]⟩, .int .i64 0, .int .i64 0, .string ⟨#[]⟩, .string ⟨#[]⟩] 25)).heap.size = w.heap.size + 1 by simp] at this
    exact this
  have IC := his_any A n cap zs (some ⟨w.heap.size + 1, 0, none⟩) 1 1 [1] ((w.alloc (.cells #[.bool false, .string ⟨#[]⟩, .string ⟨#[]⟩, .string ⟨#[]⟩, .int .i64 0, .int .i64 0, .string ⟨#[]⟩, .string ⟨#[]⟩] 25)).alloc (.cells #[.int .i64 1] 3)) (h.keep B0) hn KR (by decide)
  unfold IsOut at IC
  rw [he] at IC
  obtain ⟨L, hL⟩ : ∃ L, L = S8.isB zs [1] := ⟨_, rfl⟩
  have HB := Lib.hid (fun hb => S9q.tot_bad he hb)
  rw [← hL] at IC HB
  clear hL
  have HF := Lib.hid (krqtot_fit h.range L)
  have RC := Lib.hid (fun W (hs : Sl W A n cap zs) => krqread_any L A n cap zs W hs hn)
  obtain ⟨P, hP⟩ : ∃ P, P = S9q.tot L zs := ⟨_, rfl⟩
  rw [← hP] at HF RC HB
  clear hP
  have CF := Lib.hid (fun W (hs : Sl W A n cap zs) => krqconf_any P HF.out A n cap zs W hs)
  have HI := Lib.hid (fun (c : S9q.chkE P = 0) (e : S9q.encB P = zs) => S9q.dec_yes (zs := zs) (t := P) ⟨HF.out, c, by rw [← e]; unfold S9q.encB; rw [if_pos c]⟩)
  unfold S9q.Rq.val S9q.Rq.cells at RC CF
  clear he h
  replace IC := Lib.hid IC; replace X0 := Lib.hid X0; replace B0 := Lib.hid B0
  clear KR
  unfold zeroRq at X0
  go_enter Try.func39, Try.ntmps39
  go_wp2_with (fail)
  refine IC.out.mono ?_
  rintro e w1 ⟨rfl, hb1⟩
  have X1 := Lib.hid (X0.out.keep hb1)
  have B1 := Lib.hid (below_keep hb1 B0.out)
  clear hb1 B0 X0 IC
  go_wp2_with (fail)
  refine (RC.out _ (hk.out.keep B1.out)).mono ?_
  rintro e w2 ⟨rfl, hb2⟩
  have X2 := Lib.hid (X1.out.keep hb2)
  have B2 := Lib.hid (below_keep hb2 B1.out)
  clear hb2 B1 X1
  go_wp2_with (fail)
  refine (CF.out _ (hk.out.keep B2.out)).mono ?_
  rintro e w3 ⟨T, x, rfl, hb3, hcase⟩
  have HX : S9q.decE zs = x ∧ S9q.decT zs = T := by
    rcases hcase with ⟨c, e, rfl, rfl⟩ | ⟨hb, rfl, rfl⟩
    · exact HI.out c e
    · exact HB.out hb
  replace HX := Lib.hid HX
  have X3 := X2.out.keep hb3
  have B3 := Lib.hid (below_keep hb3 B2.out)
  clear hcase hb3 X2 B2
  have x0 := X3.c 0 _ rfl
  have x1 := X3.c 1 _ rfl
  have x2 := X3.c 2 _ rfl
  have x3 := X3.c 3 _ rfl
  have x4 := X3.c 4 _ rfl
  have x5 := X3.c 5 _ rfl
  have x6 := X3.c 6 _ rfl
  have x7 := X3.c 7 _ rfl
  have xf := X3.fz
  have xl := X3.lt
  clear X3
  unfold S9q.Rq.val S9q.Rq.cells
  go_wp2_with (fail)
  refine bodyPost_ret (v := .tuple #[T.val, .int .i64 x]) ?_ rfl ?_
  · simp [results, Try.results39, go_sem, S9q.Rq.val, S9q.Rq.cells, x0, x1, x2, x3, x4, x5, x6, x7]
  · exact RqDec.mk HX.out (by repeat (first | (with_reducible exact B3.out) | refine Below.setCell ?_ (by simp) _))

theorem krqdecode_any (A : Option Addr) (n cap : Nat) (zs : List Int) (w : World) (h : Sl w A n cap zs) (hn : n ≤ 100000) : Calls Try.prog 39 #[.slice A n cap, .int .i64 1, .func (.func 40) #[] #[], .func (.func 9) #[] #[]] w (RqDec zs w) := by
  by_cases he : S8.isE zs [1] = 0
  · exact krqdecode_read A n cap zs w h hn he
  · exact krqdecode_kind A n cap zs w h hn he

set_option maxHeartbeats 3200000 in
theorem krqdec_any (A : Option Addr) (n cap : Nat) (zs : List Int) (w : World) (h : Sl w A n cap zs) (hn : n ≤ 100000) : Calls Try.prog 11 #[.slice A n cap] w (RqDec zs w) := by
  have Bw := Lib.hid (show Below w.heap.size w (w.alloc (.cells zeroRq.toArray 25)) from (Below.refl _ _).alloc (Nat.le_refl _) _)
  have X0 := Lib.hid (BoxAt.new w zeroRq 25)
  have DC := Lib.hid (krqdecode_any A n cap zs _ (h.keep Bw.out) hn)
  unfold RqDec at DC
  obtain ⟨T, hT⟩ : ∃ T, T = S9q.decT zs := ⟨_, rfl⟩
  have HO := Lib.hid hT
  rw [← hT] at DC
  clear hT
  unfold S9q.Rq.val S9q.Rq.cells at DC
  unfold zeroRq at DC Bw X0
  go_enter Try.func11, Try.ntmps11
  go_wp2_with (fail)
  refine DC.out.mono ?_
  rintro e w2 ⟨rfl, hb2⟩
  have X2 := X0.out.keep hb2
  have B2 := Lib.hid (below_keep hb2 Bw.out)
  have x0 := X2.c 0 _ rfl
  have x1 := X2.c 1 _ rfl
  have x2 := X2.c 2 _ rfl
  have x3 := X2.c 3 _ rfl
  have x4 := X2.c 4 _ rfl
  have x5 := X2.c 5 _ rfl
  have x6 := X2.c 6 _ rfl
  have x7 := X2.c 7 _ rfl
  have xf := X2.fz
  have xl := X2.lt
  clear X2 hb2
  go_wp2_with (fail)
  refine bodyPost_ret (v := .tuple #[T.val, .int .i64 (S9q.decE zs)]) ?_ rfl ?_
  · simp [results, Try.results11, go_sem, S9q.Rq.val, S9q.Rq.cells, x0, x1, x2, x3, x4, x5, x6, x7]
  · exact ⟨by rw [HO.out], by repeat (first | (with_reducible exact B2.out) | refine Below.setCell ?_ (by simp) _)⟩

def kerConf (P : S9e.Er) (zs : List Int) (w : World) (e : Ending) (w' : World) : Prop := ∃ T x, e = .returned (.tuple #[S9e.Er.val T, .int .i64 x]) ∧ Below w.heap.size w w' ∧ (S9e.chkE P = 0 ∧ S9e.encB P = zs ∧ x = 0 ∧ T = P ∨ (S9e.chkE P ≠ 0 ∨ S9e.encB P ≠ zs) ∧ x = 100 ∧ T = S9e.Er.zero)






def krpConf (P : S9r.Rp) (Az : Option Addr) (nz cz : Nat) (zs : List Int) (w : World) (e : Ending) (w' : World) : Prop := ∃ T Y m c x, e = .returned (.tuple #[S9r.Rp.val T Y m c, .int .i64 x]) ∧ Below w.heap.size w w' ∧ (S9r.chkE P = 0 ∧ S9r.encB P = zs ∧ x = 0 ∧ T = P ∧ Y = Az ∧ m = nz ∧ c = cz ∨ (S9r.chkE P ≠ 0 ∨ S9r.encB P ≠ zs) ∧ x = 100 ∧ T = S9r.Rp.zero ∧ Y = none ∧ m = 0 ∧ c = 0)

set_option maxHeartbeats 6400000 in
theorem krpconf_any (P : S9r.Rp) (f : P.Fit) (Az : Option Addr) (nz cz : Nat) (A : Option Addr) (n cap : Nat) (zs : List Int) (w : World) (h : Sl w A n cap zs) (hz : Sl w Az nz cz P.z) : Calls Try.prog 83 #[.slice A n cap, (P.val Az nz cz), .func (.func 18) #[] #[]] w (krpConf P Az nz cz zs w) := by
  have EC := Lib.hid (fun W (hs : Sl W Az nz cz P.z) => krpenc_any P Az nz cz f W hs)
  have hk := Lib.hid h
  have B0 := Lib.hid (show Below w.heap.size w ((w.alloc (.cells (P.cells Az nz cz) 49)).alloc (.cells #[.bool false, .string ⟨#[]⟩, .string ⟨#[]⟩, .string ⟨#[]⟩, .int .i64 0, .int .i64 0, .int .i64 0, .slice none 0 0] 49)) from ((Below.refl _ _).alloc (Nat.le_refl _) _).alloc (by simp) _)
  have T0 := Lib.hid ((RpAt.new w P Az nz cz 49).keep (show Below (w.alloc (.cells (P.cells Az nz cz) 49)).heap.size (w.alloc (.cells (P.cells Az nz cz) 49)) ((w.alloc (.cells (P.cells Az nz cz) 49)).alloc (.cells #[.bool false, .string ⟨#[]⟩, .string ⟨#[]⟩, .string ⟨#[]⟩, .int .i64 0, .int .i64 0, .int .i64 0, .slice none 0 0] 49)) from (Below.refl _ _).alloc (Nat.le_refl _) _))
  have X0 := Lib.hid (show BoxAt ((w.alloc (.cells (P.cells Az nz cz) 49)).alloc (.cells #[.bool false, .string ⟨#[]⟩, .string ⟨#[]⟩, .string ⟨#[]⟩, .int .i64 0, .int .i64 0, .int .i64 0, .slice none 0 0] 49)) (w.heap.size + 1) zeroRp by have h1 := BoxAt.new (w.alloc (.cells (P.cells Az nz cz) 49)) zeroRp 49; rw [show (w.alloc (.cells (P.cells Az nz cz) 49)).heap.size = w.heap.size + 1 by simp] at h1; exact h1)
  have Z0 := Lib.hid (hz.keep B0.out)
  clear hz
  clear h
  unfold S9r.Rp.val S9r.Rp.cells at EC
  unfold S9r.Rp.val S9r.Rp.cells
  unfold S9r.Rp.cells at B0 T0 X0 Z0
  unfold zeroRp at X0
  go_enter Try.func83, Try.ntmps83
  go_wp2_with (fail)
  refine (EC.out _ Z0.out).mono ?_
  rintro e w2 ⟨A2, n2, c2, rfl, hs2, hb2, _⟩
  have T4 := Lib.hid (T0.out.keep hb2)
  have X4 := X0.out.keep hb2
  have B4 := Lib.hid (below_keep hb2 B0.out)
  have EQ := bequal_any A2 A n2 c2 n cap (S9r.encB P) zs w2 hs2 (hk.out.keep B4.out)
  clear hb2 T0 B0 X0 hs2 Z0
  obtain ⟨q0, q1, q2, q3, q4, q5, q6, q7⟩ := T4.out
  have x0 := X4.c 0 _ rfl
  have x1 := X4.c 1 _ rfl
  have x2 := X4.c 2 _ rfl
  have x3 := X4.c 3 _ rfl
  have x4 := X4.c 4 _ rfl
  have x5 := X4.c 5 _ rfl
  have x6 := X4.c 6 _ rfl
  have x7 := X4.c 7 _ rfl
  have xf := X4.fz
  have xl := X4.lt
  have hsz := B4.out.size
  clear X4 T4
  by_cases he : S9r.chkE P = 0
  · have he2 : (S9r.chkE P != 0) = false := by simpa using he
    by_cases hz : S9r.encB P = zs
    · have HC := Lib.hid (And.intro he hz)
      rw [decide_eq_true hz] at EQ
      replace EQ := Lib.hid EQ
      clear hz he
      go_wp2_with (go_at_call 80; refine EQ.out.mono ?_; rintro e w' ⟨rfl, rfl⟩)
      refine bodyPost_ret (v := .tuple #[(P.val Az nz cz), .int .i64 0]) ?_ rfl ?_
      · simp [results, Try.results83, go_sem, S9r.Rp.val, S9r.Rp.cells, x0, x1, x2, x3, x4, x5, x6, x7]
      · exact ⟨P, Az, nz, cz, 0, rfl, by repeat (first | (with_reducible exact B4.out) | refine Below.setCell ?_ (by first | omega | simp) _), .inl ⟨HC.out.1, HC.out.2, rfl, rfl, rfl, rfl, rfl⟩⟩
    · have HC := Lib.hid hz
      rw [decide_eq_false hz] at EQ
      replace EQ := Lib.hid EQ
      clear hz he
      go_wp2_with (go_at_call 80; refine EQ.out.mono ?_; rintro e w' ⟨rfl, rfl⟩)
      refine bodyPost_ret (v := .tuple #[(S9r.Rp.zero.val none 0 0), .int .i64 100]) ?_ rfl ?_
      · simp [results, Try.results83, go_sem, S9r.Rp.val, S9r.Rp.cells, S9r.Rp.zero, xl, x0, x1, x2, x3, x4, x5, x6, x7]
      · exact ⟨S9r.Rp.zero, none, 0, 0, 100, rfl, by refine Below.alloc ?_ (by simp; omega) _; repeat (first | (with_reducible exact B4.out) | refine Below.setCell ?_ (by first | omega | simp) _), .inr ⟨.inr HC.out, rfl, rfl, rfl, rfl, rfl⟩⟩
  · have HC := Lib.hid he
    have he2 : (S9r.chkE P != 0) = true := by simpa using he
    clear he EQ
    go_wp2_with (fail)
    refine bodyPost_ret (v := .tuple #[(S9r.Rp.zero.val none 0 0), .int .i64 100]) ?_ rfl ?_
    · simp [results, Try.results83, go_sem, S9r.Rp.val, S9r.Rp.cells, S9r.Rp.zero, xl, x0, x1, x2, x3, x4, x5, x6, x7]
    · exact ⟨S9r.Rp.zero, none, 0, 0, 100, rfl, by refine Below.alloc ?_ (by simp; omega) _; repeat (first | (with_reducible exact B4.out) | refine Below.setCell ?_ (by first | omega | simp) _), .inr ⟨.inl HC.out, rfl, rfl, rfl, rfl, rfl⟩⟩

set_option maxHeartbeats 6400000 in
theorem krpdecode_kind (A : Option Addr) (n cap : Nat) (zs : List Int) (w : World) (h : Sl w A n cap zs) (hn : n ≤ 100000) (he : S8.isE zs [2] ≠ 0) : Calls Try.prog 55 #[.slice A n cap, .int .i64 2, .func (.func 56) #[] #[], .func (.func 18) #[] #[]] w (RpDec zs w) := by
  have HX := Lib.hid (S9r.dec_kind he)
  have he2 : (S8.isE zs [2] != 0) = true := by simpa using he
  have hk := Lib.hid h
  have X0 : BoxAt ((w.alloc (.cells #[.bool false, .string ⟨#[]⟩, .string ⟨#[]⟩, .string ⟨#[]⟩, .int .i64 0, .int .i64 0, .int .i64 0, .slice none 0 0] 49)).alloc (.cells #[.int .i64 2] 3)) w.heap.size zeroRp := (BoxAt.new w zeroRp 49).grown (World.grownBy_alloc _ _ none) (by simp)
  have B0 : Below w.heap.size w ((w.alloc (.cells #[.bool false, .string ⟨#[]⟩, .string ⟨#[]⟩, .string ⟨#[]⟩, .int .i64 0, .int .i64 0, .int .i64 0, .slice none 0 0] 49)).alloc (.cells #[.int .i64 2] 3)) := ((Below.refl _ _).alloc (Nat.le_refl _) _).alloc (by simp) _
  have KR : RowK .i64 ((w.alloc (.cells #[.bool false, .string ⟨#[]⟩, .string ⟨#[]⟩, .string ⟨#[]⟩, .int .i64 0, .int .i64 0, .int .i64 0, .slice none 0 0] 49)).alloc (.cells #[.int .i64 2] 3)) (some ⟨w.heap.size + 1, 0, none⟩) 1 [2] := by
    have := rqrow_one (w.alloc (.cells #[.bool false, .string ⟨#[]⟩, .string ⟨#[]⟩, .string ⟨#[]⟩, .int .i64 0, .int .i64 0, .int .i64 0, .slice none 0 0] 49)) 2 (by decide) 3
    rw [show (w.alloc (.cells #[.bool false, .string ⟨#[]⟩, .string ⟨#[]⟩, .string ⟨#[]⟩, .int .i64 0, .int .i64 0, .int .i64 0, .slice none 0 0] 49)).heap.size = w.heap.size + 1 by simp] at this
    exact this
  have IC := his_any A n cap zs (some ⟨w.heap.size + 1, 0, none⟩) 1 1 [2] ((w.alloc (.cells #[.bool false, .string ⟨#[]⟩, .string ⟨#[]⟩, .string ⟨#[]⟩, .int .i64 0, .int .i64 0, .int .i64 0, .slice none 0 0] 49)).alloc (.cells #[.int .i64 2] 3)) (h.keep B0) hn KR (by decide)
  unfold IsOut at IC
  clear he h
  replace IC := Lib.hid IC; replace X0 := Lib.hid X0; replace B0 := Lib.hid B0
  clear KR
  unfold zeroRp at X0
  go_enter Try.func55, Try.ntmps55
  go_wp2_with (fail)
  refine IC.out.mono ?_
  rintro e w1 ⟨rfl, hb1⟩
  have X1 := X0.out.keep hb1
  have B1 := Lib.hid (below_keep hb1 B0.out)
  have hsz := B1.out.size
  clear hb1 B0 X0 IC
  have x0 := X1.c 0 _ rfl
  have x1 := X1.c 1 _ rfl
  have x2 := X1.c 2 _ rfl
  have x3 := X1.c 3 _ rfl
  have x4 := X1.c 4 _ rfl
  have x5 := X1.c 5 _ rfl
  have x6 := X1.c 6 _ rfl
  have x7 := X1.c 7 _ rfl
  have xf := X1.fz
  have xl := X1.lt
  clear X1
  go_wp2_with (fail)
  refine bodyPost_ret (v := .tuple #[S9r.Rp.zero.val none 0 0, .int .i64 (S8.isE zs [2])]) ?_ rfl ?_
  · simp [results, Try.results55, go_sem, S9r.Rp.val, S9r.Rp.cells, S9r.Rp.zero, xl, x0, x1, x2, x3, x4, x5, x6, x7]
  · exact RpDec.mk HX.out (Sl.nil _) (Fresh.nil _) (by refine Below.alloc ?_ (by simp; omega) _; repeat (first | (with_reducible exact B1.out) | refine Below.setCell ?_ (by simp) _))

set_option maxHeartbeats 6400000 in
theorem krpdecode_read (A : Option Addr) (n cap : Nat) (zs : List Int) (w : World) (h : Sl w A n cap zs) (hn : n ≤ 100000) (he : S8.isE zs [2] = 0) : Calls Try.prog 55 #[.slice A n cap, .int .i64 2, .func (.func 56) #[] #[], .func (.func 18) #[] #[]] w (RpDec zs w) := by
  have hk := Lib.hid h
  have X0 : BoxAt ((w.alloc (.cells #[.bool false, .string ⟨#[]⟩, .string ⟨#[]⟩, .string ⟨#[]⟩, .int .i64 0, .int .i64 0, .int .i64 0, .slice none 0 0] 49)).alloc (.cells #[.int .i64 2] 3)) w.heap.size zeroRp := (BoxAt.new w zeroRp 49).grown (World.grownBy_alloc _ _ none) (by simp)
  have B0 : Below w.heap.size w ((w.alloc (.cells #[.bool false, .string ⟨#[]⟩, .string ⟨#[]⟩, .string ⟨#[]⟩, .int .i64 0, .int .i64 0, .int .i64 0, .slice none 0 0] 49)).alloc (.cells #[.int .i64 2] 3)) := ((Below.refl _ _).alloc (Nat.le_refl _) _).alloc (by simp) _
  have KR : RowK .i64 ((w.alloc (.cells #[.bool false, .string ⟨#[]⟩, .string ⟨#[]⟩, .string ⟨#[]⟩, .int .i64 0, .int .i64 0, .int .i64 0, .slice none 0 0] 49)).alloc (.cells #[.int .i64 2] 3)) (some ⟨w.heap.size + 1, 0, none⟩) 1 [2] := by
    have := rqrow_one (w.alloc (.cells #[.bool false, .string ⟨#[]⟩, .string ⟨#[]⟩, .string ⟨#[]⟩, .int .i64 0, .int .i64 0, .int .i64 0, .slice none 0 0] 49)) 2 (by decide) 3
    rw [show (w.alloc (.cells #[.bool false, .string ⟨#[]⟩, .string ⟨#[]⟩, .string ⟨#[]⟩, .int .i64 0, .int .i64 0, .int .i64 0, .slice none 0 0] 49)).heap.size = w.heap.size + 1 by simp] at this
    exact this
  have IC := his_any A n cap zs (some ⟨w.heap.size + 1, 0, none⟩) 1 1 [2] ((w.alloc (.cells #[.bool false, .string ⟨#[]⟩, .string ⟨#[]⟩, .string ⟨#[]⟩, .int .i64 0, .int .i64 0, .int .i64 0, .slice none 0 0] 49)).alloc (.cells #[.int .i64 2] 3)) (h.keep B0) hn KR (by decide)
  unfold IsOut at IC
  rw [he] at IC
  obtain ⟨L, hL⟩ : ∃ L, L = S8.isB zs [2] := ⟨_, rfl⟩
  have HB := Lib.hid (fun hb => S9r.tot_bad he hb)
  rw [← hL] at IC HB
  clear hL
  have HF := Lib.hid (krptot_fit h.range L)
  have RC := Lib.hid (fun W (hs : Sl W A n cap zs) => krpread_any L A n cap zs W hs hn)
  obtain ⟨P, hP⟩ : ∃ P, P = S9r.tot L zs := ⟨_, rfl⟩
  rw [← hP] at HF RC HB
  clear hP
  have CF := Lib.hid (fun Az nz cz W (hs : Sl W A n cap zs) (hz : Sl W Az nz cz P.z) => krpconf_any P HF.out Az nz cz A n cap zs W hs hz)
  have HI := Lib.hid (fun (c : S9r.chkE P = 0) (e : S9r.encB P = zs) => S9r.dec_yes (zs := zs) (t := P) ⟨HF.out, c, by rw [← e]; unfold S9r.encB; rw [if_pos c]⟩)
  unfold S9r.Rp.val S9r.Rp.cells at RC CF
  clear he h
  replace IC := Lib.hid IC; replace X0 := Lib.hid X0; replace B0 := Lib.hid B0
  clear KR
  unfold zeroRp at X0
  go_enter Try.func55, Try.ntmps55
  go_wp2_with (fail)
  refine IC.out.mono ?_
  rintro e w1 ⟨rfl, hb1⟩
  have X1 := Lib.hid (X0.out.keep hb1)
  have B1 := Lib.hid (below_keep hb1 B0.out)
  clear hb1 B0 X0 IC
  go_wp2_with (fail)
  refine (RC.out _ (hk.out.keep B1.out)).mono ?_
  rintro e w2 ⟨Az, nz, cz, rfl, hz2, hb2, hf2⟩
  replace hz2 := Lib.hid hz2
  have hf := Lib.hid (hf2.le (show w.heap.size + 1 ≤ _ from X1.out.lt))
  clear hf2
  have X2 := Lib.hid (X1.out.keep hb2)
  have B2 := Lib.hid (below_keep hb2 B1.out)
  clear hb2 B1 X1
  go_wp2_with (fail)
  refine (CF.out _ _ _ _ (hk.out.keep B2.out) hz2.out).mono ?_
  rintro e w3 ⟨T, Y, m, c, x, rfl, hb3, hcase⟩
  have HX : S9r.decE zs = x ∧ S9r.decT zs = T := by
    rcases hcase with ⟨c, e, rfl, rfl, _, _, _⟩ | ⟨hb, rfl, rfl, _, _, _⟩
    · exact HI.out c e
    · exact HB.out hb
  have HS : Sl w3 Y m c T.z ∧ Fresh (w.heap.size + 1) Y := by
    rcases hcase with ⟨_, _, rfl, rfl, rfl, rfl, rfl⟩ | ⟨_, rfl, rfl, rfl, rfl, rfl⟩
    · exact ⟨hz2.out.keep hb3, hf.out⟩
    · exact ⟨Sl.nil _, Fresh.nil _⟩
  replace HS := Lib.hid HS
  replace HX := Lib.hid HX
  have X3 := X2.out.keep hb3
  have B3 := Lib.hid (below_keep hb3 B2.out)
  clear hcase hb3 X2 B2
  have x0 := X3.c 0 _ rfl
  have x1 := X3.c 1 _ rfl
  have x2 := X3.c 2 _ rfl
  have x3 := X3.c 3 _ rfl
  have x4 := X3.c 4 _ rfl
  have x5 := X3.c 5 _ rfl
  have x6 := X3.c 6 _ rfl
  have x7 := X3.c 7 _ rfl
  have xf := X3.fz
  have xl := X3.lt
  clear X3
  unfold S9r.Rp.val S9r.Rp.cells
  go_wp2_with (fail)
  refine bodyPost_ret (v := .tuple #[T.val Y m c, .int .i64 x]) ?_ rfl ?_
  · simp [results, Try.results55, go_sem, S9r.Rp.val, S9r.Rp.cells, x0, x1, x2, x3, x4, x5, x6, x7]
  · exact RpDec.mk HX.out (by repeat (first | (with_reducible exact HS.out.1) | refine Sl.set ?_ _ _ (HS.out.2.ne (by simp)))) (HS.out.2.le (by simp)) (by repeat (first | (with_reducible exact B3.out) | refine Below.setCell ?_ (by simp) _))

theorem krpdecode_any (A : Option Addr) (n cap : Nat) (zs : List Int) (w : World) (h : Sl w A n cap zs) (hn : n ≤ 100000) : Calls Try.prog 55 #[.slice A n cap, .int .i64 2, .func (.func 56) #[] #[], .func (.func 18) #[] #[]] w (RpDec zs w) := by
  by_cases he : S8.isE zs [2] = 0
  · exact krpdecode_read A n cap zs w h hn he
  · exact krpdecode_kind A n cap zs w h hn he

set_option maxHeartbeats 3200000 in
theorem krpdec_any (A : Option Addr) (n cap : Nat) (zs : List Int) (w : World) (h : Sl w A n cap zs) (hn : n ≤ 100000) : Calls Try.prog 20 #[.slice A n cap] w (RpDec zs w) := by
  have Bw := Lib.hid (show Below w.heap.size w (w.alloc (.cells zeroRp.toArray 49)) from (Below.refl _ _).alloc (Nat.le_refl _) _)
  have X0 := Lib.hid (BoxAt.new w zeroRp 49)
  have DC := Lib.hid (krpdecode_any A n cap zs _ (h.keep Bw.out) hn)
  unfold RpDec at DC
  obtain ⟨T, hT⟩ : ∃ T, T = S9r.decT zs := ⟨_, rfl⟩
  have HO := Lib.hid hT
  rw [← hT] at DC
  clear hT
  unfold S9r.Rp.val S9r.Rp.cells at DC
  unfold zeroRp at DC Bw X0
  go_enter Try.func20, Try.ntmps20
  go_wp2_with (fail)
  refine DC.out.mono ?_
  rintro e w2 ⟨Az, nz, cz, rfl, hsz, hb2, hfr⟩
  have X2 := X0.out.keep hb2
  have B2 := Lib.hid (below_keep hb2 Bw.out)
  have x0 := X2.c 0 _ rfl
  have x1 := X2.c 1 _ rfl
  have x2 := X2.c 2 _ rfl
  have x3 := X2.c 3 _ rfl
  have x4 := X2.c 4 _ rfl
  have x5 := X2.c 5 _ rfl
  have x6 := X2.c 6 _ rfl
  have x7 := X2.c 7 _ rfl
  have xf := X2.fz
  have xl := X2.lt
  clear X2 hb2
  go_wp2_with (fail)
  refine bodyPost_ret (v := .tuple #[T.val Az nz cz, .int .i64 (S9r.decE zs)]) ?_ rfl ?_
  · simp [results, Try.results20, go_sem, S9r.Rp.val, S9r.Rp.cells, x0, x1, x2, x3, x4, x5, x6, x7]
  · unfold RpDec
    rw [← HO.out]
    exact ⟨Az, nz, cz, rfl, by repeat (first | (with_reducible exact hsz) | refine Sl.set ?_ _ _ (fun b off e => by have := hfr b off e; simp at this ⊢; omega)), by repeat (first | (with_reducible exact B2.out) | refine Below.setCell ?_ (by simp) _), hfr.le (by simp)⟩

theorem kptclo_any (l : Bool) (t : S9p.Pt) (A : Option Addr) (n cap : Nat) (f : t.Fit) (gb : Nat) (w : World) (hz : Sl w A n cap t.z) (hc : w.cell? ⟨gb, 0, none⟩ = some (.bool l)) : Calls Try.prog 49 #[(t.val A n cap), .pointer (some ⟨gb, 0, none⟩)] w (PtEnc l t w) := by
  have B := Lib.hid (show Below w.heap.size w (w.alloc (.cells (t.cells A n cap) 40)) from (Below.refl _ _).alloc (Nat.le_refl _) _)
  have K := Lib.hid (fun W (h : Sl W A n cap t.z) => kptenc_any l t A n cap f W h)
  have hk := Lib.hid (hz.keep B.out)
  have c0 := cell_keep B.out hc
  clear hc hz
  unfold S9p.Pt.cells at B c0 hk
  unfold S9p.Pt.val S9p.Pt.cells at K
  unfold S9p.Pt.val S9p.Pt.cells
  go_enter Try.func49, Try.ntmps49
  go_wp2_with (fail)
  refine (K.out _ hk.out).mono ?_
  rintro e w1 ⟨A1, n1, c1, rfl, hs1, hb1, hf1⟩
  go_wp2_with (fail)
  go_ret2
  exact ⟨A1, n1, c1, rfl, hs1, below_keep hb1 B.out, hf1.le B.out.size⟩

def kptConf (l : Bool) (P : S9p.Pt) (Az : Option Addr) (nz cz : Nat) (zs : List Int) (w : World) (e : Ending) (w' : World) : Prop := ∃ T Y m c x, e = .returned (.tuple #[S9p.Pt.val T Y m c, .int .i64 x]) ∧ Below w.heap.size w w' ∧ (S9p.chkE P = 0 ∧ S9p.encB l P = zs ∧ x = 0 ∧ T = P ∧ Y = Az ∧ m = nz ∧ c = cz ∨ (S9p.chkE P ≠ 0 ∨ S9p.encB l P ≠ zs) ∧ x = 100 ∧ T = S9p.Pt.zero ∧ Y = none ∧ m = 0 ∧ c = 0)

set_option maxHeartbeats 6400000 in
theorem kptconf_any (l : Bool) (P : S9p.Pt) (f : P.Fit) (Az : Option Addr) (nz cz : Nat) (A : Option Addr) (n cap : Nat) (zs : List Int) (w : World) (h : Sl w A n cap zs) (hz : Sl w Az nz cz P.z) (gb : Nat) (hc : w.cell? ⟨gb, 0, none⟩ = some (.bool l)) : Calls Try.prog 50 #[.slice A n cap, (P.val Az nz cz), .func (.func 49) #[] #[.pointer (some ⟨gb, 0, none⟩)]] w (kptConf l P Az nz cz zs w) := by
  have EC := Lib.hid (fun W (hs : Sl W Az nz cz P.z) (hc : W.cell? ⟨gb, 0, none⟩ = some (.bool l)) => kptclo_any l P Az nz cz f gb W hs hc)
  have hk := Lib.hid h
  have B0 := Lib.hid (show Below w.heap.size w ((w.alloc (.cells (P.cells Az nz cz) 40)).alloc (.cells #[.int .u64 0, .string ⟨#[]⟩, .string ⟨#[]⟩, .string ⟨#[]⟩, .int .i64 0, .int .i64 0, .slice none 0 0, .int .i64 0] 40)) from ((Below.refl _ _).alloc (Nat.le_refl _) _).alloc (by simp) _)
  have T0 := Lib.hid ((PtAt.new w P Az nz cz 40).keep (show Below (w.alloc (.cells (P.cells Az nz cz) 40)).heap.size (w.alloc (.cells (P.cells Az nz cz) 40)) ((w.alloc (.cells (P.cells Az nz cz) 40)).alloc (.cells #[.int .u64 0, .string ⟨#[]⟩, .string ⟨#[]⟩, .string ⟨#[]⟩, .int .i64 0, .int .i64 0, .slice none 0 0, .int .i64 0] 40)) from (Below.refl _ _).alloc (Nat.le_refl _) _))
  have X0 := Lib.hid (show BoxAt ((w.alloc (.cells (P.cells Az nz cz) 40)).alloc (.cells #[.int .u64 0, .string ⟨#[]⟩, .string ⟨#[]⟩, .string ⟨#[]⟩, .int .i64 0, .int .i64 0, .slice none 0 0, .int .i64 0] 40)) (w.heap.size + 1) zeroPt by have h1 := BoxAt.new (w.alloc (.cells (P.cells Az nz cz) 40)) zeroPt 40; rw [show (w.alloc (.cells (P.cells Az nz cz) 40)).heap.size = w.heap.size + 1 by simp] at h1; exact h1)
  have Z0 := Lib.hid (hz.keep B0.out)
  clear hz
  have hc0 := Lib.hid (cell_keep B0.out hc)
  clear hc
  clear h
  unfold S9p.Pt.val S9p.Pt.cells at EC
  unfold S9p.Pt.val S9p.Pt.cells
  unfold S9p.Pt.cells at B0 T0 X0 Z0 hc0
  unfold zeroPt at X0
  go_enter Try.func50, Try.ntmps50
  go_wp2_with (fail)
  refine (EC.out _ Z0.out hc0.out).mono ?_
  rintro e w2 ⟨A2, n2, c2, rfl, hs2, hb2, _⟩
  have T4 := Lib.hid (T0.out.keep hb2)
  have X4 := X0.out.keep hb2
  have B4 := Lib.hid (below_keep hb2 B0.out)
  have EQ := bequal_any A2 A n2 c2 n cap (S9p.encB l P) zs w2 hs2 (hk.out.keep B4.out)
  clear hb2 T0 B0 X0 hs2 Z0 hc0
  obtain ⟨q0, q1, q2, q3, q4, q5, q6, q7⟩ := T4.out
  have x0 := X4.c 0 _ rfl
  have x1 := X4.c 1 _ rfl
  have x2 := X4.c 2 _ rfl
  have x3 := X4.c 3 _ rfl
  have x4 := X4.c 4 _ rfl
  have x5 := X4.c 5 _ rfl
  have x6 := X4.c 6 _ rfl
  have x7 := X4.c 7 _ rfl
  have xf := X4.fz
  have xl := X4.lt
  have hsz := B4.out.size
  clear X4 T4
  by_cases he : S9p.chkE P = 0
  · have he2 : (S9p.chkE P != 0) = false := by simpa using he
    by_cases hz : S9p.encB l P = zs
    · have HC := Lib.hid (And.intro he hz)
      rw [decide_eq_true hz] at EQ
      replace EQ := Lib.hid EQ
      clear hz he
      go_wp2_with (go_at_call 80; refine EQ.out.mono ?_; rintro e w' ⟨rfl, rfl⟩)
      refine bodyPost_ret (v := .tuple #[(P.val Az nz cz), .int .i64 0]) ?_ rfl ?_
      · simp [results, Try.results50, go_sem, S9p.Pt.val, S9p.Pt.cells, x0, x1, x2, x3, x4, x5, x6, x7]
      · exact ⟨P, Az, nz, cz, 0, rfl, by repeat (first | (with_reducible exact B4.out) | refine Below.setCell ?_ (by first | omega | simp) _), .inl ⟨HC.out.1, HC.out.2, rfl, rfl, rfl, rfl, rfl⟩⟩
    · have HC := Lib.hid hz
      rw [decide_eq_false hz] at EQ
      replace EQ := Lib.hid EQ
      clear hz he
      go_wp2_with (go_at_call 80; refine EQ.out.mono ?_; rintro e w' ⟨rfl, rfl⟩)
      refine bodyPost_ret (v := .tuple #[(S9p.Pt.zero.val none 0 0), .int .i64 100]) ?_ rfl ?_
      · simp [results, Try.results50, go_sem, S9p.Pt.val, S9p.Pt.cells, S9p.Pt.zero, xl, x0, x1, x2, x3, x4, x5, x6, x7]
      · exact ⟨S9p.Pt.zero, none, 0, 0, 100, rfl, by refine Below.alloc ?_ (by simp; omega) _; repeat (first | (with_reducible exact B4.out) | refine Below.setCell ?_ (by first | omega | simp) _), .inr ⟨.inr HC.out, rfl, rfl, rfl, rfl, rfl⟩⟩
  · have HC := Lib.hid he
    have he2 : (S9p.chkE P != 0) = true := by simpa using he
    clear he EQ
    go_wp2_with (fail)
    refine bodyPost_ret (v := .tuple #[(S9p.Pt.zero.val none 0 0), .int .i64 100]) ?_ rfl ?_
    · simp [results, Try.results50, go_sem, S9p.Pt.val, S9p.Pt.cells, S9p.Pt.zero, xl, x0, x1, x2, x3, x4, x5, x6, x7]
    · exact ⟨S9p.Pt.zero, none, 0, 0, 100, rfl, by refine Below.alloc ?_ (by simp; omega) _; repeat (first | (with_reducible exact B4.out) | refine Below.setCell ?_ (by first | omega | simp) _), .inr ⟨.inl HC.out, rfl, rfl, rfl, rfl, rfl⟩⟩

set_option maxHeartbeats 6400000 in
theorem kptdec_any (l : Bool) (A : Option Addr) (n cap : Nat) (zs : List Int) (w : World) (h : Sl w A n cap zs) (hn : n ≤ 100000) : Calls Try.prog 15 #[.slice A n cap, .bool l] w (PtDec l zs w) := by
  have hk := Lib.hid h
  have B0 := Lib.hid (show Below w.heap.size w ((w.alloc (.cells #[.bool l] 4)).alloc (.cells #[.int .u64 0, .string ⟨#[]⟩, .string ⟨#[]⟩, .string ⟨#[]⟩, .int .i64 0, .int .i64 0, .slice none 0 0, .int .i64 0] 40)) from ((Below.refl _ _).alloc (Nat.le_refl _) _).alloc (by simp) _)
  have X0 := Lib.hid (show BoxAt ((w.alloc (.cells #[.bool l] 4)).alloc (.cells #[.int .u64 0, .string ⟨#[]⟩, .string ⟨#[]⟩, .string ⟨#[]⟩, .int .i64 0, .int .i64 0, .slice none 0 0, .int .i64 0] 40)) (w.heap.size + 1) zeroPt by have h1 := BoxAt.new (w.alloc (.cells #[.bool l] 4)) zeroPt 40; rw [show (w.alloc (.cells #[.bool l] 4)).heap.size = w.heap.size + 1 by simp] at h1; exact h1)
  have c0 : ((w.alloc (.cells #[.bool l] 4)).alloc (.cells #[.int .u64 0, .string ⟨#[]⟩, .string ⟨#[]⟩, .string ⟨#[]⟩, .int .i64 0, .int .i64 0, .slice none 0 0, .int .i64 0] 40)).cell? ⟨w.heap.size, 0, none⟩ = some (.bool l) := by simp [go_sem]
  have HB := Lib.hid (fun hb => S9p.tot_bad (l := l) (zs := zs) hb)
  have HF := Lib.hid (kpttot_fit h.range l)
  have RC := Lib.hid (fun W (hs : Sl W A n cap zs) => kptread_any l A n cap zs W hs hn)
  obtain ⟨P, hP⟩ : ∃ P, P = S9p.tot l zs := ⟨_, rfl⟩
  rw [← hP] at HF RC HB
  clear hP
  have CF := Lib.hid (fun Az nz cz W (hs : Sl W A n cap zs) (hz : Sl W Az nz cz P.z) (hc : W.cell? ⟨w.heap.size, 0, none⟩ = some (.bool l)) => kptconf_any l P HF.out Az nz cz A n cap zs W hs hz w.heap.size hc)
  have HI := Lib.hid (fun (c : S9p.chkE P = 0) (e : S9p.encB l P = zs) => S9p.dec_yes (l := l) (zs := zs) (t := P) ⟨HF.out, c, by rw [← e]; unfold S9p.encB; rw [if_pos c]⟩)
  unfold S9p.Pt.val S9p.Pt.cells at RC CF
  clear h
  unfold zeroPt at X0
  go_enter Try.func15, Try.ntmps15
  go_wp2_with (fail)
  refine (RC.out _ (hk.out.keep B0.out)).mono ?_
  rintro e w2 ⟨Az, nz, cz, rfl, hz2, hb2, hf2⟩
  replace hz2 := Lib.hid hz2
  have hf := Lib.hid (hf2.le (show w.heap.size + 2 ≤ _ by simp))
  clear hf2
  have X2 := Lib.hid (X0.out.keep hb2)
  have B2 := Lib.hid (below_keep hb2 B0.out)
  have c2 := cell_keep hb2 c0
  clear hb2 B0 X0 c0
  go_wp2_with (fail)
  refine (CF.out _ _ _ _ (hk.out.keep B2.out) hz2.out c2).mono ?_
  rintro e w3 ⟨T, Y, m, c, x, rfl, hb3, hcase⟩
  have HX : S9p.decE l zs = x ∧ S9p.decT l zs = T := by
    rcases hcase with ⟨c, e, rfl, rfl, _, _, _⟩ | ⟨hb, rfl, rfl, _, _, _⟩
    · exact HI.out c e
    · exact HB.out hb
  have HS : Sl w3 Y m c T.z ∧ Fresh (w.heap.size + 2) Y := by
    rcases hcase with ⟨_, _, rfl, rfl, rfl, rfl, rfl⟩ | ⟨_, rfl, rfl, rfl, rfl, rfl⟩
    · exact ⟨hz2.out.keep hb3, hf.out⟩
    · exact ⟨Sl.nil _, Fresh.nil _⟩
  replace HS := Lib.hid HS
  replace HX := Lib.hid HX
  have X3 := X2.out.keep hb3
  have B3 := Lib.hid (below_keep hb3 B2.out)
  clear hcase hb3 X2 B2 c2
  have x0 := X3.c 0 _ rfl
  have x1 := X3.c 1 _ rfl
  have x2 := X3.c 2 _ rfl
  have x3 := X3.c 3 _ rfl
  have x4 := X3.c 4 _ rfl
  have x5 := X3.c 5 _ rfl
  have x6 := X3.c 6 _ rfl
  have x7 := X3.c 7 _ rfl
  have xf := X3.fz
  have xl := X3.lt
  clear X3
  unfold S9p.Pt.val S9p.Pt.cells
  go_wp2_with (fail)
  refine bodyPost_ret (v := .tuple #[T.val Y m c, .int .i64 x]) ?_ rfl ?_
  · simp [results, Try.results15, go_sem, S9p.Pt.val, S9p.Pt.cells, x0, x1, x2, x3, x4, x5, x6, x7]
  · exact PtDec.mk HX.out (by repeat (first | (with_reducible exact HS.out.1) | refine Sl.set ?_ _ _ (HS.out.2.ne (by simp)))) (HS.out.2.le (by simp)) (by repeat (first | (with_reducible exact B3.out) | refine Below.setCell ?_ (by simp) _))

end Go.Proofs.Ytkhkmgblgonfoaa
