/-
  What Decode of the document's answer for tickets returns.
-/
import Derived.Test.YtjkpbkbgbgckaaaGreatQTkB
import Derived.Test.YtjkpbkbgbgckaaaGreatQDst
namespace Go.Proofs.YtjkpbkbgbgckaaaGreat
open Go.RowKit

/-- What Decode returns. -/
def DecOut (zs : List Int) (w : World) (e : Ending) (w' : World) : Prop := e = .returned (.tuple #[(S6.decT zs).val, .int .i64 (S6.decE zs)]) ∧ Below w.heap.size w w'
theorem str_inj {xs ys : List Int} (hx : ∀ n ∈ xs, 0 ≤ n ∧ n ≤ 255) (hy : ∀ n ∈ ys, 0 ≤ n ∧ n ≤ 255) (h : (strOfNums xs).toList = (strOfNums ys).toList) : xs = ys := by
  refine strOfNums_inj hx hy ?_
  rw [ByteArray.toList_eq, ByteArray.toList_eq] at h
  exact ByteArray.ext (Array.ext' h)
theorem dec_out {zs : List Int} {w w' : World} {t : S6.Tk} {x : Int} (h : S6.decE zs = x ∧ S6.decT zs = t) (hb : Below w.heap.size w w') : DecOut zs w (.returned (.tuple #[t.val, .int .i64 x])) w' := ⟨by rw [h.1, h.2], hb⟩
def zeroL : List Value := [.bool false, .string ⟨#[]⟩, .string ⟨#[]⟩, .string ⟨#[]⟩, .int .i64 0, .int .u64 0, .int .i64 0, .int .i64 0, .string ⟨#[]⟩, .string ⟨#[]⟩]
theorem parse_fit {zs : List Int} (hz : ∀ z ∈ zs, 0 ≤ z ∧ z ≤ 255) : (S6.parse zs).Fit := by
  have g : ∀ a k l, k ≤ 4 → -9223372036854775808 ≤ S5.getV zs a k l ∧ S5.getV zs a k l ≤ 9223372036854775807 := fun a k l hk => by have := getV_range hz a k l hk; omega
  exact ⟨txS_size _ _, txS_size _ _, txS_size _ _, txS_size _ _, txS_size _ _, g _ _ _ (by decide), readN_range (byS_range hz _ _), g _ _ _ (by decide), g _ _ _ (by decide)⟩

set_option maxRecDepth 100000 in
set_option maxHeartbeats 3200000 in
theorem r6decode_order (A : Option Addr) (n cap : Nat) (zs : List Int) (w : World) (h : Sl w A n cap zs) (h1 : 1 < zs.getD 0 0) : Calls Tryz.prog 25 #[.slice A n cap] w (DecOut zs w) := by
  have HD := Lib.hid (S6.dec_order h1)
  have hn : 0 < n := by
    rcases Nat.eq_zero_or_pos n with e | e
    · have : zs = [] := List.eq_nil_of_length_eq_zero (by rw [h.len]; exact e)
      subst this; simp at h1
    · exact e
  obtain ⟨b, off, z0, rfl, hz, _, _, d0⟩ := h.row.at hn
  rw [Nat.add_zero] at d0
  have hz1 : 1 < z0 := by rw [List.getD_eq_getElem?_getD, hz] at h1; exact h1
  have hlt := cell_lt d0
  have hn' : (0 : Int) < (n : Int) := by omega
  clear hz h1
  go_enter Tryz.func25, Tryz.ntmps25
  go_wp2_with (fail)
  refine bodyPost_ret (v := .tuple #[S6.Tk.zero.val, .int .i64 7]) (by simp [results, Tryz.results25, go_sem, S6.Tk.val, S6.Tk.cells, S6.Tk.zero]) rfl ⟨by rw [HD.out.1, HD.out.2], ?_⟩
  repeat (first | exact Below.refl _ _ | refine Below.setCell ?_ (by simp) _ | refine Below.alloc ?_ (by simp) _)

theorem rd_little {w : World} {r : Nat} {A : Option Addr} {n cap : Nat} {l b : Bool} {s : S5.St} (h : Rd w r A n cap l s) : Rd (w.setCell ⟨r, 2, none⟩ (.bool b)) r A n cap b s := by
  obtain ⟨c0, c1, c2, c3, fz⟩ := h
  exact ⟨by simp [go_sem, c0], by simp [go_sem, c1], by simp [go_sem, c2], by simp [go_sem, c3], fun o => by simp [go_sem, fz]⟩

set_option maxRecDepth 100000 in
set_option maxHeartbeats 3200000 in
theorem r6decode_read (A : Option Addr) (n cap : Nat) (zs : List Int) (w : World) (h : Sl w A n cap zs) (hn : n ≤ 100000) (h1 : ¬ 1 < zs.getD 0 0) : Calls Tryz.prog 25 #[.slice A n cap] w (DecOut zs w) := by
  have HN := Lib.hid h1
  have hrg := Lib.hid h.range
  have HF := Lib.hid (parse_fit h.range)
  obtain ⟨P, hP⟩ : ∃ P, P = S6.parse zs := ⟨_, rfl⟩
  have EC := Lib.hid (fun W => r6encode_any P (by rw [hP]; exact HF.out) W)
  unfold S6.Tk.val S6.Tk.cells at EC
  have gl : P.l = (S5.getV zs 0 1 false == 1) := by rw [hP]; rfl
  have ga : P.a = strOfNums (S5.txS zs (S6.s1 zs).at') := by rw [hP]; rfl
  have gb : P.b = strOfNums (S5.txS zs (S6.s2 zs).at') := by rw [hP]; rfl
  have gc : P.c = strOfNums (S5.txS zs (S6.s3 zs).at') := by rw [hP]; rfl
  have gad : P.ad = S5.getV zs (S6.s4 zs).at' 4 P.l := by rw [hP]; rfl
  have gk : P.k = S3.readN (S5.byS zs (S6.s5 zs).at' 8) := by rw [hP]; rfl
  have gli : P.li = S5.getV zs (S6.s6 zs).at' 1 false := by rw [hP]; rfl
  have gis : P.is = S5.getV zs (S6.s7 zs).at' 4 P.l := by rw [hP]; rfl
  have gs : P.s = strOfNums (S5.txS zs (S6.s8 zs).at') := by rw [hP]; rfl
  have gi : P.i = strOfNums (S5.txS zs (S6.s9 zs).at') := by rw [hP]; rfl
  obtain ⟨T1, hT1⟩ : ∃ T, T = S6.s1 zs := ⟨_, rfl⟩
  obtain ⟨T2, hT2⟩ : ∃ T, T = S6.s2 zs := ⟨_, rfl⟩
  obtain ⟨T3, hT3⟩ : ∃ T, T = S6.s3 zs := ⟨_, rfl⟩
  obtain ⟨T4, hT4⟩ : ∃ T, T = S6.s4 zs := ⟨_, rfl⟩
  obtain ⟨T5, hT5⟩ : ∃ T, T = S6.s5 zs := ⟨_, rfl⟩
  obtain ⟨T6, hT6⟩ : ∃ T, T = S6.s6 zs := ⟨_, rfl⟩
  obtain ⟨T7, hT7⟩ : ∃ T, T = S6.s7 zs := ⟨_, rfl⟩
  obtain ⟨T8, hT8⟩ : ∃ T, T = S6.s8 zs := ⟨_, rfl⟩
  obtain ⟨T9, hT9⟩ : ∃ T, T = S6.s9 zs := ⟨_, rfl⟩
  obtain ⟨T10, hT10⟩ : ∃ T, T = S6.s10 zs := ⟨_, rfl⟩
  have m1 : T1 = (S5.St.mk 0 false).move (S5.getN zs 0 1) (S5.getE zs 0 1) := by rw [hT1]; rfl
  have m2 : T2 = T1.move (S5.txN zs T1.at') (S5.txE zs T1.at') := by rw [hT2, hT1]; rfl
  have m3 : T3 = T2.move (S5.txN zs T2.at') (S5.txE zs T2.at') := by rw [hT3, hT2]; rfl
  have m4 : T4 = T3.move (S5.txN zs T3.at') (S5.txE zs T3.at') := by rw [hT4, hT3]; rfl
  have m5 : T5 = T4.move (S5.getN zs T4.at' 4) (S5.getE zs T4.at' 4) := by rw [hT5, hT4]; rfl
  have m6 : T6 = T5.move (S5.byN zs T5.at' 8) (S5.byE zs T5.at' 8) := by rw [hT6, hT5]; rfl
  have m7 : T7 = T6.move (S5.getN zs T6.at' 1) (S5.getE zs T6.at' 1) := by rw [hT7, hT6]; rfl
  have m8 : T8 = T7.move (S5.getN zs T7.at' 4) (S5.getE zs T7.at' 4) := by rw [hT8, hT7]; rfl
  have m9 : T9 = T8.move (S5.txN zs T8.at') (S5.txE zs T8.at') := by rw [hT9, hT8]; rfl
  have m10 : T10 = T9.move (S5.txN zs T9.at') (S5.txE zs T9.at') := by rw [hT10, hT9]; rfl
  rw [← hT1] at ga
  rw [← hT2] at gb
  rw [← hT3] at gc
  rw [← hT4] at gad
  rw [← hT5] at gk
  rw [← hT6] at gli
  rw [← hT7] at gis
  rw [← hT8] at gs
  rw [← hT9] at gi
  have HB := Lib.hid (fun hb => S6.dec_bad (zs := zs) HN.out hb)
  have HI := Lib.hid (fun (f : P.Fit) (c : S6.chkE P = 0) (e : S6.enc P = zs) => S6.dec_yes (zs := zs) (t := P) ⟨f, c, e⟩)
  rw [← hT10, ← hP] at HB
  rw [← hP] at HF
  clear hT1
  clear hT2
  clear hT3
  clear hT4
  clear hT5
  clear hT6
  clear hT7
  clear hT8
  clear hT9
  clear hT10
  clear hP
  replace m1 := Lib.hid m1
  replace m2 := Lib.hid m2
  replace m3 := Lib.hid m3
  replace m4 := Lib.hid m4
  replace m5 := Lib.hid m5
  replace m6 := Lib.hid m6
  replace m7 := Lib.hid m7
  replace m8 := Lib.hid m8
  replace m9 := Lib.hid m9
  replace m10 := Lib.hid m10
  replace ga := Lib.hid ga
  replace gb := Lib.hid gb
  replace gc := Lib.hid gc
  replace gad := Lib.hid gad
  replace gk := Lib.hid gk
  replace gli := Lib.hid gli
  replace gis := Lib.hid gis
  replace gs := Lib.hid gs
  replace gi := Lib.hid gi
  replace gl := Lib.hid gl
  have hk := Lib.hid h
  clear h1
  have hcase : n = 0 ∨ ∃ b off z0, A = some ⟨b, off, none⟩ ∧ z0 ≤ 1 ∧ w.cell? ⟨b, off, none⟩ = some (.int .u8 z0) ∧ 0 < n := by
    rcases Nat.eq_zero_or_pos n with e | e
    · exact .inl e
    · obtain ⟨b, off, z0, ha, hz, _, _, d0⟩ := hk.out.row.at e
      rw [Nat.add_zero] at d0
      refine .inr ⟨b, off, z0, ha, ?_, d0, e⟩
      have := HN.out
      rw [List.getD_eq_getElem?_getD, hz] at this
      simp at this; omega
  have HW : Below w.heap.size w ((w.alloc (.cells #[.bool false, .string ⟨#[]⟩, .string ⟨#[]⟩, .string ⟨#[]⟩, .int .i64 0, .int .u64 0, .int .i64 0, .int .i64 0, .string ⟨#[]⟩, .string ⟨#[]⟩] 27)).alloc (.cells #[.slice A n cap, .int .i64 0, .bool false, .bool false] 78)) := ((Below.refl _ _).alloc (Nat.le_refl _) _).alloc (by simp) _
  have R1 : Rd ((w.alloc (.cells #[.bool false, .string ⟨#[]⟩, .string ⟨#[]⟩, .string ⟨#[]⟩, .int .i64 0, .int .u64 0, .int .i64 0, .int .i64 0, .string ⟨#[]⟩, .string ⟨#[]⟩] 27)).alloc (.cells #[.slice A n cap, .int .i64 0, .bool false, .bool false] 78)) (w.heap.size + 1) A n cap false ⟨0, false⟩ := ⟨by simp [go_sem], by simp [go_sem], by simp [go_sem], by simp [go_sem], fun o => by simp [go_sem]⟩
  have X1 : BoxAt ((w.alloc (.cells #[.bool false, .string ⟨#[]⟩, .string ⟨#[]⟩, .string ⟨#[]⟩, .int .i64 0, .int .u64 0, .int .i64 0, .int .i64 0, .string ⟨#[]⟩, .string ⟨#[]⟩] 27)).alloc (.cells #[.slice A n cap, .int .i64 0, .bool false, .bool false] 78)) w.heap.size zeroL := (BoxAt.new w zeroL 27).grown (World.grownBy_alloc _ _ none) (by simp)
  obtain ⟨W1, hW1⟩ : ∃ W1, W1 = ((w.alloc (.cells #[.bool false, .string ⟨#[]⟩, .string ⟨#[]⟩, .string ⟨#[]⟩, .int .i64 0, .int .u64 0, .int .i64 0, .int .i64 0, .string ⟨#[]⟩, .string ⟨#[]⟩] 27)).alloc (.cells #[.slice A n cap, .int .i64 0, .bool false, .bool false] 78)) := ⟨_, rfl⟩
  rw [← hW1] at HW R1 X1
  replace HW := Lib.hid HW
  replace R1 := Lib.hid R1
  replace X1 := Lib.hid X1
  replace hW1 := Lib.hid hW1
  rcases hcase with e0 | ⟨b, off, z0, rfl, hz1, d0, e0⟩
  · subst e0
    go_enter Tryz.func25, Tryz.ntmps25
    go_wp2_with (fail)
    rw [← hW1.out]
    refine (roctet_any (w.heap.size + 1) _ 0 cap false ⟨0, false⟩ zs W1 R1.out (hk.out.keep HW.out) hn).mono ?_
    rintro e W2 ⟨rfl, r2, g2⟩
    rw [← m1.out] at r2
    have hbb : Below w.heap.size w W2 := HW.out.grown g2 HW.out.size (fun k e => by cases e; omega)
    have x2 := X1.out.grown g2 (by simp)
    have r2h := Lib.hid r2
    obtain ⟨y0, y1, y2, y3, yf⟩ := r2
    have yl := cell_lt y0
    have sz2 := hbb.size
    clear R1 HW X1 g2 hW1
    go_wp2_with (fail)
    rw [← gl.out]
    obtain ⟨g, hg⟩ : ∃ g, g = W2.heap.size := ⟨_, rfl⟩
    have D3 : Dst w ((W2.setCell ⟨w.heap.size + 1, 2, none⟩ (.bool P.l)).alloc (.cells #[.bool P.l, .string ⟨#[]⟩, .string ⟨#[]⟩, .string ⟨#[]⟩, .int .i64 0, .int .u64 0, .int .i64 0, .int .i64 0, .string ⟨#[]⟩, .string ⟨#[]⟩] 27)) w.heap.size (w.heap.size + 1) g A 0 cap P.l T1 zeroL [.bool P.l, .string ⟨#[]⟩, .string ⟨#[]⟩, .string ⟨#[]⟩, .int .i64 0, .int .u64 0, .int .i64 0, .int .i64 0, .string ⟨#[]⟩, .string ⟨#[]⟩] := by
      have hb3 : Below w.heap.size w (W2.setCell ⟨w.heap.size + 1, 2, none⟩ (.bool P.l)) := hbb.setCell (by simp) _
      have hsz : (W2.setCell ⟨w.heap.size + 1, 2, none⟩ (.bool P.l)).heap.size = g := by rw [hg]; simp [World.setCell]
      have ga := World.grownBy_alloc (W2.setCell ⟨w.heap.size + 1, 2, none⟩ (.bool P.l)) (.cells #[.bool P.l, .string ⟨#[]⟩, .string ⟨#[]⟩, .string ⟨#[]⟩, .int .i64 0, .int .u64 0, .int .i64 0, .int .i64 0, .string ⟨#[]⟩, .string ⟨#[]⟩] 27) none
      have hn3 := BoxAt.new (W2.setCell ⟨w.heap.size + 1, 2, none⟩ (.bool P.l)) [.bool P.l, .string ⟨#[]⟩, .string ⟨#[]⟩, .string ⟨#[]⟩, .int .i64 0, .int .u64 0, .int .i64 0, .int .i64 0, .string ⟨#[]⟩, .string ⟨#[]⟩] 27
      rw [hsz] at hn3
      exact ⟨hb3.alloc hb3.size _, (rd_little r2h.out).grown ga (by simp), hn3, (x2.grown (grown_set W2 ⟨w.heap.size + 1, 2, none⟩ _) (by simp)).grown ga (by simp), by omega, by omega, by omega, by omega, by omega⟩
    clear hbb x2 r2h y0 y1 y2 y3 yf yl sz2
    rw [← hg]
    clear hg
    generalize ((W2.setCell ⟨w.heap.size + 1, 2, none⟩ (.bool P.l)).alloc (.cells #[.bool P.l, .string ⟨#[]⟩, .string ⟨#[]⟩, .string ⟨#[]⟩, .int .i64 0, .int .u64 0, .int .i64 0, .int .i64 0, .string ⟨#[]⟩, .string ⟨#[]⟩] 27)) = W3 at D3 ⊢
    refine (dprincipal D3 hk.out hn P.a P.b P.c T2 T3 T4 ga.out m2.out gb.out m3.out gc.out m4.out).mono ?_
    clear D3
    rintro e W4 ⟨rfl, D4⟩
    have q0 := D4.tk.c 0 _ rfl
    have q1 := D4.tk.c 1 _ rfl
    have q2 := D4.tk.c 2 _ rfl
    have q3 := D4.tk.c 3 _ rfl
    have q4 := D4.tk.c 4 _ rfl
    have q5 := D4.tk.c 5 _ rfl
    have q6 := D4.tk.c 6 _ rfl
    have q7 := D4.tk.c 7 _ rfl
    have q8 := D4.tk.c 8 _ rfl
    have q9 := D4.tk.c 9 _ rfl
    have qf := D4.tk.fz
    have ql := D4.tk.lt
    go_wp2_with (fail)
    clear q0 q1 q2 q3 q4 q5 q6 q7 q8 q9 qf ql
    have D5 : Dst w (((W4.setCell ⟨g, 1, none⟩ (.string P.a)).setCell ⟨g, 2, none⟩ (.string P.b)).setCell ⟨g, 3, none⟩ (.string P.c)) w.heap.size (w.heap.size + 1) g A 0 cap P.l T4 zeroL [.bool P.l, .string P.a, .string P.b, .string P.c, .int .i64 0, .int .u64 0, .int .i64 0, .int .i64 0, .string ⟨#[]⟩, .string ⟨#[]⟩] := (((D4.set 1 (.string P.a) (by simp)).set 2 (.string P.b) (by simp)).set 3 (.string P.c) (by simp))
    clear D4
    generalize (((W4.setCell ⟨g, 1, none⟩ (.string P.a)).setCell ⟨g, 2, none⟩ (.string P.b)).setCell ⟨g, 3, none⟩ (.string P.c)) = W5 at D5 ⊢
    refine (dnumber D5 (hk.out.keep D5.below) hn P.ad T5 gad.out m5.out).mono ?_
    clear D5
    rintro e W6 ⟨rfl, D6⟩
    have q0 := D6.tk.c 0 _ rfl
    have q1 := D6.tk.c 1 _ rfl
    have q2 := D6.tk.c 2 _ rfl
    have q3 := D6.tk.c 3 _ rfl
    have q4 := D6.tk.c 4 _ rfl
    have q5 := D6.tk.c 5 _ rfl
    have q6 := D6.tk.c 6 _ rfl
    have q7 := D6.tk.c 7 _ rfl
    have q8 := D6.tk.c 8 _ rfl
    have q9 := D6.tk.c 9 _ rfl
    have qf := D6.tk.fz
    have ql := D6.tk.lt
    go_wp2_with (fail)
    clear q0 q1 q2 q3 q4 q5 q6 q7 q8 q9 qf ql
    have D7 : Dst w (W6.setCell ⟨g, 4, none⟩ (.int .i64 P.ad)) w.heap.size (w.heap.size + 1) g A 0 cap P.l T5 zeroL [.bool P.l, .string P.a, .string P.b, .string P.c, .int .i64 P.ad, .int .u64 0, .int .i64 0, .int .i64 0, .string ⟨#[]⟩, .string ⟨#[]⟩] := (D6.set 4 (.int .i64 P.ad) (by simp))
    clear D6
    generalize (W6.setCell ⟨g, 4, none⟩ (.int .i64 P.ad)) = W7 at D7 ⊢
    refine (dbytes D7 (hk.out.keep D7.below) hn 8 T6 m6.out).mono ?_
    clear D7
    rintro e W8 ⟨A8, n8, c8, rfl, hs8, D8⟩
    go_wp2_with (fail)
    have X := r3read_any A8 n8 c8 _ W8 hs8.row hs8.max
    rw [← gk.out] at X
    refine X.mono ?_
    clear X hs8
    rintro e w' ⟨rfl, rfl⟩
    have q0 := D8.tk.c 0 _ rfl
    have q1 := D8.tk.c 1 _ rfl
    have q2 := D8.tk.c 2 _ rfl
    have q3 := D8.tk.c 3 _ rfl
    have q4 := D8.tk.c 4 _ rfl
    have q5 := D8.tk.c 5 _ rfl
    have q6 := D8.tk.c 6 _ rfl
    have q7 := D8.tk.c 7 _ rfl
    have q8 := D8.tk.c 8 _ rfl
    have q9 := D8.tk.c 9 _ rfl
    have qf := D8.tk.fz
    have ql := D8.tk.lt
    go_wp2_with (fail)
    clear q0 q1 q2 q3 q4 q5 q6 q7 q8 q9 qf ql
    have D9 : Dst w (W8.setCell ⟨g, 5, none⟩ (.int .u64 P.k)) w.heap.size (w.heap.size + 1) g A 0 cap P.l T6 zeroL [.bool P.l, .string P.a, .string P.b, .string P.c, .int .i64 P.ad, .int .u64 P.k, .int .i64 0, .int .i64 0, .string ⟨#[]⟩, .string ⟨#[]⟩] := (D8.set 5 (.int .u64 P.k) (by simp))
    clear D8
    generalize (W8.setCell ⟨g, 5, none⟩ (.int .u64 P.k)) = W9 at D9 ⊢
    refine (doctet D9 (hk.out.keep D9.below) hn P.li T7 gli.out m7.out).mono ?_
    clear D9
    rintro e W10 ⟨rfl, D10⟩
    have q0 := D10.tk.c 0 _ rfl
    have q1 := D10.tk.c 1 _ rfl
    have q2 := D10.tk.c 2 _ rfl
    have q3 := D10.tk.c 3 _ rfl
    have q4 := D10.tk.c 4 _ rfl
    have q5 := D10.tk.c 5 _ rfl
    have q6 := D10.tk.c 6 _ rfl
    have q7 := D10.tk.c 7 _ rfl
    have q8 := D10.tk.c 8 _ rfl
    have q9 := D10.tk.c 9 _ rfl
    have qf := D10.tk.fz
    have ql := D10.tk.lt
    go_wp2_with (fail)
    clear q0 q1 q2 q3 q4 q5 q6 q7 q8 q9 qf ql
    have D11 : Dst w (W10.setCell ⟨g, 6, none⟩ (.int .i64 P.li)) w.heap.size (w.heap.size + 1) g A 0 cap P.l T7 zeroL [.bool P.l, .string P.a, .string P.b, .string P.c, .int .i64 P.ad, .int .u64 P.k, .int .i64 P.li, .int .i64 0, .string ⟨#[]⟩, .string ⟨#[]⟩] := (D10.set 6 (.int .i64 P.li) (by simp))
    clear D10
    generalize (W10.setCell ⟨g, 6, none⟩ (.int .i64 P.li)) = W11 at D11 ⊢
    refine (dnumber D11 (hk.out.keep D11.below) hn P.is T8 gis.out m8.out).mono ?_
    clear D11
    rintro e W12 ⟨rfl, D12⟩
    have q0 := D12.tk.c 0 _ rfl
    have q1 := D12.tk.c 1 _ rfl
    have q2 := D12.tk.c 2 _ rfl
    have q3 := D12.tk.c 3 _ rfl
    have q4 := D12.tk.c 4 _ rfl
    have q5 := D12.tk.c 5 _ rfl
    have q6 := D12.tk.c 6 _ rfl
    have q7 := D12.tk.c 7 _ rfl
    have q8 := D12.tk.c 8 _ rfl
    have q9 := D12.tk.c 9 _ rfl
    have qf := D12.tk.fz
    have ql := D12.tk.lt
    go_wp2_with (fail)
    clear q0 q1 q2 q3 q4 q5 q6 q7 q8 q9 qf ql
    have D13 : Dst w (W12.setCell ⟨g, 7, none⟩ (.int .i64 P.is)) w.heap.size (w.heap.size + 1) g A 0 cap P.l T8 zeroL [.bool P.l, .string P.a, .string P.b, .string P.c, .int .i64 P.ad, .int .u64 P.k, .int .i64 P.li, .int .i64 P.is, .string ⟨#[]⟩, .string ⟨#[]⟩] := (D12.set 7 (.int .i64 P.is) (by simp))
    clear D12
    generalize (W12.setCell ⟨g, 7, none⟩ (.int .i64 P.is)) = W13 at D13 ⊢
    refine (dtext D13 (hk.out.keep D13.below) hn P.s T9 gs.out m9.out).mono ?_
    clear D13
    rintro e W14 ⟨rfl, D14⟩
    have q0 := D14.tk.c 0 _ rfl
    have q1 := D14.tk.c 1 _ rfl
    have q2 := D14.tk.c 2 _ rfl
    have q3 := D14.tk.c 3 _ rfl
    have q4 := D14.tk.c 4 _ rfl
    have q5 := D14.tk.c 5 _ rfl
    have q6 := D14.tk.c 6 _ rfl
    have q7 := D14.tk.c 7 _ rfl
    have q8 := D14.tk.c 8 _ rfl
    have q9 := D14.tk.c 9 _ rfl
    have qf := D14.tk.fz
    have ql := D14.tk.lt
    go_wp2_with (fail)
    clear q0 q1 q2 q3 q4 q5 q6 q7 q8 q9 qf ql
    have D15 : Dst w (W14.setCell ⟨g, 8, none⟩ (.string P.s)) w.heap.size (w.heap.size + 1) g A 0 cap P.l T9 zeroL [.bool P.l, .string P.a, .string P.b, .string P.c, .int .i64 P.ad, .int .u64 P.k, .int .i64 P.li, .int .i64 P.is, .string P.s, .string ⟨#[]⟩] := (D14.set 8 (.string P.s) (by simp))
    clear D14
    generalize (W14.setCell ⟨g, 8, none⟩ (.string P.s)) = W15 at D15 ⊢
    refine (dtext D15 (hk.out.keep D15.below) hn P.i T10 gi.out m10.out).mono ?_
    clear D15
    rintro e W16 ⟨rfl, D16⟩
    have q0 := D16.tk.c 0 _ rfl
    have q1 := D16.tk.c 1 _ rfl
    have q2 := D16.tk.c 2 _ rfl
    have q3 := D16.tk.c 3 _ rfl
    have q4 := D16.tk.c 4 _ rfl
    have q5 := D16.tk.c 5 _ rfl
    have q6 := D16.tk.c 6 _ rfl
    have q7 := D16.tk.c 7 _ rfl
    have q8 := D16.tk.c 8 _ rfl
    have q9 := D16.tk.c 9 _ rfl
    have qf := D16.tk.fz
    have ql := D16.tk.lt
    go_wp2_with (fail)
    clear q0 q1 q2 q3 q4 q5 q6 q7 q8 q9 qf ql
    have D17 : Dst w (W16.setCell ⟨g, 9, none⟩ (.string P.i)) w.heap.size (w.heap.size + 1) g A 0 cap P.l T10 zeroL [.bool P.l, .string P.a, .string P.b, .string P.c, .int .i64 P.ad, .int .u64 P.k, .int .i64 P.li, .int .i64 P.is, .string P.s, .string P.i] := (D16.set 9 (.string P.i) (by simp))
    clear D16
    generalize (W16.setCell ⟨g, 9, none⟩ (.string P.i)) = W17 at D17 ⊢
    refine (EC.out _).mono ?_
    rintro e W18 ⟨A2, n2, c2, rfl, hs2, hb2, _⟩
    have D18 := D17.keep hb2
    clear D17 hb2
    have u1 := conv_sl hs2
    have u2 := conv_sl (hk.out.keep D18.below)
    have hrs := Lib.hid hs2.range
    have q0 := D18.tk.c 0 _ rfl
    have q1 := D18.tk.c 1 _ rfl
    have q2 := D18.tk.c 2 _ rfl
    have q3 := D18.tk.c 3 _ rfl
    have q4 := D18.tk.c 4 _ rfl
    have q5 := D18.tk.c 5 _ rfl
    have q6 := D18.tk.c 6 _ rfl
    have q7 := D18.tk.c 7 _ rfl
    have q8 := D18.tk.c 8 _ rfl
    have q9 := D18.tk.c 9 _ rfl
    have qf := D18.tk.fz
    have ql := D18.tk.lt
    have x0 := D18.res.c 0 _ rfl
    have x1 := D18.res.c 1 _ rfl
    have x2 := D18.res.c 2 _ rfl
    have x3 := D18.res.c 3 _ rfl
    have x4 := D18.res.c 4 _ rfl
    have x5 := D18.res.c 5 _ rfl
    have x6 := D18.res.c 6 _ rfl
    have x7 := D18.res.c 7 _ rfl
    have x8 := D18.res.c 8 _ rfl
    have x9 := D18.res.c 9 _ rfl
    have xf := D18.res.fz
    have xl := D18.res.lt
    have r3 := D18.rd.c3
    have rl := cell_lt r3
    have BD := Lib.hid D18.below
    have nRg := D18.Rg
    clear D18 hs2
    by_cases hb : T10.bad = true
    · have HX := Lib.hid (HB.out (.inl hb))
      have hb2 : Hid (T10.bad = true) := Lib.hid hb
      rw [hb] at r3
      clear hb
      go_wp2_with (fail)
      refine bodyPost_ret (v := .tuple #[S6.Tk.zero.val, .int .i64 100]) ?_ rfl ?_; (simp [results, Tryz.results25, go_sem, S6.Tk.val, S6.Tk.cells, S6.Tk.zero, x0, x1, x2, x3, x4, x5, x6, x7, x8, x9]); exact dec_out HX.out (by repeat (first | (with_reducible exact BD.out) | refine Below.setCell ?_ (by simp) _))
    · have hb' : T10.bad = false := by simpa using hb
      rw [hb'] at r3
      clear hb hb'
      by_cases he : S6.chkE P = 0
      · have he2 : (S6.chkE P != 0) = false := by simpa using he
        by_cases hz : S6.encB P = zs
        · have HX := Lib.hid (HI.out HF.out he (by rw [← hz]; unfold S6.encB; rw [if_pos he]))
          rw [hz] at u1
          clear hz he
          go_wp2_with (fail)
          refine bodyPost_ret (v := .tuple #[P.val, .int .i64 0]) ?_ rfl ?_; (simp [results, Tryz.results25, go_sem, S6.Tk.val, S6.Tk.cells, x0, x1, x2, x3, x4, x5, x6, x7, x8, x9]); exact dec_out HX.out (by repeat (first | (with_reducible exact BD.out) | refine Below.setCell ?_ (by simp) _))
        · have HX := Lib.hid (HB.out (.inr (.inr hz)))
          have hzz : ((strOfNums (S6.encB P)).toList == (strOfNums zs).toList) = false := beq_eq_false_iff_ne.2 (fun e => hz (str_inj hrs.out hrg.out e))
          clear hz he
          go_wp2_with (fail)
          refine bodyPost_ret (v := .tuple #[S6.Tk.zero.val, .int .i64 100]) ?_ rfl ?_; (simp [results, Tryz.results25, go_sem, S6.Tk.val, S6.Tk.cells, S6.Tk.zero, x0, x1, x2, x3, x4, x5, x6, x7, x8, x9]); exact dec_out HX.out (by repeat (first | (with_reducible exact BD.out) | refine Below.setCell ?_ (by simp) _))
      · have HX := Lib.hid (HB.out (.inr (.inl he)))
        have he2 : (S6.chkE P != 0) = true := by simpa using he
        clear he
        go_wp2_with (fail)
        refine bodyPost_ret (v := .tuple #[S6.Tk.zero.val, .int .i64 100]) ?_ rfl ?_; (simp [results, Tryz.results25, go_sem, S6.Tk.val, S6.Tk.cells, S6.Tk.zero, x0, x1, x2, x3, x4, x5, x6, x7, x8, x9]); exact dec_out HX.out (by repeat (first | (with_reducible exact BD.out) | refine Below.setCell ?_ (by simp) _))
  · have hlt := cell_lt d0
    have e0' : (0 : Int) < (n : Int) := by omega
    go_enter Tryz.func25, Tryz.ntmps25
    go_wp2_with (fail)
    rw [← hW1.out]
    refine (roctet_any (w.heap.size + 1) _ n cap false ⟨0, false⟩ zs W1 R1.out (hk.out.keep HW.out) hn).mono ?_
    rintro e W2 ⟨rfl, r2, g2⟩
    rw [← m1.out] at r2
    have hbb : Below w.heap.size w W2 := HW.out.grown g2 HW.out.size (fun k e => by cases e; omega)
    have x2 := X1.out.grown g2 (by simp)
    have r2h := Lib.hid r2
    obtain ⟨y0, y1, y2, y3, yf⟩ := r2
    have yl := cell_lt y0
    have sz2 := hbb.size
    clear R1 HW X1 g2 hW1
    go_wp2_with (fail)
    rw [← gl.out]
    obtain ⟨g, hg⟩ : ∃ g, g = W2.heap.size := ⟨_, rfl⟩
    have D3 : Dst w ((W2.setCell ⟨w.heap.size + 1, 2, none⟩ (.bool P.l)).alloc (.cells #[.bool P.l, .string ⟨#[]⟩, .string ⟨#[]⟩, .string ⟨#[]⟩, .int .i64 0, .int .u64 0, .int .i64 0, .int .i64 0, .string ⟨#[]⟩, .string ⟨#[]⟩] 27)) w.heap.size (w.heap.size + 1) g (some ⟨b, off, none⟩) n cap P.l T1 zeroL [.bool P.l, .string ⟨#[]⟩, .string ⟨#[]⟩, .string ⟨#[]⟩, .int .i64 0, .int .u64 0, .int .i64 0, .int .i64 0, .string ⟨#[]⟩, .string ⟨#[]⟩] := by
      have hb3 : Below w.heap.size w (W2.setCell ⟨w.heap.size + 1, 2, none⟩ (.bool P.l)) := hbb.setCell (by simp) _
      have hsz : (W2.setCell ⟨w.heap.size + 1, 2, none⟩ (.bool P.l)).heap.size = g := by rw [hg]; simp [World.setCell]
      have ga := World.grownBy_alloc (W2.setCell ⟨w.heap.size + 1, 2, none⟩ (.bool P.l)) (.cells #[.bool P.l, .string ⟨#[]⟩, .string ⟨#[]⟩, .string ⟨#[]⟩, .int .i64 0, .int .u64 0, .int .i64 0, .int .i64 0, .string ⟨#[]⟩, .string ⟨#[]⟩] 27) none
      have hn3 := BoxAt.new (W2.setCell ⟨w.heap.size + 1, 2, none⟩ (.bool P.l)) [.bool P.l, .string ⟨#[]⟩, .string ⟨#[]⟩, .string ⟨#[]⟩, .int .i64 0, .int .u64 0, .int .i64 0, .int .i64 0, .string ⟨#[]⟩, .string ⟨#[]⟩] 27
      rw [hsz] at hn3
      exact ⟨hb3.alloc hb3.size _, (rd_little r2h.out).grown ga (by simp), hn3, (x2.grown (grown_set W2 ⟨w.heap.size + 1, 2, none⟩ _) (by simp)).grown ga (by simp), by omega, by omega, by omega, by omega, by omega⟩
    clear hbb x2 r2h y0 y1 y2 y3 yf yl sz2
    rw [← hg]
    clear hg
    generalize ((W2.setCell ⟨w.heap.size + 1, 2, none⟩ (.bool P.l)).alloc (.cells #[.bool P.l, .string ⟨#[]⟩, .string ⟨#[]⟩, .string ⟨#[]⟩, .int .i64 0, .int .u64 0, .int .i64 0, .int .i64 0, .string ⟨#[]⟩, .string ⟨#[]⟩] 27)) = W3 at D3 ⊢
    refine (dprincipal D3 hk.out hn P.a P.b P.c T2 T3 T4 ga.out m2.out gb.out m3.out gc.out m4.out).mono ?_
    clear D3
    rintro e W4 ⟨rfl, D4⟩
    have q0 := D4.tk.c 0 _ rfl
    have q1 := D4.tk.c 1 _ rfl
    have q2 := D4.tk.c 2 _ rfl
    have q3 := D4.tk.c 3 _ rfl
    have q4 := D4.tk.c 4 _ rfl
    have q5 := D4.tk.c 5 _ rfl
    have q6 := D4.tk.c 6 _ rfl
    have q7 := D4.tk.c 7 _ rfl
    have q8 := D4.tk.c 8 _ rfl
    have q9 := D4.tk.c 9 _ rfl
    have qf := D4.tk.fz
    have ql := D4.tk.lt
    go_wp2_with (fail)
    clear q0 q1 q2 q3 q4 q5 q6 q7 q8 q9 qf ql
    have D5 : Dst w (((W4.setCell ⟨g, 1, none⟩ (.string P.a)).setCell ⟨g, 2, none⟩ (.string P.b)).setCell ⟨g, 3, none⟩ (.string P.c)) w.heap.size (w.heap.size + 1) g (some ⟨b, off, none⟩) n cap P.l T4 zeroL [.bool P.l, .string P.a, .string P.b, .string P.c, .int .i64 0, .int .u64 0, .int .i64 0, .int .i64 0, .string ⟨#[]⟩, .string ⟨#[]⟩] := (((D4.set 1 (.string P.a) (by simp)).set 2 (.string P.b) (by simp)).set 3 (.string P.c) (by simp))
    clear D4
    generalize (((W4.setCell ⟨g, 1, none⟩ (.string P.a)).setCell ⟨g, 2, none⟩ (.string P.b)).setCell ⟨g, 3, none⟩ (.string P.c)) = W5 at D5 ⊢
    refine (dnumber D5 (hk.out.keep D5.below) hn P.ad T5 gad.out m5.out).mono ?_
    clear D5
    rintro e W6 ⟨rfl, D6⟩
    have q0 := D6.tk.c 0 _ rfl
    have q1 := D6.tk.c 1 _ rfl
    have q2 := D6.tk.c 2 _ rfl
    have q3 := D6.tk.c 3 _ rfl
    have q4 := D6.tk.c 4 _ rfl
    have q5 := D6.tk.c 5 _ rfl
    have q6 := D6.tk.c 6 _ rfl
    have q7 := D6.tk.c 7 _ rfl
    have q8 := D6.tk.c 8 _ rfl
    have q9 := D6.tk.c 9 _ rfl
    have qf := D6.tk.fz
    have ql := D6.tk.lt
    go_wp2_with (fail)
    clear q0 q1 q2 q3 q4 q5 q6 q7 q8 q9 qf ql
    have D7 : Dst w (W6.setCell ⟨g, 4, none⟩ (.int .i64 P.ad)) w.heap.size (w.heap.size + 1) g (some ⟨b, off, none⟩) n cap P.l T5 zeroL [.bool P.l, .string P.a, .string P.b, .string P.c, .int .i64 P.ad, .int .u64 0, .int .i64 0, .int .i64 0, .string ⟨#[]⟩, .string ⟨#[]⟩] := (D6.set 4 (.int .i64 P.ad) (by simp))
    clear D6
    generalize (W6.setCell ⟨g, 4, none⟩ (.int .i64 P.ad)) = W7 at D7 ⊢
    refine (dbytes D7 (hk.out.keep D7.below) hn 8 T6 m6.out).mono ?_
    clear D7
    rintro e W8 ⟨A8, n8, c8, rfl, hs8, D8⟩
    go_wp2_with (fail)
    have X := r3read_any A8 n8 c8 _ W8 hs8.row hs8.max
    rw [← gk.out] at X
    refine X.mono ?_
    clear X hs8
    rintro e w' ⟨rfl, rfl⟩
    have q0 := D8.tk.c 0 _ rfl
    have q1 := D8.tk.c 1 _ rfl
    have q2 := D8.tk.c 2 _ rfl
    have q3 := D8.tk.c 3 _ rfl
    have q4 := D8.tk.c 4 _ rfl
    have q5 := D8.tk.c 5 _ rfl
    have q6 := D8.tk.c 6 _ rfl
    have q7 := D8.tk.c 7 _ rfl
    have q8 := D8.tk.c 8 _ rfl
    have q9 := D8.tk.c 9 _ rfl
    have qf := D8.tk.fz
    have ql := D8.tk.lt
    go_wp2_with (fail)
    clear q0 q1 q2 q3 q4 q5 q6 q7 q8 q9 qf ql
    have D9 : Dst w (W8.setCell ⟨g, 5, none⟩ (.int .u64 P.k)) w.heap.size (w.heap.size + 1) g (some ⟨b, off, none⟩) n cap P.l T6 zeroL [.bool P.l, .string P.a, .string P.b, .string P.c, .int .i64 P.ad, .int .u64 P.k, .int .i64 0, .int .i64 0, .string ⟨#[]⟩, .string ⟨#[]⟩] := (D8.set 5 (.int .u64 P.k) (by simp))
    clear D8
    generalize (W8.setCell ⟨g, 5, none⟩ (.int .u64 P.k)) = W9 at D9 ⊢
    refine (doctet D9 (hk.out.keep D9.below) hn P.li T7 gli.out m7.out).mono ?_
    clear D9
    rintro e W10 ⟨rfl, D10⟩
    have q0 := D10.tk.c 0 _ rfl
    have q1 := D10.tk.c 1 _ rfl
    have q2 := D10.tk.c 2 _ rfl
    have q3 := D10.tk.c 3 _ rfl
    have q4 := D10.tk.c 4 _ rfl
    have q5 := D10.tk.c 5 _ rfl
    have q6 := D10.tk.c 6 _ rfl
    have q7 := D10.tk.c 7 _ rfl
    have q8 := D10.tk.c 8 _ rfl
    have q9 := D10.tk.c 9 _ rfl
    have qf := D10.tk.fz
    have ql := D10.tk.lt
    go_wp2_with (fail)
    clear q0 q1 q2 q3 q4 q5 q6 q7 q8 q9 qf ql
    have D11 : Dst w (W10.setCell ⟨g, 6, none⟩ (.int .i64 P.li)) w.heap.size (w.heap.size + 1) g (some ⟨b, off, none⟩) n cap P.l T7 zeroL [.bool P.l, .string P.a, .string P.b, .string P.c, .int .i64 P.ad, .int .u64 P.k, .int .i64 P.li, .int .i64 0, .string ⟨#[]⟩, .string ⟨#[]⟩] := (D10.set 6 (.int .i64 P.li) (by simp))
    clear D10
    generalize (W10.setCell ⟨g, 6, none⟩ (.int .i64 P.li)) = W11 at D11 ⊢
    refine (dnumber D11 (hk.out.keep D11.below) hn P.is T8 gis.out m8.out).mono ?_
    clear D11
    rintro e W12 ⟨rfl, D12⟩
    have q0 := D12.tk.c 0 _ rfl
    have q1 := D12.tk.c 1 _ rfl
    have q2 := D12.tk.c 2 _ rfl
    have q3 := D12.tk.c 3 _ rfl
    have q4 := D12.tk.c 4 _ rfl
    have q5 := D12.tk.c 5 _ rfl
    have q6 := D12.tk.c 6 _ rfl
    have q7 := D12.tk.c 7 _ rfl
    have q8 := D12.tk.c 8 _ rfl
    have q9 := D12.tk.c 9 _ rfl
    have qf := D12.tk.fz
    have ql := D12.tk.lt
    go_wp2_with (fail)
    clear q0 q1 q2 q3 q4 q5 q6 q7 q8 q9 qf ql
    have D13 : Dst w (W12.setCell ⟨g, 7, none⟩ (.int .i64 P.is)) w.heap.size (w.heap.size + 1) g (some ⟨b, off, none⟩) n cap P.l T8 zeroL [.bool P.l, .string P.a, .string P.b, .string P.c, .int .i64 P.ad, .int .u64 P.k, .int .i64 P.li, .int .i64 P.is, .string ⟨#[]⟩, .string ⟨#[]⟩] := (D12.set 7 (.int .i64 P.is) (by simp))
    clear D12
    generalize (W12.setCell ⟨g, 7, none⟩ (.int .i64 P.is)) = W13 at D13 ⊢
    refine (dtext D13 (hk.out.keep D13.below) hn P.s T9 gs.out m9.out).mono ?_
    clear D13
    rintro e W14 ⟨rfl, D14⟩
    have q0 := D14.tk.c 0 _ rfl
    have q1 := D14.tk.c 1 _ rfl
    have q2 := D14.tk.c 2 _ rfl
    have q3 := D14.tk.c 3 _ rfl
    have q4 := D14.tk.c 4 _ rfl
    have q5 := D14.tk.c 5 _ rfl
    have q6 := D14.tk.c 6 _ rfl
    have q7 := D14.tk.c 7 _ rfl
    have q8 := D14.tk.c 8 _ rfl
    have q9 := D14.tk.c 9 _ rfl
    have qf := D14.tk.fz
    have ql := D14.tk.lt
    go_wp2_with (fail)
    clear q0 q1 q2 q3 q4 q5 q6 q7 q8 q9 qf ql
    have D15 : Dst w (W14.setCell ⟨g, 8, none⟩ (.string P.s)) w.heap.size (w.heap.size + 1) g (some ⟨b, off, none⟩) n cap P.l T9 zeroL [.bool P.l, .string P.a, .string P.b, .string P.c, .int .i64 P.ad, .int .u64 P.k, .int .i64 P.li, .int .i64 P.is, .string P.s, .string ⟨#[]⟩] := (D14.set 8 (.string P.s) (by simp))
    clear D14
    generalize (W14.setCell ⟨g, 8, none⟩ (.string P.s)) = W15 at D15 ⊢
    refine (dtext D15 (hk.out.keep D15.below) hn P.i T10 gi.out m10.out).mono ?_
    clear D15
    rintro e W16 ⟨rfl, D16⟩
    have q0 := D16.tk.c 0 _ rfl
    have q1 := D16.tk.c 1 _ rfl
    have q2 := D16.tk.c 2 _ rfl
    have q3 := D16.tk.c 3 _ rfl
    have q4 := D16.tk.c 4 _ rfl
    have q5 := D16.tk.c 5 _ rfl
    have q6 := D16.tk.c 6 _ rfl
    have q7 := D16.tk.c 7 _ rfl
    have q8 := D16.tk.c 8 _ rfl
    have q9 := D16.tk.c 9 _ rfl
    have qf := D16.tk.fz
    have ql := D16.tk.lt
    go_wp2_with (fail)
    clear q0 q1 q2 q3 q4 q5 q6 q7 q8 q9 qf ql
    have D17 : Dst w (W16.setCell ⟨g, 9, none⟩ (.string P.i)) w.heap.size (w.heap.size + 1) g (some ⟨b, off, none⟩) n cap P.l T10 zeroL [.bool P.l, .string P.a, .string P.b, .string P.c, .int .i64 P.ad, .int .u64 P.k, .int .i64 P.li, .int .i64 P.is, .string P.s, .string P.i] := (D16.set 9 (.string P.i) (by simp))
    clear D16
    generalize (W16.setCell ⟨g, 9, none⟩ (.string P.i)) = W17 at D17 ⊢
    refine (EC.out _).mono ?_
    rintro e W18 ⟨A2, n2, c2, rfl, hs2, hb2, _⟩
    have D18 := D17.keep hb2
    clear D17 hb2
    have u1 := conv_sl hs2
    have u2 := conv_sl (hk.out.keep D18.below)
    have hrs := Lib.hid hs2.range
    have q0 := D18.tk.c 0 _ rfl
    have q1 := D18.tk.c 1 _ rfl
    have q2 := D18.tk.c 2 _ rfl
    have q3 := D18.tk.c 3 _ rfl
    have q4 := D18.tk.c 4 _ rfl
    have q5 := D18.tk.c 5 _ rfl
    have q6 := D18.tk.c 6 _ rfl
    have q7 := D18.tk.c 7 _ rfl
    have q8 := D18.tk.c 8 _ rfl
    have q9 := D18.tk.c 9 _ rfl
    have qf := D18.tk.fz
    have ql := D18.tk.lt
    have x0 := D18.res.c 0 _ rfl
    have x1 := D18.res.c 1 _ rfl
    have x2 := D18.res.c 2 _ rfl
    have x3 := D18.res.c 3 _ rfl
    have x4 := D18.res.c 4 _ rfl
    have x5 := D18.res.c 5 _ rfl
    have x6 := D18.res.c 6 _ rfl
    have x7 := D18.res.c 7 _ rfl
    have x8 := D18.res.c 8 _ rfl
    have x9 := D18.res.c 9 _ rfl
    have xf := D18.res.fz
    have xl := D18.res.lt
    have r3 := D18.rd.c3
    have rl := cell_lt r3
    have BD := Lib.hid D18.below
    have nRg := D18.Rg
    clear D18 hs2
    by_cases hb : T10.bad = true
    · have HX := Lib.hid (HB.out (.inl hb))
      have hb2 : Hid (T10.bad = true) := Lib.hid hb
      rw [hb] at r3
      clear hb
      go_wp2_with (fail)
      refine bodyPost_ret (v := .tuple #[S6.Tk.zero.val, .int .i64 100]) ?_ rfl ?_; (simp [results, Tryz.results25, go_sem, S6.Tk.val, S6.Tk.cells, S6.Tk.zero, x0, x1, x2, x3, x4, x5, x6, x7, x8, x9]); exact dec_out HX.out (by repeat (first | (with_reducible exact BD.out) | refine Below.setCell ?_ (by simp) _))
    · have hb' : T10.bad = false := by simpa using hb
      rw [hb'] at r3
      clear hb hb'
      by_cases he : S6.chkE P = 0
      · have he2 : (S6.chkE P != 0) = false := by simpa using he
        by_cases hz : S6.encB P = zs
        · have HX := Lib.hid (HI.out HF.out he (by rw [← hz]; unfold S6.encB; rw [if_pos he]))
          rw [hz] at u1
          clear hz he
          go_wp2_with (fail)
          refine bodyPost_ret (v := .tuple #[P.val, .int .i64 0]) ?_ rfl ?_; (simp [results, Tryz.results25, go_sem, S6.Tk.val, S6.Tk.cells, x0, x1, x2, x3, x4, x5, x6, x7, x8, x9]); exact dec_out HX.out (by repeat (first | (with_reducible exact BD.out) | refine Below.setCell ?_ (by simp) _))
        · have HX := Lib.hid (HB.out (.inr (.inr hz)))
          have hzz : ((strOfNums (S6.encB P)).toList == (strOfNums zs).toList) = false := beq_eq_false_iff_ne.2 (fun e => hz (str_inj hrs.out hrg.out e))
          clear hz he
          go_wp2_with (fail)
          refine bodyPost_ret (v := .tuple #[S6.Tk.zero.val, .int .i64 100]) ?_ rfl ?_; (simp [results, Tryz.results25, go_sem, S6.Tk.val, S6.Tk.cells, S6.Tk.zero, x0, x1, x2, x3, x4, x5, x6, x7, x8, x9]); exact dec_out HX.out (by repeat (first | (with_reducible exact BD.out) | refine Below.setCell ?_ (by simp) _))
      · have HX := Lib.hid (HB.out (.inr (.inl he)))
        have he2 : (S6.chkE P != 0) = true := by simpa using he
        clear he
        go_wp2_with (fail)
        refine bodyPost_ret (v := .tuple #[S6.Tk.zero.val, .int .i64 100]) ?_ rfl ?_; (simp [results, Tryz.results25, go_sem, S6.Tk.val, S6.Tk.cells, S6.Tk.zero, x0, x1, x2, x3, x4, x5, x6, x7, x8, x9]); exact dec_out HX.out (by repeat (first | (with_reducible exact BD.out) | refine Below.setCell ?_ (by simp) _))

theorem r6decode_any (A : Option Addr) (n cap : Nat) (zs : List Int) (w : World) (h : Sl w A n cap zs) (hn : n ≤ 100000) : Calls Tryz.prog 25 #[.slice A n cap] w (DecOut zs w) := by
  by_cases h1 : 1 < zs.getD 0 0
  · exact r6decode_order A n cap zs w h h1
  · exact r6decode_read A n cap zs w h hn h1

end Go.Proofs.YtjkpbkbgbgckaaaGreat
