/-
  What Principal of the document's answer for fields returns.
-/
import Derived.Test.YtnipccnfdgdknaaFieldRT
import Derived.Test.YtnipccnfdgdknaaFieldPlainB
import Derived.Test.YtnipccnfdgdknaaRowS
import Derived.Test.YtnipccnfdgdknaaPrinA
import Derived.LoopN
import Derived.Deep.RegionHeld3
namespace Go.Proofs.Ytnipccnfdgdknaa
open Go.RowKit

theorem str_info : (Try.prog.info? 9).map (fun i => (i.zero, i.size, i.bytes)) = some (some (.string ⟨#[]⟩), 1, 16) := by kernel_rfl

/-- What Principal returns. -/
def PrinOut (zs : List Int) (at' : Int) (w : World) (e : Ending) (w' : World) : Prop :=
  e = .returned (.tuple #[.agg #[.string (strOfNums (S5.prA zs at')), .string (strOfNums (S5.prB zs at')), .string (strOfNums (S5.prC zs at'))], .int .i64 (S5.prN zs at'), .int .i64 (S5.prE zs at')]) ∧ Below w.heap.size w w'

set_option maxHeartbeats 3200000 in
theorem r5prin_1 (A : Option Addr) (bn cap : Nat) (zs : List Int) (at' : Int) (w : World) (h : Sl w A bn cap zs) (hn : bn ≤ 100000) (h0 : S5.txE zs at' ≠ 0) : Calls Try.prog 26 #[.slice A bn cap, .int .i64 at'] w (PrinOut zs at' w) := by
  have B1 : Below w.heap.size w (w.alloc (.cells #[.string ⟨#[]⟩, .string ⟨#[]⟩, .string ⟨#[]⟩] 24)) := (Below.refl _ _).alloc (Nat.le_refl _) _
  have c0 : (w.alloc (.cells #[.string ⟨#[]⟩, .string ⟨#[]⟩, .string ⟨#[]⟩] 24)).cell? ⟨w.heap.size, 0, none⟩ = some (.string ⟨#[]⟩) := by simp [go_sem]
  have c1 : (w.alloc (.cells #[.string ⟨#[]⟩, .string ⟨#[]⟩, .string ⟨#[]⟩] 24)).cell? ⟨w.heap.size, 1, none⟩ = some (.string ⟨#[]⟩) := by simp [go_sem]
  have c2 : (w.alloc (.cells #[.string ⟨#[]⟩, .string ⟨#[]⟩, .string ⟨#[]⟩] 24)).cell? ⟨w.heap.size, 2, none⟩ = some (.string ⟨#[]⟩) := by simp [go_sem]
  have c3 : ∀ o, (w.alloc (.cells #[.string ⟨#[]⟩, .string ⟨#[]⟩, .string ⟨#[]⟩] 24)).frozen? ⟨w.heap.size, o, none⟩ = false := fun o => by simp [go_sem]
  have zl : w.heap.size < (w.alloc (.cells #[.string ⟨#[]⟩, .string ⟨#[]⟩, .string ⟨#[]⟩] 24)).heap.size := by simp
  have h1 := Lib.hid (h.keep B1)
  have HP := Lib.hid (S5.pr_1 h0)
  have hb : (S5.txE zs at' != 0) = true := by simpa using h0
  clear h0
  go_enter Try.func26, Try.ntmps26
  go_wp2_with (fail)
  generalize (w.alloc (.cells #[.string ⟨#[]⟩, .string ⟨#[]⟩, .string ⟨#[]⟩] 24)) = w1 at *
  have B : Below w1.heap.size w1 w1 := Below.refl _ _
  have hown : OwnS 9 w1 w1.heap.size (.slice none 0 0) [] := OwnS.nil _ _ _
  refine wp_loop_rounds 4 ?_
  have y0 := cell_keep B c0
  have y1 := cell_keep B c1
  have y2 := cell_keep B c2
  have y3 := fun o => ((bcell B).2 w.heap.size o zl).trans (c3 o)
  rw [rounds_succ]
  go_wp2_with (first | (go_at_call 24; refine (r5text_any _ _ _ zs _ _ (h1.out.keep B) hn).mono ?_; rintro e w' ⟨rfl, rfl⟩) | (at_builtin; refine wpList_pushS rfl _ _ 51 rfl 9 Try.underlying51 str_info w1.heap.size _ _ _ rfl rfl rfl hown (by simp) B.size ?_; intro v' w4 hown' hgrow; replace B := OwnS.pushed B hown hgrow; clear hown hgrow; replace hown := hown'; clear hown'))
  have B9 := below_keep B B1
  refine bodyPost_ret (v := .tuple #[.agg #[.string ⟨#[]⟩, .string ⟨#[]⟩, .string ⟨#[]⟩], .int .i64 0, .int .i64 (S5.txE zs at')]) (by simp [results, Try.results26, go_sem, y0, y1, y2]) rfl ⟨by rw [HP.out.1, HP.out.2.1, HP.out.2.2.1, HP.out.2.2.2.1, HP.out.2.2.2.2]; rfl, ?_⟩
  repeat (first | exact B9 | refine Below.setCell ?_ (by simp) _ | refine Below.alloc ?_ (by first | exact B9.size | (simp; exact B9.size)) _ | apply Below.drew)

set_option maxHeartbeats 3200000 in
theorem r5prin_2 (A : Option Addr) (bn cap : Nat) (zs : List Int) (at' : Int) (w : World) (h : Sl w A bn cap zs) (hn : bn ≤ 100000) (E1 : S5.txE zs at' = 0) (h0 : S5.txE zs (S5.txN zs at') ≠ 0) : Calls Try.prog 26 #[.slice A bn cap, .int .i64 at'] w (PrinOut zs at' w) := by
  have B1 : Below w.heap.size w (w.alloc (.cells #[.string ⟨#[]⟩, .string ⟨#[]⟩, .string ⟨#[]⟩] 24)) := (Below.refl _ _).alloc (Nat.le_refl _) _
  have c0 : (w.alloc (.cells #[.string ⟨#[]⟩, .string ⟨#[]⟩, .string ⟨#[]⟩] 24)).cell? ⟨w.heap.size, 0, none⟩ = some (.string ⟨#[]⟩) := by simp [go_sem]
  have c1 : (w.alloc (.cells #[.string ⟨#[]⟩, .string ⟨#[]⟩, .string ⟨#[]⟩] 24)).cell? ⟨w.heap.size, 1, none⟩ = some (.string ⟨#[]⟩) := by simp [go_sem]
  have c2 : (w.alloc (.cells #[.string ⟨#[]⟩, .string ⟨#[]⟩, .string ⟨#[]⟩] 24)).cell? ⟨w.heap.size, 2, none⟩ = some (.string ⟨#[]⟩) := by simp [go_sem]
  have c3 : ∀ o, (w.alloc (.cells #[.string ⟨#[]⟩, .string ⟨#[]⟩, .string ⟨#[]⟩] 24)).frozen? ⟨w.heap.size, o, none⟩ = false := fun o => by simp [go_sem]
  have zl : w.heap.size < (w.alloc (.cells #[.string ⟨#[]⟩, .string ⟨#[]⟩, .string ⟨#[]⟩] 24)).heap.size := by simp
  have h1 := Lib.hid (h.keep B1)
  have HP := Lib.hid (S5.pr_2 E1 h0)
  have hb : (S5.txE zs (S5.txN zs at') != 0) = true := by simpa using h0
  clear h0
  go_enter Try.func26, Try.ntmps26
  go_wp2_with (fail)
  generalize (w.alloc (.cells #[.string ⟨#[]⟩, .string ⟨#[]⟩, .string ⟨#[]⟩] 24)) = w1 at *
  have B : Below w1.heap.size w1 w1 := Below.refl _ _
  have hown : OwnS 9 w1 w1.heap.size (.slice none 0 0) [] := OwnS.nil _ _ _
  refine wp_loop_rounds 4 ?_
  rw [rounds_succ]
  go_wp2_with (first | (go_at_call 24; refine (r5text_any _ _ _ zs _ _ (h1.out.keep B) hn).mono ?_; rintro e w' ⟨rfl, rfl⟩) | (at_builtin; refine wpList_pushS rfl _ _ 51 rfl 9 Try.underlying51 str_info w1.heap.size _ _ _ rfl rfl rfl hown (by simp) B.size ?_; intro v' w4 hown' hgrow; replace B := OwnS.pushed B hown hgrow; clear hown hgrow; replace hown := hown'; clear hown'))
  have y0 := cell_keep B c0
  have y1 := cell_keep B c1
  have y2 := cell_keep B c2
  have y3 := fun o => ((bcell B).2 w.heap.size o zl).trans (c3 o)
  rw [rounds_succ]
  go_wp2_with (first | (go_at_call 24; refine (r5text_any _ _ _ zs _ _ (h1.out.keep B) hn).mono ?_; rintro e w' ⟨rfl, rfl⟩) | (at_builtin; refine wpList_pushS rfl _ _ 51 rfl 9 Try.underlying51 str_info w1.heap.size _ _ _ rfl rfl rfl hown (by simp) B.size ?_; intro v' w4 hown' hgrow; replace B := OwnS.pushed B hown hgrow; clear hown hgrow; replace hown := hown'; clear hown'))
  have B9 := below_keep B B1
  refine bodyPost_ret (v := .tuple #[.agg #[.string ⟨#[]⟩, .string ⟨#[]⟩, .string ⟨#[]⟩], .int .i64 0, .int .i64 (S5.txE zs (S5.txN zs at'))]) (by simp [results, Try.results26, go_sem, y0, y1, y2]) rfl ⟨by rw [HP.out.1, HP.out.2.1, HP.out.2.2.1, HP.out.2.2.2.1, HP.out.2.2.2.2]; rfl, ?_⟩
  repeat (first | exact B9 | refine Below.setCell ?_ (by simp) _ | refine Below.alloc ?_ (by first | exact B9.size | (simp; exact B9.size)) _ | apply Below.drew)

set_option maxHeartbeats 3200000 in
theorem r5prin_3 (A : Option Addr) (bn cap : Nat) (zs : List Int) (at' : Int) (w : World) (h : Sl w A bn cap zs) (hn : bn ≤ 100000) (E1 : S5.txE zs at' = 0) (E2 : S5.txE zs (S5.txN zs at') = 0) (h0 : S5.txE zs (S5.txN zs (S5.txN zs at')) ≠ 0) : Calls Try.prog 26 #[.slice A bn cap, .int .i64 at'] w (PrinOut zs at' w) := by
  have B1 : Below w.heap.size w (w.alloc (.cells #[.string ⟨#[]⟩, .string ⟨#[]⟩, .string ⟨#[]⟩] 24)) := (Below.refl _ _).alloc (Nat.le_refl _) _
  have c0 : (w.alloc (.cells #[.string ⟨#[]⟩, .string ⟨#[]⟩, .string ⟨#[]⟩] 24)).cell? ⟨w.heap.size, 0, none⟩ = some (.string ⟨#[]⟩) := by simp [go_sem]
  have c1 : (w.alloc (.cells #[.string ⟨#[]⟩, .string ⟨#[]⟩, .string ⟨#[]⟩] 24)).cell? ⟨w.heap.size, 1, none⟩ = some (.string ⟨#[]⟩) := by simp [go_sem]
  have c2 : (w.alloc (.cells #[.string ⟨#[]⟩, .string ⟨#[]⟩, .string ⟨#[]⟩] 24)).cell? ⟨w.heap.size, 2, none⟩ = some (.string ⟨#[]⟩) := by simp [go_sem]
  have c3 : ∀ o, (w.alloc (.cells #[.string ⟨#[]⟩, .string ⟨#[]⟩, .string ⟨#[]⟩] 24)).frozen? ⟨w.heap.size, o, none⟩ = false := fun o => by simp [go_sem]
  have zl : w.heap.size < (w.alloc (.cells #[.string ⟨#[]⟩, .string ⟨#[]⟩, .string ⟨#[]⟩] 24)).heap.size := by simp
  have h1 := Lib.hid (h.keep B1)
  have HP := Lib.hid (S5.pr_3 E1 E2 h0)
  have hb : (S5.txE zs (S5.txN zs (S5.txN zs at')) != 0) = true := by simpa using h0
  clear h0
  go_enter Try.func26, Try.ntmps26
  go_wp2_with (fail)
  generalize (w.alloc (.cells #[.string ⟨#[]⟩, .string ⟨#[]⟩, .string ⟨#[]⟩] 24)) = w1 at *
  have B : Below w1.heap.size w1 w1 := Below.refl _ _
  have hown : OwnS 9 w1 w1.heap.size (.slice none 0 0) [] := OwnS.nil _ _ _
  refine wp_loop_rounds 4 ?_
  rw [rounds_succ]
  go_wp2_with (first | (go_at_call 24; refine (r5text_any _ _ _ zs _ _ (h1.out.keep B) hn).mono ?_; rintro e w' ⟨rfl, rfl⟩) | (at_builtin; refine wpList_pushS rfl _ _ 51 rfl 9 Try.underlying51 str_info w1.heap.size _ _ _ rfl rfl rfl hown (by simp) B.size ?_; intro v' w4 hown' hgrow; replace B := OwnS.pushed B hown hgrow; clear hown hgrow; replace hown := hown'; clear hown'))
  rw [rounds_succ]
  go_wp2_with (first | (go_at_call 24; refine (r5text_any _ _ _ zs _ _ (h1.out.keep B) hn).mono ?_; rintro e w' ⟨rfl, rfl⟩) | (at_builtin; refine wpList_pushS rfl _ _ 51 rfl 9 Try.underlying51 str_info w1.heap.size _ _ _ rfl rfl rfl hown (by simp) B.size ?_; intro v' w4 hown' hgrow; replace B := OwnS.pushed B hown hgrow; clear hown hgrow; replace hown := hown'; clear hown'))
  have y0 := cell_keep B c0
  have y1 := cell_keep B c1
  have y2 := cell_keep B c2
  have y3 := fun o => ((bcell B).2 w.heap.size o zl).trans (c3 o)
  rw [rounds_succ]
  go_wp2_with (first | (go_at_call 24; refine (r5text_any _ _ _ zs _ _ (h1.out.keep B) hn).mono ?_; rintro e w' ⟨rfl, rfl⟩) | (at_builtin; refine wpList_pushS rfl _ _ 51 rfl 9 Try.underlying51 str_info w1.heap.size _ _ _ rfl rfl rfl hown (by simp) B.size ?_; intro v' w4 hown' hgrow; replace B := OwnS.pushed B hown hgrow; clear hown hgrow; replace hown := hown'; clear hown'))
  have B9 := below_keep B B1
  refine bodyPost_ret (v := .tuple #[.agg #[.string ⟨#[]⟩, .string ⟨#[]⟩, .string ⟨#[]⟩], .int .i64 0, .int .i64 (S5.txE zs (S5.txN zs (S5.txN zs at')))]) (by simp [results, Try.results26, go_sem, y0, y1, y2]) rfl ⟨by rw [HP.out.1, HP.out.2.1, HP.out.2.2.1, HP.out.2.2.2.1, HP.out.2.2.2.2]; rfl, ?_⟩
  repeat (first | exact B9 | refine Below.setCell ?_ (by simp) _ | refine Below.alloc ?_ (by first | exact B9.size | (simp; exact B9.size)) _ | apply Below.drew)

set_option maxHeartbeats 3200000 in
theorem r5prin_4 (A : Option Addr) (bn cap : Nat) (zs : List Int) (at' : Int) (w : World) (h : Sl w A bn cap zs) (hn : bn ≤ 100000) (E1 : S5.txE zs at' = 0) (E2 : S5.txE zs (S5.txN zs at') = 0) (E3 : S5.txE zs (S5.txN zs (S5.txN zs at')) = 0) (h0 : S5.vPr (S5.txS zs at') (S5.txS zs (S5.txN zs at')) (S5.txS zs (S5.txN zs (S5.txN zs at'))) = false) : Calls Try.prog 26 #[.slice A bn cap, .int .i64 at'] w (PrinOut zs at' w) := by
  have B1 : Below w.heap.size w (w.alloc (.cells #[.string ⟨#[]⟩, .string ⟨#[]⟩, .string ⟨#[]⟩] 24)) := (Below.refl _ _).alloc (Nat.le_refl _) _
  have c0 : (w.alloc (.cells #[.string ⟨#[]⟩, .string ⟨#[]⟩, .string ⟨#[]⟩] 24)).cell? ⟨w.heap.size, 0, none⟩ = some (.string ⟨#[]⟩) := by simp [go_sem]
  have c1 : (w.alloc (.cells #[.string ⟨#[]⟩, .string ⟨#[]⟩, .string ⟨#[]⟩] 24)).cell? ⟨w.heap.size, 1, none⟩ = some (.string ⟨#[]⟩) := by simp [go_sem]
  have c2 : (w.alloc (.cells #[.string ⟨#[]⟩, .string ⟨#[]⟩, .string ⟨#[]⟩] 24)).cell? ⟨w.heap.size, 2, none⟩ = some (.string ⟨#[]⟩) := by simp [go_sem]
  have c3 : ∀ o, (w.alloc (.cells #[.string ⟨#[]⟩, .string ⟨#[]⟩, .string ⟨#[]⟩] 24)).frozen? ⟨w.heap.size, o, none⟩ = false := fun o => by simp [go_sem]
  have zl : w.heap.size < (w.alloc (.cells #[.string ⟨#[]⟩, .string ⟨#[]⟩, .string ⟨#[]⟩] 24)).heap.size := by simp
  have h1 := Lib.hid (h.keep B1)
  have HP := Lib.hid (S5.pr_4 E1 E2 E3 h0)
  have HV := Lib.hid h0
  unfold S5.vPr at HV
  go_enter Try.func26, Try.ntmps26
  go_wp2_with (fail)
  generalize (w.alloc (.cells #[.string ⟨#[]⟩, .string ⟨#[]⟩, .string ⟨#[]⟩] 24)) = w1 at *
  have B : Below w1.heap.size w1 w1 := Below.refl _ _
  have hown : OwnS 9 w1 w1.heap.size (.slice none 0 0) [] := OwnS.nil _ _ _
  refine wp_loop_rounds 4 ?_
  rw [rounds_succ]
  go_wp2_with (first | (go_at_call 24; refine (r5text_any _ _ _ zs _ _ (h1.out.keep B) hn).mono ?_; rintro e w' ⟨rfl, rfl⟩) | (at_builtin; refine wpList_pushS rfl _ _ 51 rfl 9 Try.underlying51 str_info w1.heap.size _ _ _ rfl rfl rfl hown (by simp) B.size ?_; intro v' w4 hown' hgrow; replace B := OwnS.pushed B hown hgrow; clear hown hgrow; replace hown := hown'; clear hown'))
  rw [rounds_succ]
  go_wp2_with (first | (go_at_call 24; refine (r5text_any _ _ _ zs _ _ (h1.out.keep B) hn).mono ?_; rintro e w' ⟨rfl, rfl⟩) | (at_builtin; refine wpList_pushS rfl _ _ 51 rfl 9 Try.underlying51 str_info w1.heap.size _ _ _ rfl rfl rfl hown (by simp) B.size ?_; intro v' w4 hown' hgrow; replace B := OwnS.pushed B hown hgrow; clear hown hgrow; replace hown := hown'; clear hown'))
  rw [rounds_succ]
  go_wp2_with (first | (go_at_call 24; refine (r5text_any _ _ _ zs _ _ (h1.out.keep B) hn).mono ?_; rintro e w' ⟨rfl, rfl⟩) | (at_builtin; refine wpList_pushS rfl _ _ 51 rfl 9 Try.underlying51 str_info w1.heap.size _ _ _ rfl rfl rfl hown (by simp) B.size ?_; intro v' w4 hown' hgrow; replace B := OwnS.pushed B hown hgrow; clear hown hgrow; replace hown := hown'; clear hown'))
  rw [rounds_succ]
  obtain ⟨g, cp, e', hg, hc⟩ := hown.cells (by simp)
  have d0 := hc 0 (by simp)
  have d1 := hc 1 (by simp)
  have d2 := hc 2 (by simp)
  simp at d0 d1 d2 e'
  subst e'
  clear hc
  obtain ⟨w5, hw5⟩ : ∃ w5, w5 = w4 := ⟨_, rfl⟩
  subst hw5
  have y0 := cell_keep B c0
  have y1 := cell_keep B c1
  have y2 := cell_keep B c2
  have y3 := fun o => ((bcell B).2 w.heap.size o zl).trans (c3 o)
  go_wp2_with (fail)
  go_region_held3 (fun W => W.cell? ⟨g, 0, none⟩ = some (.string (strOfNums (S5.txS zs at'))) ∧ W.cell? ⟨g, 1, none⟩ = some (.string (strOfNums (S5.txS zs (S5.txN zs at')))) ∧ W.cell? ⟨g, 2, none⟩ = some (.string (strOfNums (S5.txS zs (S5.txN zs (S5.txN zs at'))))))
    (first | (go_keep; done) | ((repeat' apply And.intro) <;> first | (go_keep; done)))
    (fail)
  have zl5 := cell_lt y0
  have hq1 : (strOfNums (S5.txS zs at')).size ≤ maxLen := by rw [strOfNums_size]; exact Nat.le_trans (S5.txS_len _ _) (by decide)
  have hq2 : (strOfNums (S5.txS zs (S5.txN zs at'))).size ≤ maxLen := by rw [strOfNums_size]; exact Nat.le_trans (S5.txS_len _ _) (by decide)
  have hq3 : (strOfNums (S5.txS zs (S5.txN zs (S5.txN zs at')))).size ≤ maxLen := by rw [strOfNums_size]; exact Nat.le_trans (S5.txS_len _ _) (by decide)
  go_wp2_with (fail)
  refine (refValid_any _ _ _ _ hq1 hq2 hq3).mono ?_
  rintro e w6 ⟨rfl, hb6⟩
  rw [HV.out]
  have x0 : w6.cell? ⟨w.heap.size, 0, none⟩ = some (.string ⟨#[]⟩) := cell_keep hb6 (by simp [go_sem, World.cell?_alloc_lt, zl5, y0])
  have x1 : w6.cell? ⟨w.heap.size, 1, none⟩ = some (.string ⟨#[]⟩) := cell_keep hb6 (by simp [go_sem, World.cell?_alloc_lt, zl5, y1])
  have x2 : w6.cell? ⟨w.heap.size, 2, none⟩ = some (.string ⟨#[]⟩) := cell_keep hb6 (by simp [go_sem, World.cell?_alloc_lt, zl5, y2])
  have x3 : ∀ o, w6.frozen? ⟨w.heap.size, o, none⟩ = false := fun o => by rw [(bcell hb6).2 _ _ (by simp; omega)]; simp [go_sem, zl5, y3]
  have v0 : w6.cell? ⟨w5.heap.size, 0, none⟩ = some (.string (strOfNums (S5.txS zs at'))) := cell_keep hb6 (by simp [go_sem])
  have v1 : w6.cell? ⟨w5.heap.size, 1, none⟩ = some (.string (strOfNums (S5.txS zs (S5.txN zs at')))) := cell_keep hb6 (by simp [go_sem])
  have v2 : w6.cell? ⟨w5.heap.size, 2, none⟩ = some (.string (strOfNums (S5.txS zs (S5.txN zs (S5.txN zs at'))))) := cell_keep hb6 (by simp [go_sem])
  have B6 := below_keep hb6 (((below_keep B B1).drew).alloc (by have := (below_keep B B1).size; simpa using this) _)
  go_wp2_with (fail)
  refine bodyPost_ret (v := .tuple #[.agg #[.string ⟨#[]⟩, .string ⟨#[]⟩, .string ⟨#[]⟩], .int .i64 0, .int .i64 103]) (by simp [results, Try.results26, go_sem, x0, x1, x2]) rfl ⟨by rw [HP.out.1, HP.out.2.1, HP.out.2.2.1, HP.out.2.2.2.1, HP.out.2.2.2.2]; rfl, ?_⟩
  repeat (first | exact B6 | refine Below.setCell ?_ (by simp) _)

set_option maxHeartbeats 3200000 in
theorem r5prin_5 (A : Option Addr) (bn cap : Nat) (zs : List Int) (at' : Int) (w : World) (h : Sl w A bn cap zs) (hn : bn ≤ 100000) (E1 : S5.txE zs at' = 0) (E2 : S5.txE zs (S5.txN zs at') = 0) (E3 : S5.txE zs (S5.txN zs (S5.txN zs at')) = 0) (h0 : S5.vPr (S5.txS zs at') (S5.txS zs (S5.txN zs at')) (S5.txS zs (S5.txN zs (S5.txN zs at'))) = true) : Calls Try.prog 26 #[.slice A bn cap, .int .i64 at'] w (PrinOut zs at' w) := by
  have B1 : Below w.heap.size w (w.alloc (.cells #[.string ⟨#[]⟩, .string ⟨#[]⟩, .string ⟨#[]⟩] 24)) := (Below.refl _ _).alloc (Nat.le_refl _) _
  have c0 : (w.alloc (.cells #[.string ⟨#[]⟩, .string ⟨#[]⟩, .string ⟨#[]⟩] 24)).cell? ⟨w.heap.size, 0, none⟩ = some (.string ⟨#[]⟩) := by simp [go_sem]
  have c1 : (w.alloc (.cells #[.string ⟨#[]⟩, .string ⟨#[]⟩, .string ⟨#[]⟩] 24)).cell? ⟨w.heap.size, 1, none⟩ = some (.string ⟨#[]⟩) := by simp [go_sem]
  have c2 : (w.alloc (.cells #[.string ⟨#[]⟩, .string ⟨#[]⟩, .string ⟨#[]⟩] 24)).cell? ⟨w.heap.size, 2, none⟩ = some (.string ⟨#[]⟩) := by simp [go_sem]
  have c3 : ∀ o, (w.alloc (.cells #[.string ⟨#[]⟩, .string ⟨#[]⟩, .string ⟨#[]⟩] 24)).frozen? ⟨w.heap.size, o, none⟩ = false := fun o => by simp [go_sem]
  have zl : w.heap.size < (w.alloc (.cells #[.string ⟨#[]⟩, .string ⟨#[]⟩, .string ⟨#[]⟩] 24)).heap.size := by simp
  have h1 := Lib.hid (h.keep B1)
  have HP := Lib.hid (S5.pr_ok E1 E2 E3 h0)
  have HV := Lib.hid h0
  unfold S5.vPr at HV
  go_enter Try.func26, Try.ntmps26
  go_wp2_with (fail)
  generalize (w.alloc (.cells #[.string ⟨#[]⟩, .string ⟨#[]⟩, .string ⟨#[]⟩] 24)) = w1 at *
  have B : Below w1.heap.size w1 w1 := Below.refl _ _
  have hown : OwnS 9 w1 w1.heap.size (.slice none 0 0) [] := OwnS.nil _ _ _
  refine wp_loop_rounds 4 ?_
  rw [rounds_succ]
  go_wp2_with (first | (go_at_call 24; refine (r5text_any _ _ _ zs _ _ (h1.out.keep B) hn).mono ?_; rintro e w' ⟨rfl, rfl⟩) | (at_builtin; refine wpList_pushS rfl _ _ 51 rfl 9 Try.underlying51 str_info w1.heap.size _ _ _ rfl rfl rfl hown (by simp) B.size ?_; intro v' w4 hown' hgrow; replace B := OwnS.pushed B hown hgrow; clear hown hgrow; replace hown := hown'; clear hown'))
  rw [rounds_succ]
  go_wp2_with (first | (go_at_call 24; refine (r5text_any _ _ _ zs _ _ (h1.out.keep B) hn).mono ?_; rintro e w' ⟨rfl, rfl⟩) | (at_builtin; refine wpList_pushS rfl _ _ 51 rfl 9 Try.underlying51 str_info w1.heap.size _ _ _ rfl rfl rfl hown (by simp) B.size ?_; intro v' w4 hown' hgrow; replace B := OwnS.pushed B hown hgrow; clear hown hgrow; replace hown := hown'; clear hown'))
  rw [rounds_succ]
  go_wp2_with (first | (go_at_call 24; refine (r5text_any _ _ _ zs _ _ (h1.out.keep B) hn).mono ?_; rintro e w' ⟨rfl, rfl⟩) | (at_builtin; refine wpList_pushS rfl _ _ 51 rfl 9 Try.underlying51 str_info w1.heap.size _ _ _ rfl rfl rfl hown (by simp) B.size ?_; intro v' w4 hown' hgrow; replace B := OwnS.pushed B hown hgrow; clear hown hgrow; replace hown := hown'; clear hown'))
  rw [rounds_succ]
  obtain ⟨g, cp, e', hg, hc⟩ := hown.cells (by simp)
  have d0 := hc 0 (by simp)
  have d1 := hc 1 (by simp)
  have d2 := hc 2 (by simp)
  simp at d0 d1 d2 e'
  subst e'
  clear hc
  obtain ⟨w5, hw5⟩ : ∃ w5, w5 = w4 := ⟨_, rfl⟩
  subst hw5
  have y0 := cell_keep B c0
  have y1 := cell_keep B c1
  have y2 := cell_keep B c2
  have y3 := fun o => ((bcell B).2 w.heap.size o zl).trans (c3 o)
  go_wp2_with (fail)
  go_region_held3 (fun W => W.cell? ⟨g, 0, none⟩ = some (.string (strOfNums (S5.txS zs at'))) ∧ W.cell? ⟨g, 1, none⟩ = some (.string (strOfNums (S5.txS zs (S5.txN zs at')))) ∧ W.cell? ⟨g, 2, none⟩ = some (.string (strOfNums (S5.txS zs (S5.txN zs (S5.txN zs at'))))))
    (first | (go_keep; done) | ((repeat' apply And.intro) <;> first | (go_keep; done)))
    (fail)
  have zl5 := cell_lt y0
  have hq1 : (strOfNums (S5.txS zs at')).size ≤ maxLen := by rw [strOfNums_size]; exact Nat.le_trans (S5.txS_len _ _) (by decide)
  have hq2 : (strOfNums (S5.txS zs (S5.txN zs at'))).size ≤ maxLen := by rw [strOfNums_size]; exact Nat.le_trans (S5.txS_len _ _) (by decide)
  have hq3 : (strOfNums (S5.txS zs (S5.txN zs (S5.txN zs at')))).size ≤ maxLen := by rw [strOfNums_size]; exact Nat.le_trans (S5.txS_len _ _) (by decide)
  go_wp2_with (fail)
  refine (refValid_any _ _ _ _ hq1 hq2 hq3).mono ?_
  rintro e w6 ⟨rfl, hb6⟩
  rw [HV.out]
  have x0 : w6.cell? ⟨w.heap.size, 0, none⟩ = some (.string ⟨#[]⟩) := cell_keep hb6 (by simp [go_sem, World.cell?_alloc_lt, zl5, y0])
  have x1 : w6.cell? ⟨w.heap.size, 1, none⟩ = some (.string ⟨#[]⟩) := cell_keep hb6 (by simp [go_sem, World.cell?_alloc_lt, zl5, y1])
  have x2 : w6.cell? ⟨w.heap.size, 2, none⟩ = some (.string ⟨#[]⟩) := cell_keep hb6 (by simp [go_sem, World.cell?_alloc_lt, zl5, y2])
  have x3 : ∀ o, w6.frozen? ⟨w.heap.size, o, none⟩ = false := fun o => by rw [(bcell hb6).2 _ _ (by simp; omega)]; simp [go_sem, zl5, y3]
  have v0 : w6.cell? ⟨w5.heap.size, 0, none⟩ = some (.string (strOfNums (S5.txS zs at'))) := cell_keep hb6 (by simp [go_sem])
  have v1 : w6.cell? ⟨w5.heap.size, 1, none⟩ = some (.string (strOfNums (S5.txS zs (S5.txN zs at')))) := cell_keep hb6 (by simp [go_sem])
  have v2 : w6.cell? ⟨w5.heap.size, 2, none⟩ = some (.string (strOfNums (S5.txS zs (S5.txN zs (S5.txN zs at'))))) := cell_keep hb6 (by simp [go_sem])
  have B6 := below_keep hb6 (((below_keep B B1).drew).alloc (by have := (below_keep B B1).size; simpa using this) _)
  go_wp2_with (fail)
  refine bodyPost_ret (v := .tuple #[.agg #[.string (strOfNums (S5.txS zs at')), .string (strOfNums (S5.txS zs (S5.txN zs at'))), .string (strOfNums (S5.txS zs (S5.txN zs (S5.txN zs at'))))], .int .i64 (S5.txN zs (S5.txN zs (S5.txN zs at'))), .int .i64 0]) (by simp [results, Try.results26, go_sem, x0, x1, x2]) rfl ⟨by rw [HP.out.1, HP.out.2.1, HP.out.2.2.1, HP.out.2.2.2.1, HP.out.2.2.2.2], ?_⟩
  repeat (first | exact B6 | refine Below.setCell ?_ (by simp) _)

theorem r5principal_any (A : Option Addr) (bn cap : Nat) (zs : List Int) (at' : Int) (w : World) (h : Sl w A bn cap zs) (hn : bn ≤ 100000) : Calls Try.prog 26 #[.slice A bn cap, .int .i64 at'] w (PrinOut zs at' w) := by
  by_cases E1 : S5.txE zs at' = 0
  · by_cases E2 : S5.txE zs (S5.txN zs at') = 0
    · by_cases E3 : S5.txE zs (S5.txN zs (S5.txN zs at')) = 0
      · rcases h0 : S5.vPr (S5.txS zs at') (S5.txS zs (S5.txN zs at')) (S5.txS zs (S5.txN zs (S5.txN zs at')))
        · exact r5prin_4 A bn cap zs at' w h hn E1 E2 E3 h0
        · exact r5prin_5 A bn cap zs at' w h hn E1 E2 E3 h0
      · exact r5prin_3 A bn cap zs at' w h hn E1 E2 E3
    · exact r5prin_2 A bn cap zs at' w h hn E1 E2
  · exact r5prin_1 A bn cap zs at' w h hn E1

end Go.Proofs.Ytnipccnfdgdknaa
