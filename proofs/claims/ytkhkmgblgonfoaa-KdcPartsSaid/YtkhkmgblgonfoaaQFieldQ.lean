/-
  What Principal of package field returns.
-/
import Derived.Test.YtkhkmgblgonfoaaQFieldT
import Derived.Test.YtkhkmgblgonfoaaQFieldRN
namespace Go.Proofs.Ytkhkmgblgonfoaa
open Go.RowKit
set_option maxRecDepth 100000

set_option maxHeartbeats 3200000 in
theorem fprin_1 (A : Option Addr) (bn cap : Nat) (zs : List Int) (at' : Int) (w : World) (h : Sl w A bn cap zs) (hn : bn ≤ 100000)  (h0 : S5.txE zs at' ≠ 0) : Calls Try.prog 74 #[.slice A bn cap, .int .i64 at'] w (PrinOut zs at' w) := by
  have TX := Lib.hid (fun (x : Int) (W : World) (hb : Below w.heap.size w W) => ftextQ_any A bn cap zs x W (h.keep hb) hn)
  have HP := Lib.hid (S5.pr_1 h0)
  have hb : (S5.txE zs at' != 0) = true := by simpa using h0
  clear h0 h
  go_enter Try.func74, Try.ntmps74
  go_wp2_with (fail)
  refine wp_loop_rounds 4 ?_
  rw [rounds_succ]
  go_wp2_with ((go_at_call 77; refine (TX.out _ _ (by repeat (first | exact Below.refl _ _ | refine Below.alloc ?_ (by simp <;> omega) _))).mono ?_; rintro e w' ⟨rfl, rfl⟩))
  refine bodyPost_ret (v := .tuple #[.agg #[.string ⟨#[]⟩, .string ⟨#[]⟩, .string ⟨#[]⟩], .int .i64 0, .int .i64 (S5.txE zs at')]) (by simp [results, Try.results74, go_sem]) rfl ⟨by rw [HP.out.1, HP.out.2.1, HP.out.2.2.1, HP.out.2.2.2.1, HP.out.2.2.2.2]; rfl, ?_⟩
  repeat (first | exact Below.refl _ _ | refine Below.setCell ?_ (by simp) _ | refine Below.alloc ?_ (by simp <;> omega) _)

set_option maxHeartbeats 3200000 in
theorem fprin_2 (A : Option Addr) (bn cap : Nat) (zs : List Int) (at' : Int) (w : World) (h : Sl w A bn cap zs) (hn : bn ≤ 100000) (E1 : S5.txE zs at' = 0) (h0 : S5.txE zs (S5.txN zs at') ≠ 0) : Calls Try.prog 74 #[.slice A bn cap, .int .i64 at'] w (PrinOut zs at' w) := by
  have TX := Lib.hid (fun (x : Int) (W : World) (hb : Below w.heap.size w W) => ftextQ_any A bn cap zs x W (h.keep hb) hn)
  have HP := Lib.hid (S5.pr_2 E1 h0)
  have hb : (S5.txE zs (S5.txN zs at') != 0) = true := by simpa using h0
  clear h0 h
  go_enter Try.func74, Try.ntmps74
  go_wp2_with (fail)
  refine wp_loop_rounds 4 ?_
  rw [rounds_succ]
  go_wp2_with ((go_at_call 77; refine (TX.out _ _ (by repeat (first | exact Below.refl _ _ | refine Below.alloc ?_ (by simp <;> omega) _))).mono ?_; rintro e w' ⟨rfl, rfl⟩))
  rw [rounds_succ]
  go_wp2_with ((go_at_call 77; refine (TX.out _ _ (by repeat (first | exact Below.refl _ _ | refine Below.alloc ?_ (by simp <;> omega) _))).mono ?_; rintro e w' ⟨rfl, rfl⟩))
  refine bodyPost_ret (v := .tuple #[.agg #[.string ⟨#[]⟩, .string ⟨#[]⟩, .string ⟨#[]⟩], .int .i64 0, .int .i64 (S5.txE zs (S5.txN zs at'))]) (by simp [results, Try.results74, go_sem]) rfl ⟨by rw [HP.out.1, HP.out.2.1, HP.out.2.2.1, HP.out.2.2.2.1, HP.out.2.2.2.2]; rfl, ?_⟩
  repeat (first | exact Below.refl _ _ | refine Below.setCell ?_ (by simp) _ | refine Below.alloc ?_ (by simp <;> omega) _)

set_option maxHeartbeats 3200000 in
theorem fprin_3 (A : Option Addr) (bn cap : Nat) (zs : List Int) (at' : Int) (w : World) (h : Sl w A bn cap zs) (hn : bn ≤ 100000) (E1 : S5.txE zs at' = 0) (E2 : S5.txE zs (S5.txN zs at') = 0) (h0 : S5.txE zs (S5.txN zs (S5.txN zs at')) ≠ 0) : Calls Try.prog 74 #[.slice A bn cap, .int .i64 at'] w (PrinOut zs at' w) := by
  have TX := Lib.hid (fun (x : Int) (W : World) (hb : Below w.heap.size w W) => ftextQ_any A bn cap zs x W (h.keep hb) hn)
  have HP := Lib.hid (S5.pr_3 E1 E2 h0)
  have hb : (S5.txE zs (S5.txN zs (S5.txN zs at')) != 0) = true := by simpa using h0
  clear h0 h
  go_enter Try.func74, Try.ntmps74
  go_wp2_with (fail)
  refine wp_loop_rounds 4 ?_
  rw [rounds_succ]
  go_wp2_with ((go_at_call 77; refine (TX.out _ _ (by repeat (first | exact Below.refl _ _ | refine Below.alloc ?_ (by simp <;> omega) _))).mono ?_; rintro e w' ⟨rfl, rfl⟩))
  rw [rounds_succ]
  go_wp2_with ((go_at_call 77; refine (TX.out _ _ (by repeat (first | exact Below.refl _ _ | refine Below.alloc ?_ (by simp <;> omega) _))).mono ?_; rintro e w' ⟨rfl, rfl⟩))
  rw [rounds_succ]
  go_wp2_with ((go_at_call 77; refine (TX.out _ _ (by repeat (first | exact Below.refl _ _ | refine Below.alloc ?_ (by simp <;> omega) _))).mono ?_; rintro e w' ⟨rfl, rfl⟩))
  refine bodyPost_ret (v := .tuple #[.agg #[.string ⟨#[]⟩, .string ⟨#[]⟩, .string ⟨#[]⟩], .int .i64 0, .int .i64 (S5.txE zs (S5.txN zs (S5.txN zs at')))]) (by simp [results, Try.results74, go_sem]) rfl ⟨by rw [HP.out.1, HP.out.2.1, HP.out.2.2.1, HP.out.2.2.2.1, HP.out.2.2.2.2]; rfl, ?_⟩
  repeat (first | exact Below.refl _ _ | refine Below.setCell ?_ (by simp) _ | refine Below.alloc ?_ (by simp <;> omega) _)

set_option maxHeartbeats 3200000 in
theorem fprin_4 (A : Option Addr) (bn cap : Nat) (zs : List Int) (at' : Int) (w : World) (h : Sl w A bn cap zs) (hn : bn ≤ 100000) (E1 : S5.txE zs at' = 0) (E2 : S5.txE zs (S5.txN zs at') = 0) (E3 : S5.txE zs (S5.txN zs (S5.txN zs at')) = 0) (h0 : S5.vPr (S5.txS zs at') (S5.txS zs (S5.txN zs at')) (S5.txS zs (S5.txN zs (S5.txN zs at'))) = false) : Calls Try.prog 74 #[.slice A bn cap, .int .i64 at'] w (PrinOut zs at' w) := by
  have TX := Lib.hid (fun (x : Int) (W : World) (hb : Below w.heap.size w W) => ftextQ_any A bn cap zs x W (h.keep hb) hn)
  have HP := Lib.hid (S5.pr_4 E1 E2 E3 h0)
  have HV := Lib.hid h0
  unfold S5.vPr at HV
  clear h0 h
  have hq1 : (strOfNums (S5.txS zs at')).size ≤ maxLen := by rw [strOfNums_size]; exact Nat.le_trans (S5.txS_len _ _) (by decide)
  have hq2 : (strOfNums (S5.txS zs (S5.txN zs at'))).size ≤ maxLen := by rw [strOfNums_size]; exact Nat.le_trans (S5.txS_len _ _) (by decide)
  have hq3 : (strOfNums (S5.txS zs (S5.txN zs (S5.txN zs at')))).size ≤ maxLen := by rw [strOfNums_size]; exact Nat.le_trans (S5.txS_len _ _) (by decide)
  go_enter Try.func74, Try.ntmps74
  go_wp2_with (fail)
  refine wp_loop_rounds 4 ?_
  rw [rounds_succ]
  go_wp2_with ((go_at_call 77; refine (TX.out _ _ (by repeat (first | exact Below.refl _ _ | refine Below.alloc ?_ (by simp <;> omega) _))).mono ?_; rintro e w' ⟨rfl, rfl⟩))
  rw [rounds_succ]
  go_wp2_with ((go_at_call 77; refine (TX.out _ _ (by repeat (first | exact Below.refl _ _ | refine Below.alloc ?_ (by simp <;> omega) _))).mono ?_; rintro e w' ⟨rfl, rfl⟩))
  rw [rounds_succ]
  go_wp2_with ((go_at_call 77; refine (TX.out _ _ (by repeat (first | exact Below.refl _ _ | refine Below.alloc ?_ (by simp <;> omega) _))).mono ?_; rintro e w' ⟨rfl, rfl⟩))
  rw [rounds_succ]
  go_wp2_with (fail)
  refine (valid_any _ _ _ _ hq1 hq2 hq3).mono ?_
  rintro e w6 ⟨rfl, hb6⟩
  rw [HV.out]
  have x0 : w6.cell? ⟨w.heap.size, 0, none⟩ = some (.string ⟨#[]⟩) := cell_keep hb6 (by simp [go_sem])
  have x1 : w6.cell? ⟨w.heap.size, 1, none⟩ = some (.string ⟨#[]⟩) := cell_keep hb6 (by simp [go_sem])
  have x2 : w6.cell? ⟨w.heap.size, 2, none⟩ = some (.string ⟨#[]⟩) := cell_keep hb6 (by simp [go_sem])
  have x3 : ∀ o, w6.frozen? ⟨w.heap.size, o, none⟩ = false := fun o => by rw [(bcell hb6).2 _ _ (by simp; omega)]; simp [go_sem]
  have v0 : w6.cell? ⟨w.heap.size + 1, 0, none⟩ = some (.string (strOfNums (S5.txS zs at'))) := cell_keep hb6 (by simp [go_sem])
  have v1 : w6.cell? ⟨w.heap.size + 1, 1, none⟩ = some (.string (strOfNums (S5.txS zs (S5.txN zs at')))) := cell_keep hb6 (by simp [go_sem])
  have v2 : w6.cell? ⟨w.heap.size + 1, 2, none⟩ = some (.string (strOfNums (S5.txS zs (S5.txN zs (S5.txN zs at'))))) := cell_keep hb6 (by simp [go_sem])
  have B6 : Below w.heap.size w w6 := below_keep hb6 (by repeat (first | exact Below.refl _ _ | refine Below.alloc ?_ (by simp <;> omega) _))
  go_wp2_with (fail)
  refine bodyPost_ret (v := .tuple #[.agg #[.string ⟨#[]⟩, .string ⟨#[]⟩, .string ⟨#[]⟩], .int .i64 0, .int .i64 103]) (by simp [results, Try.results74, go_sem, x0, x1, x2]) rfl ⟨by rw [HP.out.1, HP.out.2.1, HP.out.2.2.1, HP.out.2.2.2.1, HP.out.2.2.2.2]; rfl, ?_⟩
  repeat (first | exact B6 | refine Below.setCell ?_ (by simp) _)

set_option maxHeartbeats 3200000 in
theorem fprin_5 (A : Option Addr) (bn cap : Nat) (zs : List Int) (at' : Int) (w : World) (h : Sl w A bn cap zs) (hn : bn ≤ 100000) (E1 : S5.txE zs at' = 0) (E2 : S5.txE zs (S5.txN zs at') = 0) (E3 : S5.txE zs (S5.txN zs (S5.txN zs at')) = 0) (h0 : S5.vPr (S5.txS zs at') (S5.txS zs (S5.txN zs at')) (S5.txS zs (S5.txN zs (S5.txN zs at'))) = true) : Calls Try.prog 74 #[.slice A bn cap, .int .i64 at'] w (PrinOut zs at' w) := by
  have TX := Lib.hid (fun (x : Int) (W : World) (hb : Below w.heap.size w W) => ftextQ_any A bn cap zs x W (h.keep hb) hn)
  have HP := Lib.hid (S5.pr_ok E1 E2 E3 h0)
  have HV := Lib.hid h0
  unfold S5.vPr at HV
  clear h0 h
  have hq1 : (strOfNums (S5.txS zs at')).size ≤ maxLen := by rw [strOfNums_size]; exact Nat.le_trans (S5.txS_len _ _) (by decide)
  have hq2 : (strOfNums (S5.txS zs (S5.txN zs at'))).size ≤ maxLen := by rw [strOfNums_size]; exact Nat.le_trans (S5.txS_len _ _) (by decide)
  have hq3 : (strOfNums (S5.txS zs (S5.txN zs (S5.txN zs at')))).size ≤ maxLen := by rw [strOfNums_size]; exact Nat.le_trans (S5.txS_len _ _) (by decide)
  go_enter Try.func74, Try.ntmps74
  go_wp2_with (fail)
  refine wp_loop_rounds 4 ?_
  rw [rounds_succ]
  go_wp2_with ((go_at_call 77; refine (TX.out _ _ (by repeat (first | exact Below.refl _ _ | refine Below.alloc ?_ (by simp <;> omega) _))).mono ?_; rintro e w' ⟨rfl, rfl⟩))
  rw [rounds_succ]
  go_wp2_with ((go_at_call 77; refine (TX.out _ _ (by repeat (first | exact Below.refl _ _ | refine Below.alloc ?_ (by simp <;> omega) _))).mono ?_; rintro e w' ⟨rfl, rfl⟩))
  rw [rounds_succ]
  go_wp2_with ((go_at_call 77; refine (TX.out _ _ (by repeat (first | exact Below.refl _ _ | refine Below.alloc ?_ (by simp <;> omega) _))).mono ?_; rintro e w' ⟨rfl, rfl⟩))
  rw [rounds_succ]
  go_wp2_with (fail)
  refine (valid_any _ _ _ _ hq1 hq2 hq3).mono ?_
  rintro e w6 ⟨rfl, hb6⟩
  rw [HV.out]
  have x0 : w6.cell? ⟨w.heap.size, 0, none⟩ = some (.string ⟨#[]⟩) := cell_keep hb6 (by simp [go_sem])
  have x1 : w6.cell? ⟨w.heap.size, 1, none⟩ = some (.string ⟨#[]⟩) := cell_keep hb6 (by simp [go_sem])
  have x2 : w6.cell? ⟨w.heap.size, 2, none⟩ = some (.string ⟨#[]⟩) := cell_keep hb6 (by simp [go_sem])
  have x3 : ∀ o, w6.frozen? ⟨w.heap.size, o, none⟩ = false := fun o => by rw [(bcell hb6).2 _ _ (by simp; omega)]; simp [go_sem]
  have v0 : w6.cell? ⟨w.heap.size + 1, 0, none⟩ = some (.string (strOfNums (S5.txS zs at'))) := cell_keep hb6 (by simp [go_sem])
  have v1 : w6.cell? ⟨w.heap.size + 1, 1, none⟩ = some (.string (strOfNums (S5.txS zs (S5.txN zs at')))) := cell_keep hb6 (by simp [go_sem])
  have v2 : w6.cell? ⟨w.heap.size + 1, 2, none⟩ = some (.string (strOfNums (S5.txS zs (S5.txN zs (S5.txN zs at'))))) := cell_keep hb6 (by simp [go_sem])
  have B6 : Below w.heap.size w w6 := below_keep hb6 (by repeat (first | exact Below.refl _ _ | refine Below.alloc ?_ (by simp <;> omega) _))
  go_wp2_with (fail)
  refine bodyPost_ret (v := .tuple #[.agg #[.string (strOfNums (S5.txS zs at')), .string (strOfNums (S5.txS zs (S5.txN zs at'))), .string (strOfNums (S5.txS zs (S5.txN zs (S5.txN zs at'))))], .int .i64 (S5.txN zs (S5.txN zs (S5.txN zs at'))), .int .i64 0]) (by simp [results, Try.results74, go_sem, x0, x1, x2]) rfl ⟨by rw [HP.out.1, HP.out.2.1, HP.out.2.2.1, HP.out.2.2.2.1, HP.out.2.2.2.2], ?_⟩
  repeat (first | exact B6 | refine Below.setCell ?_ (by simp) _)

theorem fprincipal_any (A : Option Addr) (bn cap : Nat) (zs : List Int) (at' : Int) (w : World) (h : Sl w A bn cap zs) (hn : bn ≤ 100000) : Calls Try.prog 74 #[.slice A bn cap, .int .i64 at'] w (PrinOut zs at' w) := by
  by_cases E1 : S5.txE zs at' = 0
  · by_cases E2 : S5.txE zs (S5.txN zs at') = 0
    · by_cases E3 : S5.txE zs (S5.txN zs (S5.txN zs at')) = 0
      · rcases h0 : S5.vPr (S5.txS zs at') (S5.txS zs (S5.txN zs at')) (S5.txS zs (S5.txN zs (S5.txN zs at')))
        · exact fprin_4 A bn cap zs at' w h hn E1 E2 E3 h0
        · exact fprin_5 A bn cap zs at' w h hn E1 E2 E3 h0
      · exact fprin_3 A bn cap zs at' w h hn E1 E2 E3
    · exact fprin_2 A bn cap zs at' w h hn E1 E2
  · exact fprin_1 A bn cap zs at' w h hn E1

end Go.Proofs.Ytkhkmgblgonfoaa
