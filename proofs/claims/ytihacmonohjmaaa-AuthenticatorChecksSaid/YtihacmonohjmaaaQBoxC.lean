/-
  What whole, Open and Is of package box return.
-/
import Derived.Test.YtihacmonohjmaaaQBoxB
namespace Go.Proofs.Ytihacmonohjmaaa
open Go.RowKit

theorem isB_parts {zs : List Int} (h : S4.isB zs = true) : S4.rdE zs = 0 ∧ S4.rdN zs = (zs.length : Int) := by simpa [S4.isB] using h
theorem isB_not {zs : List Int} (h : S4.isB zs = false) : S4.rdE zs ≠ 0 ∨ S4.rdE zs = 0 ∧ S4.rdN zs ≠ (zs.length : Int) := by
  by_cases e : S4.rdE zs = 0
  · right; refine ⟨e, ?_⟩; simpa [S4.isB, e] using h
  · exact .inl e

/-- What whole returns. -/
def WholeB (b : Bool) (zs : List Int) (w : World) (e : Ending) (w' : World) : Prop :=
  ∃ A n cap, e = .returned (.tuple #[.agg #[.int .i64 (if b then S4.rdK zs else 0), .int .u64 (if b then S4.rdY zs else 0), .slice A n cap], .bool b]) ∧ Sl w' A n cap (if b then S4.rdB zs else []) ∧ Below w.heap.size w w' ∧ Fresh w.heap.size A

set_option maxHeartbeats 800000 in
theorem bwhole_any (A : Option Addr) (n cap : Nat) (zs : List Int) (w : World) (h : Sl w A n cap zs) : Calls Try.prog 74 #[.slice A n cap] w (WholeB (S4.isB zs) zs w) := by
  have hmax := h.max
  unfold maxLen at hmax
  have hlen := Lib.hid h.len
  have Ba : ∀ o, Below w.heap.size w (w.alloc o) := fun o => (Below.refl _ _).alloc (Nat.le_refl _) o
  replace h := Lib.hid h
  rcases hB : S4.isB zs
  · have hne : (S4.rdE zs != 0) = true ∨ S4.rdE zs = 0 ∧ (S4.rdN zs != (n : Int)) = true := by
      rcases isB_not hB with e | ⟨e, g⟩
      · left; simpa using e
      · right; rw [← hlen.out]; exact ⟨e, by simpa using g⟩
    rcases hne with hE | ⟨hE, hN⟩
    all_goals
      go_enter Try.func74, Try.ntmps74
      go_wp2_with (fail)
      refine (bread_any _ _ _ zs _ (h.out.keep (Ba _))).mono ?_
      rintro e w1 ⟨A1, n1, c1, rfl, hs1, hb1, hf1⟩
      have y0 : w1.cell? ⟨w.heap.size, 0, none⟩ = some (.int .i64 0) := cell_keep hb1 (by simp [go_sem])
      have y1 : w1.cell? ⟨w.heap.size, 1, none⟩ = some (.int .u64 0) := cell_keep hb1 (by simp [go_sem])
      have y2 : w1.cell? ⟨w.heap.size, 2, none⟩ = some (.slice none 0 0) := cell_keep hb1 (by simp [go_sem])
      have y3 : ∀ o, w1.frozen? ⟨w.heap.size, o, none⟩ = false := fun o => by rw [(bcell hb1).2 _ _ (by simp)]; simp [go_sem]
      have z1 : w.heap.size < w1.heap.size := cell_lt y0
      have B1 := below_keep hb1 (Ba _)
      clear hs1
      go_wp2_with (fail)
      refine bodyPost_ret (v := .tuple #[.agg #[.int .i64 0, .int .u64 0, .slice none 0 0], .bool false]) (by simp [results, Try.results74, go_sem, World.cell?_alloc_lt, y0, y1, y2, z1]) rfl ⟨none, 0, 0, rfl, Sl.nil _, ?_, Fresh.nil _⟩
      repeat (first | exact B1 | exact Below.refl _ _ | apply below_drewN' | apply Below.drew | refine Below.setCell ?_ (by simp) _ | refine Below.alloc ?_ (by first | omega | (simp; done) | (simp; omega)) _)
  · obtain ⟨hE, hN⟩ := isB_parts hB
    rw [hlen.out] at hN
    go_enter Try.func74, Try.ntmps74
    go_wp2_with (fail)
    refine (bread_any _ _ _ zs _ (h.out.keep (Ba _))).mono ?_
    rintro e w1 ⟨A1, n1, c1, rfl, hs1, hb1, hf1⟩
    have y0 : w1.cell? ⟨w.heap.size, 0, none⟩ = some (.int .i64 0) := cell_keep hb1 (by simp [go_sem])
    have y1 : w1.cell? ⟨w.heap.size, 1, none⟩ = some (.int .u64 0) := cell_keep hb1 (by simp [go_sem])
    have y2 : w1.cell? ⟨w.heap.size, 2, none⟩ = some (.slice none 0 0) := cell_keep hb1 (by simp [go_sem])
    have y3 : ∀ o, w1.frozen? ⟨w.heap.size, o, none⟩ = false := fun o => by rw [(bcell hb1).2 _ _ (by simp)]; simp [go_sem]
    have z1 : w.heap.size < w1.heap.size := cell_lt y0
    have B1 := below_keep hb1 (Ba _)
    replace hs1 := Lib.hid hs1
    go_wp2_with (fail)
    refine bodyPost_ret (v := .tuple #[.agg #[.int .i64 (S4.rdK zs), .int .u64 (S4.rdY zs), .slice A1 n1 c1], .bool true]) (by simp [results, Try.results74, go_sem, World.cell?_alloc_lt, y0, y1, y2, z1]) rfl ⟨A1, n1, c1, rfl, ?_, ?_, hf1.le (by simp)⟩
    · exact ((((hs1.out.outside hf1 (p := ⟨w.heap.size, 0, none⟩) (by simp) _).outside hf1 (p := ⟨w.heap.size, 1, none⟩) (by simp) _).outside hf1 (p := ⟨w.heap.size, 2, none⟩) (by simp) _).keep ((Below.refl _ _).alloc (Nat.le_refl _) _))
    · repeat (first | exact B1 | exact Below.refl _ _ | apply below_drewN' | apply Below.drew | refine Below.setCell ?_ (by simp) _ | refine Below.alloc ?_ (by first | omega | (simp; done) | (simp; omega)) _)

theorem op_not {zs : List Int} {kind key : Int} (h : S4.isB zs = false ∨ S4.rdK zs ≠ kind ∨ S4.rdY zs ≠ key) : S4.opOk zs kind key = false ∧ S4.opB zs kind key = [] := by
  have e : S4.opOk zs kind key = false := by
    unfold S4.opOk
    rcases h with h | h | h <;> simp [h]
  exact ⟨e, by unfold S4.opB; rw [e]; rfl⟩
theorem op_yes {zs : List Int} (h : S4.isB zs = true) : S4.opOk zs (S4.rdK zs) (S4.rdY zs) = true ∧ S4.opB zs (S4.rdK zs) (S4.rdY zs) = S4.rdB zs := by
  have e : S4.opOk zs (S4.rdK zs) (S4.rdY zs) = true := by unfold S4.opOk; simp [h]
  exact ⟨e, by unfold S4.opB; rw [e]; rfl⟩


/-- What Open returns. -/
def OpenB (ok : Bool) (ys : List Int) (w : World) (e : Ending) (w' : World) : Prop :=
  ∃ A n cap, e = .returned (.tuple #[.slice A n cap, .bool ok]) ∧ Sl w' A n cap ys ∧ Below w.heap.size w w' ∧ Fresh w.heap.size A

set_option maxHeartbeats 800000 in
theorem bopen_any (A : Option Addr) (n cap : Nat) (zs : List Int) (kind key : Int) (w : World) (h : Sl w A n cap zs) : Calls Try.prog 47 #[.slice A n cap, .int .i64 kind, .int .u64 key] w (OpenB (S4.opOk zs kind key) (S4.opB zs kind key) w) := by
  rcases hB : S4.isB zs
  · have HO := Lib.hid (op_not (zs := zs) (kind := kind) (key := key) (.inl hB))
    have WH := bwhole_any _ _ _ zs _ h
    rw [hB] at WH
    replace WH := Lib.hid WH
    go_enter Try.func47, Try.ntmps47
    go_wp2_with (fail)
    refine WH.out.mono ?_
    rintro e w1 ⟨A1, n1, c1, rfl, hs1, hb1, hf1⟩
    clear hs1
    go_wp2_with (fail)
    go_ret2
    exact ⟨none, 0, 0, ret_two rfl (bval HO.out.1.symm), by rw [HO.out.2]; exact Sl.nil _, hb1.alloc hb1.size _, Fresh.nil _⟩
  · have WH := bwhole_any _ _ _ zs _ h
    rw [hB] at WH
    replace WH := Lib.hid WH
    by_cases hK : S4.rdK zs = kind
    · by_cases hY : S4.rdY zs = key
      · subst hK hY
        have HO := Lib.hid (op_yes hB)
        go_enter Try.func47, Try.ntmps47
        go_wp2_with (fail)
        refine WH.out.mono ?_
        rintro e w1 ⟨A1, n1, c1, rfl, hs1, hb1, hf1⟩
        replace hs1 : Sl w1 A1 n1 c1 (S4.rdB zs) := hs1
        replace hs1 := Lib.hid hs1
        go_wp2_with (fail)
        go_ret2
        exact ⟨A1, n1, c1, ret_two rfl (bval HO.out.1.symm), by rw [HO.out.2]; exact hs1.out.keep ((Below.refl _ _).alloc (Nat.le_refl _) _), hb1.alloc hb1.size _, hf1⟩
      · have HO := Lib.hid (op_not (zs := zs) (kind := kind) (key := key) (.inr (.inr hY)))
        go_enter Try.func47, Try.ntmps47
        go_wp2_with (fail)
        refine WH.out.mono ?_
        rintro e w1 ⟨A1, n1, c1, rfl, hs1, hb1, hf1⟩
        clear hs1
        go_wp2_with (fail)
        go_ret2
        exact ⟨none, 0, 0, ret_two rfl (bval HO.out.1.symm), by rw [HO.out.2]; exact Sl.nil _, hb1.alloc hb1.size _, Fresh.nil _⟩
    · have HO := Lib.hid (op_not (zs := zs) (kind := kind) (key := key) (.inr (.inl hK)))
      go_enter Try.func47, Try.ntmps47
      go_wp2_with (fail)
      refine WH.out.mono ?_
      rintro e w1 ⟨A1, n1, c1, rfl, hs1, hb1, hf1⟩
      clear hs1
      go_wp2_with (fail)
      go_ret2
      exact ⟨none, 0, 0, ret_two rfl (bval HO.out.1.symm), by rw [HO.out.2]; exact Sl.nil _, hb1.alloc hb1.size _, Fresh.nil _⟩

end Go.Proofs.Ytihacmonohjmaaa
