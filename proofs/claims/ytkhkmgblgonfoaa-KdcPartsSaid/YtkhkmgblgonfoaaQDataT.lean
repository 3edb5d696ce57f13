/-
  What the source of plain data hands out; services.
-/
import Derived.Test.YtkhkmgblgonfoaaQDataP
import Derived.Test.YtkhkmgblgonfoaaQBoxH
import Derived.Test.YtkhkmgblgonfoaaQReader
import Derived.Test.YtkhkmgblgonfoaaQFieldPlain
namespace Go.Proofs.Ytkhkmgblgonfoaa
open Go.RowKit

/-- A source in a block. -/
structure Src (w : World) (r : Nat) (A : Option Addr) (n cap : Nat) (k : Nat) : Prop where
  c0 : w.cell? ⟨r, 0, none⟩ = some (.slice A n cap)
  c1 : w.cell? ⟨r, 1, none⟩ = some (.int .i64 (k : Int))
  fz : ∀ o, w.frozen? ⟨r, o, none⟩ = false
  hk : k ≤ n
theorem Src.grown {w w' : World} {r : Nat} {A : Option Addr} {n cap k : Nat} {row : Option Nat} (h : Src w r A n cap k) (hg : w.grownBy w' row) (hne : some r ≠ row) : Src w' r A n cap k :=
  ⟨hg.cell h.c0 hne, hg.cell h.c1 hne, fun o => (hg.frozen_far ⟨r, o, none⟩ (cell_lt h.c0) hne).trans (h.fz o), h.hk⟩

/-- A number from 0 to m - 1 that the source hands out. -/
def NextOut (m : Int) (w : World) (r : Nat) (A : Option Addr) (n cap : Nat) (e : Ending) (w' : World) : Prop :=
  ∃ v k, e = .returned (.int .i64 v) ∧ 0 ≤ v ∧ v < m ∧ Src w' r A n cap k ∧ w.grownBy w' (some r)

theorem grown_drewN (w : World) (n : Nat) (row : Option Nat) : w.grownBy (w.drewN n) row := ⟨rfl, rfl, rfl, Nat.le_refl _, fun _ _ _ => rfl⟩
theorem Src.drewN {w : World} {r : Nat} {A : Option Addr} {n cap k : Nat} (h : Src w r A n cap k) (m : Nat) : Src (w.drewN m) r A n cap k := h.grown (grown_drewN w m none) (by simp)
theorem Src.step {w : World} {r : Nat} {A : Option Addr} {n cap k : Nat} (h : Src w r A n cap k) (hk : k < n) : Src (w.setCell ⟨r, 1, none⟩ (.int .i64 ((k : Int) + 1))) r A n cap (k + 1) := by
  obtain ⟨c0, c1, fz, _⟩ := h
  exact ⟨by simp [go_sem, c0], by simp [go_sem, c1], fun o => by simp [go_sem, fz], hk⟩

set_option maxHeartbeats 1600000 in
theorem next_any (r : Nat) (A : Option Addr) (n cap k : Nat) (zs : List Int) (m : Int) (w : World) (h : Src w r A n cap k) (hs : Sl w A n cap zs) (hn : n ≤ 100000) (m0 : 1 ≤ m) (m1 : m ≤ 1000) : Calls Try.prog 58 #[.pointer (some ⟨r, 0, none⟩), .int .i64 m] w (NextOut m w r A n cap) := by
  have hR := Lib.hid h
  obtain ⟨c0, c1, fz, hk⟩ := h
  have hlt := cell_lt c0
  rcases Nat.eq_or_lt_of_le hk with e | e
  · subst e
    go_enter Try.func58, Try.ntmps58
    go_wp2_with (fail)
    go_quiet (fail)
    go_wp2_with (fail)
    go_ret
    exact ⟨0, k, rfl, by omega, by omega, hR.out.drewN _, grown_drewN _ _ _⟩
  · obtain ⟨b, off, z, rfl, hz, z0, z1, d⟩ := hs.row.at e
    have z0 : 0 ≤ z := z0
    have z1 : z ≤ 255 := z1
    clear hz
    have p0 : 0 ≤ z % m := Int.emod_nonneg _ (by omega)
    have p1 : z % m < m := Int.emod_lt_of_pos _ (by omega)
    have f1 := IntWalk.i64_in z (by omega)
    have f2 : z.tmod m = z % m := Int.tmod_eq_emod_of_nonneg z0
    have f3 := IntWalk.i64_in (z % m) (by omega)
    have f4 : ¬ m = 0 := by omega
    have e' : (k : Int) < (n : Int) := by omega
    have hdl := cell_lt d
    go_enter Try.func58, Try.ntmps58
    go_wp2_with (fail)
    go_quiet (fail)
    go_wp2_with (fail)
    go_quiet (fail)
    clear f1 f2 f3
    go_wp2_with (fail)
    go_ret
    exact ⟨z % m, k + 1, rfl, p0, p1, Src.step (hR.out.drewN _) e, (grown_drewN _ _ _).trans (grown_set _ ⟨r, 1, none⟩ _)⟩

/-- A service's name and instance. -/
def SvcOut (w : World) (e : Ending) (w' : World) : Prop := ∃ a b c : ByteArray, e = .returned (.agg #[.string a, .string b, .string c]) ∧ S1.vName a.data.toList = true ∧ S1.vInst b.data.toList = true ∧ Below w.heap.size w w'

set_option maxHeartbeats 1600000 in
theorem service_0 (n : Int) (w : World) (n0 : 0 ≤ n) (n1 : n ≤ 255) (h : n % 3 = 0) : Calls Try.prog 60 #[.int .i64 n] w (SvcOut w) := by
  have B1 := Lib.hid (show Below w.heap.size w (w.alloc (.cells #[.string ⟨#[]⟩, .string ⟨#[]⟩, .string ⟨#[]⟩] 23)) from (Below.refl _ _).alloc (Nat.le_refl _) _)
  have ha := Lib.hid (show n.tmod 3 = 0 by rw [Int.tmod_eq_emod_of_nonneg n0]; exact h)
  go_enter Try.func60, Try.ntmps60
  go_wp2_with (fail)
  refine (realm_any _ _ (by omega) (by omega)).mono ?_
  rintro e w1 ⟨rfl, hb1⟩
  have y0 : w1.cell? ⟨w.heap.size, 0, none⟩ = some (.string ⟨#[]⟩) := cell_keep hb1 (by simp [go_sem])
  have y1 : w1.cell? ⟨w.heap.size, 1, none⟩ = some (.string ⟨#[]⟩) := cell_keep hb1 (by simp [go_sem])
  have y2 : w1.cell? ⟨w.heap.size, 2, none⟩ = some (.string ⟨#[]⟩) := cell_keep hb1 (by simp [go_sem])
  have y3 : ∀ o, w1.frozen? ⟨w.heap.size, o, none⟩ = false := fun o => by rw [(bcell hb1).2 _ _ (by simp; omega)]; simp [go_sem]
  have z0 : w1.cell? ⟨w.heap.size + 1 + 1, 0, none⟩ = some (.string ⟨#[109, 97, 105, 108]⟩) := cell_keep hb1 (by simp [go_sem])
  have z1 : w1.cell? ⟨w.heap.size + 1 + 1, 1, none⟩ = some (.string ⟨#[]⟩) := cell_keep hb1 (by simp [go_sem])
  have z2 : w1.cell? ⟨w.heap.size + 1 + 1, 2, none⟩ = some (.string ⟨#[]⟩) := cell_keep hb1 (by simp [go_sem])
  have z3 : ∀ o, w1.frozen? ⟨w.heap.size + 1 + 1, o, none⟩ = false := fun o => by rw [(bcell hb1).2 _ _ (by simp)]; simp [go_sem]
  have zl := cell_lt z0
  have B2 := Lib.hid (below_keep hb1 ((B1.out.alloc B1.out.size _).alloc (by have := B1.out.size; simp at *; omega) _))
  clear hb1
  go_wp2_with (fail)
  refine bodyPost_ret (v := .agg #[.string ⟨#[109, 97, 105, 108]⟩, .string ⟨#[]⟩, .string (realmS (n / 3))]) ?_ rfl ?_
  · simp [results, Try.results60, go_sem, y0, y1, y2]
  · exact ⟨_, _, _, rfl, by decide, by decide, by repeat (first | (with_reducible exact B2.out) | refine Below.setCell ?_ (by first | (simp; done) | (simp; omega)) _)⟩

set_option maxHeartbeats 1600000 in
theorem service_1 (n : Int) (w : World) (n0 : 0 ≤ n) (n1 : n ≤ 255) (h : n % 3 = 1) : Calls Try.prog 60 #[.int .i64 n] w (SvcOut w) := by
  have B1 := Lib.hid (show Below w.heap.size w (w.alloc (.cells #[.string ⟨#[]⟩, .string ⟨#[]⟩, .string ⟨#[]⟩] 23)) from (Below.refl _ _).alloc (Nat.le_refl _) _)
  have ha := Lib.hid (show n.tmod 3 = 1 by rw [Int.tmod_eq_emod_of_nonneg n0]; exact h)
  go_enter Try.func60, Try.ntmps60
  go_wp2_with (fail)
  refine (realm_any _ _ (by omega) (by omega)).mono ?_
  rintro e w1 ⟨rfl, hb1⟩
  have y0 : w1.cell? ⟨w.heap.size, 0, none⟩ = some (.string ⟨#[]⟩) := cell_keep hb1 (by simp [go_sem])
  have y1 : w1.cell? ⟨w.heap.size, 1, none⟩ = some (.string ⟨#[]⟩) := cell_keep hb1 (by simp [go_sem])
  have y2 : w1.cell? ⟨w.heap.size, 2, none⟩ = some (.string ⟨#[]⟩) := cell_keep hb1 (by simp [go_sem])
  have y3 : ∀ o, w1.frozen? ⟨w.heap.size, o, none⟩ = false := fun o => by rw [(bcell hb1).2 _ _ (by simp; omega)]; simp [go_sem]
  have z0 : w1.cell? ⟨w.heap.size + 1 + 1, 0, none⟩ = some (.string ⟨#[110, 102, 115]⟩) := cell_keep hb1 (by simp [go_sem])
  have z1 : w1.cell? ⟨w.heap.size + 1 + 1, 1, none⟩ = some (.string ⟨#[104, 111, 109, 101]⟩) := cell_keep hb1 (by simp [go_sem])
  have z2 : w1.cell? ⟨w.heap.size + 1 + 1, 2, none⟩ = some (.string ⟨#[]⟩) := cell_keep hb1 (by simp [go_sem])
  have z3 : ∀ o, w1.frozen? ⟨w.heap.size + 1 + 1, o, none⟩ = false := fun o => by rw [(bcell hb1).2 _ _ (by simp)]; simp [go_sem]
  have zl := cell_lt z0
  have B2 := Lib.hid (below_keep hb1 ((B1.out.alloc B1.out.size _).alloc (by have := B1.out.size; simp at *; omega) _))
  clear hb1
  go_wp2_with (fail)
  refine bodyPost_ret (v := .agg #[.string ⟨#[110, 102, 115]⟩, .string ⟨#[104, 111, 109, 101]⟩, .string (realmS (n / 3))]) ?_ rfl ?_
  · simp [results, Try.results60, go_sem, y0, y1, y2]
  · exact ⟨_, _, _, rfl, by decide, by decide, by repeat (first | (with_reducible exact B2.out) | refine Below.setCell ?_ (by first | (simp; done) | (simp; omega)) _)⟩

set_option maxHeartbeats 1600000 in
theorem service_2 (n : Int) (w : World) (n0 : 0 ≤ n) (n1 : n ≤ 255) (h : n % 3 = 2) : Calls Try.prog 60 #[.int .i64 n] w (SvcOut w) := by
  have B1 := Lib.hid (show Below w.heap.size w (w.alloc (.cells #[.string ⟨#[]⟩, .string ⟨#[]⟩, .string ⟨#[]⟩] 23)) from (Below.refl _ _).alloc (Nat.le_refl _) _)
  have ha := Lib.hid (show n.tmod 3 = 2 by rw [Int.tmod_eq_emod_of_nonneg n0]; exact h)
  go_enter Try.func60, Try.ntmps60
  go_wp2_with (fail)
  refine (realm_any _ _ (by omega) (by omega)).mono ?_
  rintro e w1 ⟨rfl, hb1⟩
  have y0 : w1.cell? ⟨w.heap.size, 0, none⟩ = some (.string ⟨#[]⟩) := cell_keep hb1 (by simp [go_sem])
  have y1 : w1.cell? ⟨w.heap.size, 1, none⟩ = some (.string ⟨#[]⟩) := cell_keep hb1 (by simp [go_sem])
  have y2 : w1.cell? ⟨w.heap.size, 2, none⟩ = some (.string ⟨#[]⟩) := cell_keep hb1 (by simp [go_sem])
  have y3 : ∀ o, w1.frozen? ⟨w.heap.size, o, none⟩ = false := fun o => by rw [(bcell hb1).2 _ _ (by simp; omega)]; simp [go_sem]
  have z0 : w1.cell? ⟨w.heap.size + 1 + 1, 0, none⟩ = some (.string ⟨#[107, 114, 98, 116, 103, 116]⟩) := cell_keep hb1 (by simp [go_sem])
  have z1 : w1.cell? ⟨w.heap.size + 1 + 1, 1, none⟩ = some (.string ⟨#[65, 84, 72]⟩) := cell_keep hb1 (by simp [go_sem])
  have z2 : w1.cell? ⟨w.heap.size + 1 + 1, 2, none⟩ = some (.string ⟨#[]⟩) := cell_keep hb1 (by simp [go_sem])
  have z3 : ∀ o, w1.frozen? ⟨w.heap.size + 1 + 1, o, none⟩ = false := fun o => by rw [(bcell hb1).2 _ _ (by simp)]; simp [go_sem]
  have zl := cell_lt z0
  have B2 := Lib.hid (below_keep hb1 ((B1.out.alloc B1.out.size _).alloc (by have := B1.out.size; simp at *; omega) _))
  clear hb1
  go_wp2_with (fail)
  refine bodyPost_ret (v := .agg #[.string ⟨#[107, 114, 98, 116, 103, 116]⟩, .string ⟨#[65, 84, 72]⟩, .string (realmS (n / 3))]) ?_ rfl ?_
  · simp [results, Try.results60, go_sem, y0, y1, y2]
  · exact ⟨_, _, _, rfl, by decide, by decide, by repeat (first | (with_reducible exact B2.out) | refine Below.setCell ?_ (by first | (simp; done) | (simp; omega)) _)⟩

theorem service_any (n : Int) (w : World) (n0 : 0 ≤ n) (n1 : n ≤ 255) : Calls Try.prog 60 #[.int .i64 n] w (SvcOut w) := by
  rcases mod3 n with h | h | h
  · exact service_0 n w n0 n1 h
  · exact service_1 n w n0 n1 h
  · exact service_2 n w n0 n1 h

end Go.Proofs.Ytkhkmgblgonfoaa
