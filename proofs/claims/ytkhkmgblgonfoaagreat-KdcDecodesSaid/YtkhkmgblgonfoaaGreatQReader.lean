/-
  What the proof wants: Reader, Dst, ReaderB.
-/
import Derived.Test.YtkhkmgblgonfoaaGreatQFieldRN
import Derived.Test.YtkhkmgblgonfoaaGreatQFieldRT
import Derived.Test.YtkhkmgblgonfoaaGreatQBoxPlain
import Derived.Test.YtkhkmgblgonfoaaGreatQBoxAt
import Derived.Maps.RangeWalk
import Derived.Deep.RegionHeld3
import Derived.Deep.AppendLies

/-
  The reader of the document's answers: what its methods return, and what becomes of it.
-/
namespace Go.Proofs.YtkhkmgblgonfoaaGreat
open Go.RowKit

/-- A reader in a block. -/
structure Rd (w : World) (r : Nat) (A : Option Addr) (n cap : Nat) (l : Bool) (s : S5.St) : Prop where
  c0 : w.cell? ⟨r, 0, none⟩ = some (.slice A n cap)
  c1 : w.cell? ⟨r, 1, none⟩ = some (.int .i64 s.at')
  c2 : w.cell? ⟨r, 2, none⟩ = some (.bool l)
  c3 : w.cell? ⟨r, 3, none⟩ = some (.bool s.bad)
  fz : ∀ o, w.frozen? ⟨r, o, none⟩ = false
theorem Rd.keep {w w' : World} {r : Nat} {A : Option Addr} {n cap : Nat} {l : Bool} {s : S5.St} (hb : Below w.heap.size w w') (h : Rd w r A n cap l s) : Rd w' r A n cap l s :=
  ⟨cell_keep hb h.c0, cell_keep hb h.c1, cell_keep hb h.c2, cell_keep hb h.c3, fun o => ((bcell hb).2 _ _ (cell_lt h.c0)).trans (h.fz o)⟩

/-- What a method leaves behind. -/
def RdOut (v : Value) (w : World) (r : Nat) (A : Option Addr) (n cap : Nat) (l : Bool) (s : S5.St) (e : Ending) (w' : World) : Prop := e = .returned v ∧ Rd w' r A n cap l s ∧ w.grownBy w' (some r)

theorem Rd.grown {w w' : World} {r : Nat} {A : Option Addr} {n cap : Nat} {l : Bool} {s : S5.St} {row : Option Nat} (h : Rd w r A n cap l s) (hg : w.grownBy w' row) (hne : some r ≠ row) : Rd w' r A n cap l s :=
  ⟨hg.cell h.c0 hne, hg.cell h.c1 hne, hg.cell h.c2 hne, hg.cell h.c3 hne, fun o => (hg.frozen_far ⟨r, o, none⟩ (cell_lt h.c0) hne).trans (h.fz o)⟩
theorem grown_new {w w1 : World} {row : Option Nat} (h : w.grownBy w1 row) (p : Addr) (x : Value) (hp : w.heap.size ≤ p.block) : w.grownBy (w1.setCell p x) row :=
  h.andThen (grown_set w1 p x) (fun j e => .inl (by cases e; exact hp))

theorem rd_at {w : World} {r : Nat} {A : Option Addr} {n cap : Nat} {l bad : Bool} {at' next : Int} (h : Rd w r A n cap l ⟨at', bad⟩) : Rd (w.setCell ⟨r, 1, none⟩ (.int .i64 next)) r A n cap l ⟨next, bad⟩ := by
  obtain ⟨c0, c1, c2, c3, fz⟩ := h
  exact ⟨by simp [go_sem, c0], by simp [go_sem, c1], by simp [go_sem, c2], by simp [go_sem, c3], fun o => by simp [go_sem, fz]⟩
theorem rd_bad {w : World} {r : Nat} {A : Option Addr} {n cap : Nat} {l bad b : Bool} {at' : Int} (h : Rd w r A n cap l ⟨at', bad⟩) : Rd (w.setCell ⟨r, 3, none⟩ (.bool b)) r A n cap l ⟨at', b⟩ := by
  obtain ⟨c0, c1, c2, c3, fz⟩ := h
  exact ⟨by simp [go_sem, c0], by simp [go_sem, c1], by simp [go_sem, c2], by simp [go_sem, c3], fun o => by simp [go_sem, fz]⟩

theorem rmove_any (r : Nat) (A : Option Addr) (n cap : Nat) (l : Bool) (s : S5.St) (next x : Int) (w : World) (h : Rd w r A n cap l s) : Calls Tryz.prog 84 #[.pointer (some ⟨r, 0, none⟩), .int .i64 next, .int .i64 x] w (RdOut (.tuple #[]) w r A n cap l (s.move next x)) := by
  obtain ⟨at', bad⟩ := s
  have hR := Lib.hid h
  obtain ⟨c0, c1, c2, c3, fz⟩ := h
  have hlt := cell_lt c0
  simp only at c0 c1 c2 c3
  cases bad
  · by_cases hx : x = 0
    · subst hx
      have hm := Lib.hid (show (S5.St.mk at' false).move next 0 = ⟨next, false⟩ by simp [S5.St.move])
      go_enter Tryz.func84, Tryz.ntmps84
      go_wp2_with (fail)
      exact bodyPost_end (v := .tuple #[]) (by simp [results, Tryz.results84, go_sem]) rfl ⟨rfl, by rw [hm.out]; exact rd_at hR.out, grown_set _ ⟨r, 1, none⟩ _⟩
    · have hx2 : (x != 0) = true := by simpa using hx
      have hm := Lib.hid (show (S5.St.mk at' false).move next x = ⟨at', true⟩ by simp [S5.St.move, hx])
      clear hx
      go_enter Tryz.func84, Tryz.ntmps84
      go_wp2_with (fail)
      exact bodyPost_ret (v := .tuple #[]) (by simp [results, Tryz.results84, go_sem]) rfl ⟨rfl, by rw [hm.out]; exact rd_bad hR.out, grown_set _ ⟨r, 3, none⟩ _⟩
  · have hm := Lib.hid (show (S5.St.mk at' true).move next x = ⟨at', true⟩ by simp [S5.St.move])
    go_enter Tryz.func84, Tryz.ntmps84
    go_wp2_with (fail)
    exact bodyPost_ret (v := .tuple #[]) (by simp [results, Tryz.results84, go_sem]) rfl ⟨rfl, by rw [hm.out]; exact rd_bad hR.out, grown_set _ ⟨r, 3, none⟩ _⟩

set_option maxHeartbeats 1600000 in
theorem rnumber_any (r : Nat) (A : Option Addr) (n cap : Nat) (l : Bool) (s : S5.St) (zs : List Int) (w : World) (h : Rd w r A n cap l s) (hs : Sl w A n cap zs) (hn : n ≤ 100000) : Calls Tryz.prog 45 #[.pointer (some ⟨r, 0, none⟩)] w (RdOut (.int .i64 (S5.getV zs s.at' 4 l)) w r A n cap l (s.move (S5.getN zs s.at' 4) (S5.getE zs s.at' 4))) := by
  have K := Lib.hid (fun (W : World) (hb : Below w.heap.size w W) => r5number_any A n cap zs s.at' l W (hs.keep hb) hn)
  have hR := Lib.hid h
  obtain ⟨c0, c1, c2, c3, fz⟩ := h
  have hlt := cell_lt c0
  go_enter Tryz.func45, Tryz.ntmps45
  go_wp2_with (fail)
  go_region_held3 (fun W => Below w.heap.size w W ∧ W.cell? ⟨r, 0, none⟩ = some (.slice A n cap) ∧ W.cell? ⟨r, 1, none⟩ = some (.int .i64 s.at') ∧ W.cell? ⟨r, 2, none⟩ = some (.bool l))
    (first | (go_keep; done) | ((repeat' apply And.intro) <;> first | (go_keep; done) | exact (Below.refl _ _).drew | exact below_keep hb1 (by go_keep) | exact cell_keep hb1 (by go_keep)))
    (first | (go_at_call 83; refine (K.out _ ?_).mono ?_; exact And.left ‹Below w.heap.size w _ ∧ _›; rintro e w1 ⟨rfl, hb1⟩))
  have hS := And.left ‹Below w.heap.size w _ ∧ _›
  have hR1 := Lib.hid (hR.out.keep hS)
  have hG := Lib.hid (below_grown (row := some r) hS)
  clear c0 c1 c2 c3 fz hlt hS
  go_wp2_with (fail)
  refine (rmove_any r A n cap l s _ _ _ hR1.out).mono ?_
  rintro e w2 ⟨rfl, hr2, hg2⟩
  go_wp2_with (fail)
  go_ret
  exact ⟨rfl, hr2, hG.out.trans hg2⟩

set_option maxHeartbeats 1600000 in
theorem roctet_any (r : Nat) (A : Option Addr) (n cap : Nat) (l : Bool) (s : S5.St) (zs : List Int) (w : World) (h : Rd w r A n cap l s) (hs : Sl w A n cap zs) (hn : n ≤ 100000) : Calls Tryz.prog 46 #[.pointer (some ⟨r, 0, none⟩)] w (RdOut (.int .i64 (S5.getV zs s.at' 1 false)) w r A n cap l (s.move (S5.getN zs s.at' 1) (S5.getE zs s.at' 1))) := by
  have K := Lib.hid (fun (W : World) (hb : Below w.heap.size w W) => r5octet_any A n cap zs s.at' W (hs.keep hb) hn)
  have hR := Lib.hid h
  obtain ⟨c0, c1, c2, c3, fz⟩ := h
  have hlt := cell_lt c0
  go_enter Tryz.func46, Tryz.ntmps46
  go_wp2_with (fail)
  go_region_held3 (fun W => Below w.heap.size w W ∧ W.cell? ⟨r, 0, none⟩ = some (.slice A n cap) ∧ W.cell? ⟨r, 1, none⟩ = some (.int .i64 s.at') ∧ W.cell? ⟨r, 2, none⟩ = some (.bool l))
    (first | (go_keep; done) | ((repeat' apply And.intro) <;> first | (go_keep; done) | exact (Below.refl _ _).drew | exact below_keep hb1 (by go_keep) | exact cell_keep hb1 (by go_keep)))
    (first | (go_at_call 85; refine (K.out _ ?_).mono ?_; exact And.left ‹Below w.heap.size w _ ∧ _›; rintro e w1 ⟨rfl, hb1⟩))
  have hS := And.left ‹Below w.heap.size w _ ∧ _›
  have hR1 := Lib.hid (hR.out.keep hS)
  have hG := Lib.hid (below_grown (row := some r) hS)
  clear c0 c1 c2 c3 fz hlt hS
  go_wp2_with (fail)
  refine (rmove_any r A n cap l s _ _ _ hR1.out).mono ?_
  rintro e w2 ⟨rfl, hr2, hg2⟩
  go_wp2_with (fail)
  go_ret
  exact ⟨rfl, hr2, hG.out.trans hg2⟩

set_option maxHeartbeats 1600000 in
theorem rtext_any (r : Nat) (A : Option Addr) (n cap : Nat) (l : Bool) (s : S5.St) (zs : List Int) (w : World) (h : Rd w r A n cap l s) (hs : Sl w A n cap zs) (hn : n ≤ 100000) : Calls Tryz.prog 47 #[.pointer (some ⟨r, 0, none⟩)] w (RdOut (.string (strOfNums (S5.txS zs s.at'))) w r A n cap l (s.move (S5.txN zs s.at') (S5.txE zs s.at'))) := by
  have K := Lib.hid (fun (W : World) (hb : Below w.heap.size w W) => r5text_any A n cap zs s.at' W (hs.keep hb) hn)
  have hR := Lib.hid h
  obtain ⟨c0, c1, c2, c3, fz⟩ := h
  have hlt := cell_lt c0
  go_enter Tryz.func47, Tryz.ntmps47
  go_wp2_with (fail)
  go_region_held3 (fun W => Below w.heap.size w W ∧ W.cell? ⟨r, 0, none⟩ = some (.slice A n cap) ∧ W.cell? ⟨r, 1, none⟩ = some (.int .i64 s.at') ∧ W.cell? ⟨r, 2, none⟩ = some (.bool l))
    (first | (go_keep; done) | ((repeat' apply And.intro) <;> first | (go_keep; done) | exact (Below.refl _ _).drew | exact below_keep hb1 (by go_keep) | exact cell_keep hb1 (by go_keep)))
    (first | (go_at_call 86; refine (K.out _ ?_).mono ?_; exact And.left ‹Below w.heap.size w _ ∧ _›; rintro e w1 ⟨rfl, rfl⟩))
  have hS := And.left ‹Below w.heap.size w _ ∧ _›
  have hR1 := Lib.hid (hR.out.keep hS)
  have hG := Lib.hid (below_grown (row := some r) hS)
  clear c0 c1 c2 c3 fz hlt hS
  go_wp2_with (fail)
  refine (rmove_any r A n cap l s _ _ _ hR1.out).mono ?_
  rintro e w2 ⟨rfl, hr2, hg2⟩
  go_wp2_with (fail)
  go_ret
  exact ⟨rfl, hr2, hG.out.trans hg2⟩

/-- What Bytes leaves behind. -/
def RdBytes (ys : List Int) (w : World) (r : Nat) (A : Option Addr) (n cap : Nat) (l : Bool) (s : S5.St) (e : Ending) (w' : World) : Prop :=
  ∃ A2 m c2, e = .returned (.slice A2 m c2) ∧ Sl w' A2 m c2 ys ∧ Rd w' r A n cap l s ∧ w.grownBy w' (some r)

set_option maxHeartbeats 1600000 in
theorem rbytes_any (r : Nat) (A : Option Addr) (n cap : Nat) (l : Bool) (s : S5.St) (zs : List Int) (m : Int) (w : World) (h : Rd w r A n cap l s) (hs : Sl w A n cap zs) (hn : n ≤ 100000) : Calls Tryz.prog 52 #[.pointer (some ⟨r, 0, none⟩), .int .i64 m] w (RdBytes (S5.byS zs s.at' m) w r A n cap l (s.move (S5.byN zs s.at' m) (S5.byE zs s.at' m))) := by
  have K := Lib.hid (fun (W : World) (hb : Below w.heap.size w W) => r5bytes_any A n cap zs s.at' m W (hs.keep hb) hn)
  have hR := Lib.hid h
  obtain ⟨c0, c1, c2, c3, fz⟩ := h
  have hlt := cell_lt c0
  go_enter Tryz.func52, Tryz.ntmps52
  go_wp2_with (fail)
  go_region_held3 (fun W => Below w.heap.size w W ∧ W.cell? ⟨r, 0, none⟩ = some (.slice A n cap) ∧ W.cell? ⟨r, 1, none⟩ = some (.int .i64 s.at') ∧ W.cell? ⟨r, 2, none⟩ = some (.bool l))
    (first | (go_keep; done) | ((repeat' apply And.intro) <;> first | (go_keep; done) | exact (Below.refl _ _).drew | exact below_keep hb1 (by go_keep) | exact cell_keep hb1 (by go_keep)))
    (first | (go_at_call 93; refine (K.out _ ?_).mono ?_; exact And.left ‹Below w.heap.size w _ ∧ _›; rintro e w1 ⟨A2, m2, k2, rfl, hs2, hb1, hf2⟩))
  have hS := And.left ‹Below w.heap.size w _ ∧ _›
  have hR1 := Lib.hid (hR.out.keep hS)
  have hG := Lib.hid (below_grown (row := some r) hS)
  have hlt2 := Lib.hid hlt
  replace hs2 := Lib.hid hs2
  replace hf2 := Lib.hid hf2
  clear hb1
  clear c0 c1 c2 c3 fz hlt hS
  go_wp2_with (fail)
  refine (rmove_any r A n cap l s _ _ _ hR1.out).mono ?_
  rintro e w2 ⟨rfl, hr2, hg2⟩
  go_wp2_with (fail)
  go_ret
  exact ⟨A2, m2, k2, rfl, ⟨hs2.out.1.beside hg2 (fun b off e => by have := hf2.out b off e; have := hlt2.out; intro e'; cases e'; first | omega | (simp at *; omega)), hs2.out.2⟩, hr2, hG.out.trans hg2⟩

set_option maxHeartbeats 1600000 in
theorem rprincipal_any (r : Nat) (A : Option Addr) (n cap : Nat) (l : Bool) (s s1 s2 s3 : S5.St) (zs : List Int) (w : World) (h : Rd w r A n cap l s) (hs : ∀ W, w.grownBy W (some r) → Sl W A n cap zs) (hn : n ≤ 100000) (h1 : s1 = s.move (S5.txN zs s.at') (S5.txE zs s.at')) (h2 : s2 = s1.move (S5.txN zs s1.at') (S5.txE zs s1.at')) (h3 : s3 = s2.move (S5.txN zs s2.at') (S5.txE zs s2.at')) :
    Calls Tryz.prog 44 #[.pointer (some ⟨r, 0, none⟩)] w (RdOut (.agg #[.string (strOfNums (S5.txS zs s.at')), .string (strOfNums (S5.txS zs s1.at')), .string (strOfNums (S5.txS zs s2.at'))]) w r A n cap l s3) := by
  have hR := Lib.hid h
  have g0 : r < w.heap.size := cell_lt h.c0
  replace h1 := Lib.hid h1
  replace h2 := Lib.hid h2
  replace h3 := Lib.hid h3
  replace hs := Lib.hid hs
  go_enter Tryz.func44, Tryz.ntmps44
  go_wp2_with (fail)
  have G1 := Lib.hid (World.grownBy_alloc w (.cells #[.string ⟨#[]⟩, .string ⟨#[]⟩, .string ⟨#[]⟩] 29) (some r))
  have X := rtext_any r A n cap l s zs _ (hR.out.keep ((Below.refl w.heap.size w).alloc (Nat.le_refl _) (.cells #[.string ⟨#[]⟩, .string ⟨#[]⟩, .string ⟨#[]⟩] 29))) (hs.out _ G1.out) hn
  rw [← h1.out] at X
  refine X.mono ?_
  clear X
  rintro e w2 ⟨rfl, hr2, hg2⟩
  have y0 : w2.cell? ⟨w.heap.size, 0, none⟩ = some (.string ⟨#[]⟩) := hg2.cell (by simp [go_sem]) (by simp; omega)
  have y1 : w2.cell? ⟨w.heap.size, 1, none⟩ = some (.string ⟨#[]⟩) := hg2.cell (by simp [go_sem]) (by simp; omega)
  have y2 : w2.cell? ⟨w.heap.size, 2, none⟩ = some (.string ⟨#[]⟩) := hg2.cell (by simp [go_sem]) (by simp; omega)
  have y3 : ∀ o, w2.frozen? ⟨w.heap.size, o, none⟩ = false := fun o => (hg2.frozen_far ⟨w.heap.size, o, none⟩ (by simp) (by simp; omega)).trans (by simp [go_sem])
  have z2 := cell_lt y0
  have G2 := Lib.hid (G1.out.trans hg2)
  replace hr2 := Lib.hid hr2
  clear hg2 G1
  go_wp2_with (fail)
  have D2 := Lib.hid (World.grownBy_alloc w2 (.cells #[.string (strOfNums (S5.txS zs s.at')), .string ⟨#[]⟩, .string ⟨#[]⟩] 29) (some r))
  have X := rtext_any r A n cap l s1 zs _ (hr2.out.keep ((Below.refl w2.heap.size w2).alloc (Nat.le_refl _) (.cells #[.string (strOfNums (S5.txS zs s.at')), .string ⟨#[]⟩, .string ⟨#[]⟩] 29))) (hs.out _ (G2.out.trans D2.out)) hn
  rw [← h2.out] at X
  refine X.mono ?_
  clear X
  rintro e w3 ⟨rfl, hr3, hg3⟩
  have x0 : w3.cell? ⟨w.heap.size, 0, none⟩ = some (.string ⟨#[]⟩) := hg3.cell (by simp [go_sem, z2, y0]) (by simp; omega)
  have x1 : w3.cell? ⟨w.heap.size, 1, none⟩ = some (.string ⟨#[]⟩) := hg3.cell (by simp [go_sem, z2, y1]) (by simp; omega)
  have x2 : w3.cell? ⟨w.heap.size, 2, none⟩ = some (.string ⟨#[]⟩) := hg3.cell (by simp [go_sem, z2, y2]) (by simp; omega)
  have x3 : ∀ o, w3.frozen? ⟨w.heap.size, o, none⟩ = false := fun o => (hg3.frozen_far ⟨w.heap.size, o, none⟩ (by simp; omega) (by simp; omega)).trans (by simp [go_sem, z2, y3])
  have u0 : w3.cell? ⟨w2.heap.size, 0, none⟩ = some (.string (strOfNums (S5.txS zs s.at'))) := hg3.cell (by simp [go_sem]) (by simp; omega)
  have u1 : w3.cell? ⟨w2.heap.size, 1, none⟩ = some (.string ⟨#[]⟩) := hg3.cell (by simp [go_sem]) (by simp; omega)
  have u2 : w3.cell? ⟨w2.heap.size, 2, none⟩ = some (.string ⟨#[]⟩) := hg3.cell (by simp [go_sem]) (by simp; omega)
  have u3 : ∀ o, w3.frozen? ⟨w2.heap.size, o, none⟩ = false := fun o => (hg3.frozen_far ⟨w2.heap.size, o, none⟩ (by simp) (by simp; omega)).trans (by simp [go_sem])
  have z3 := cell_lt u0
  have G3 := Lib.hid ((G2.out.trans D2.out).trans hg3)
  replace hr3 := Lib.hid hr3
  clear hg3 G2 D2 hr2 y0 y1 y2 y3
  go_wp2_with (fail)
  have D3 := Lib.hid (grown_new G3.out ⟨w2.heap.size, 1, none⟩ (.string (strOfNums (S5.txS zs s1.at'))) (by show w.heap.size ≤ w2.heap.size; omega))
  have X := rtext_any r A n cap l s2 zs _ (hr3.out.grown (grown_set w3 ⟨w2.heap.size, 1, none⟩ (.string (strOfNums (S5.txS zs s1.at')))) (by simp; omega)) (hs.out _ D3.out) hn
  rw [← h3.out] at X
  refine X.mono ?_
  clear X
  rintro e w4 ⟨rfl, hr4, hg4⟩
  have y0 : w4.cell? ⟨w.heap.size, 0, none⟩ = some (.string ⟨#[]⟩) := hg4.cell (by simp [go_sem, x0]) (by simp; omega)
  have y1 : w4.cell? ⟨w.heap.size, 1, none⟩ = some (.string ⟨#[]⟩) := hg4.cell (by simp [go_sem, x1]) (by simp; omega)
  have y2 : w4.cell? ⟨w.heap.size, 2, none⟩ = some (.string ⟨#[]⟩) := hg4.cell (by simp [go_sem, x2]) (by simp; omega)
  have y3 : ∀ o, w4.frozen? ⟨w.heap.size, o, none⟩ = false := fun o => (hg4.frozen_far ⟨w.heap.size, o, none⟩ (by simp; omega) (by simp; omega)).trans (by simp [go_sem, x3])
  have t0 : w4.cell? ⟨w2.heap.size, 0, none⟩ = some (.string (strOfNums (S5.txS zs s.at'))) := hg4.cell (by simp [go_sem, u0]) (by simp; omega)
  have t1 : w4.cell? ⟨w2.heap.size, 1, none⟩ = some (.string (strOfNums (S5.txS zs s1.at'))) := hg4.cell (by simp [go_sem, u1]) (by simp; omega)
  have t2 : w4.cell? ⟨w2.heap.size, 2, none⟩ = some (.string ⟨#[]⟩) := hg4.cell (by simp [go_sem, u2]) (by simp; omega)
  have t3 : ∀ o, w4.frozen? ⟨w2.heap.size, o, none⟩ = false := fun o => (hg4.frozen_far ⟨w2.heap.size, o, none⟩ (by simp; omega) (by simp; omega)).trans (by simp [go_sem, u3])
  have z4 := cell_lt t0
  have hne : ¬ w2.heap.size = w.heap.size := by omega
  have hne2 : ¬ w.heap.size = w2.heap.size := by omega
  have G4 := Lib.hid (D3.out.trans hg4)
  replace hr4 := Lib.hid hr4
  clear hg4 G3 D3 hr3 x0 x1 x2 x3 u0 u1 u2 u3
  go_wp2_with (fail)
  refine bodyPost_ret (v := .agg #[.string (strOfNums (S5.txS zs s.at')), .string (strOfNums (S5.txS zs s1.at')), .string (strOfNums (S5.txS zs s2.at'))]) (by simp [results, Tryz.results44, go_sem, y0, y1, y2]) rfl ⟨rfl, ?_, ?_⟩
  · exact ((((hr4.out.grown (grown_set _ ⟨w2.heap.size, 2, none⟩ _) (by simp; omega)).grown (grown_set _ ⟨w.heap.size, 0, none⟩ _) (by simp; omega)).grown (grown_set _ ⟨w.heap.size, 1, none⟩ _) (by simp; omega)).grown (grown_set _ ⟨w.heap.size, 2, none⟩ _) (by simp; omega))
  · exact grown_new (grown_new (grown_new (grown_new G4.out ⟨w2.heap.size, 2, none⟩ _ (by show w.heap.size ≤ w2.heap.size; omega)) ⟨w.heap.size, 0, none⟩ _ (Nat.le_refl _)) ⟨w.heap.size, 1, none⟩ _ (Nat.le_refl _)) ⟨w.heap.size, 2, none⟩ _ (Nat.le_refl _)

end Go.Proofs.YtkhkmgblgonfoaaGreat

/-
  A decoder's memory while it reads: its reader, the record that it builds, and its result.
-/
namespace Go.Proofs.YtkhkmgblgonfoaaGreat
open Go.RowKit

/-- The whole of it: w0 is the world ahead of the call. -/
structure Dst (w0 W : World) (R r g : Nat) (A : Option Addr) (n cap : Nat) (l : Bool) (s : S5.St) (rs cs : List Value) : Prop where
  below : Below w0.heap.size w0 W
  rd : Rd W r A n cap l s
  tk : BoxAt W g cs
  res : BoxAt W R rs
  hr : w0.heap.size ≤ r
  hg : w0.heap.size ≤ g
  gr : g ≠ r
  Rr : R ≠ r
  Rg : R ≠ g
theorem Dst.read {w0 W W' : World} {R r g : Nat} {A : Option Addr} {n cap : Nat} {l : Bool} {s s' : S5.St} {rs cs : List Value} (h : Dst w0 W R r g A n cap l s rs cs) (hg : W.grownBy W' (some r)) (hr : Rd W' r A n cap l s') : Dst w0 W' R r g A n cap l s' rs cs :=
  ⟨h.below.grown hg h.below.size (fun k e => by cases e; exact h.hr), hr, h.tk.grown hg (by have := h.gr; simpa using this), h.res.grown hg (by have := h.Rr; simpa using this), h.hr, h.hg, h.gr, h.Rr, h.Rg⟩
theorem Dst.set {w0 W : World} {R r g : Nat} {A : Option Addr} {n cap : Nat} {l : Bool} {s : S5.St} {rs cs : List Value} (h : Dst w0 W R r g A n cap l s rs cs) (i : Nat) (x : Value) (hi : i < cs.length) : Dst w0 (W.setCell ⟨g, i, none⟩ x) R r g A n cap l s rs (cs.set i x) :=
  ⟨h.below.grown (grown_set W ⟨g, i, none⟩ x) h.below.size (fun k e => by cases e; exact h.hg), h.rd.grown (grown_set W ⟨g, i, none⟩ x) (by have := h.gr; simpa using Ne.symm this), h.tk.set i x hi, h.res.grown (grown_set W ⟨g, i, none⟩ x) (by have := h.Rg; simpa using this), h.hr, h.hg, h.gr, h.Rr, h.Rg⟩
theorem Dst.keep {w0 W W' : World} {R r g : Nat} {A : Option Addr} {n cap : Nat} {l : Bool} {s : S5.St} {rs cs : List Value} (h : Dst w0 W R r g A n cap l s rs cs) (hb : Below W.heap.size W W') : Dst w0 W' R r g A n cap l s rs cs :=
  ⟨below_keep' hb h.below, h.rd.keep hb, h.tk.keep hb, h.res.keep hb, h.hr, h.hg, h.gr, h.Rr, h.Rg⟩
where below_keep' {w W W' : World} (hb : Below W.heap.size W W') (h : Below w.heap.size w W) : Below w.heap.size w W' := h.trans (hb.mono h.size)

/-- A method of the reader, with names for what it returns and leaves. -/

theorem dnumber {w0 W : World} {R r g : Nat} {A : Option Addr} {n cap : Nat} {l : Bool} {s : S5.St} {rs cs : List Value} {zs : List Int} (h : Dst w0 W R r g A n cap l s rs cs) (hs : Sl W A n cap zs) (hn : n ≤ 100000) (v : Int) (s' : S5.St) (hv : v = S5.getV zs s.at' 4 l) (hs' : s' = s.move (S5.getN zs s.at' 4) (S5.getE zs s.at' 4)) :
    Calls Tryz.prog 45 #[.pointer (some ⟨r, 0, none⟩)] W fun e W' => e = .returned (.int .i64 v) ∧ Dst w0 W' R r g A n cap l s' rs cs := by
  subst hv hs'
  exact (rnumber_any r A n cap l s zs W h.rd hs hn).mono fun e W' ⟨he, hr, hg⟩ => ⟨he, h.read hg hr⟩

theorem doctet {w0 W : World} {R r g : Nat} {A : Option Addr} {n cap : Nat} {l : Bool} {s : S5.St} {rs cs : List Value} {zs : List Int} (h : Dst w0 W R r g A n cap l s rs cs) (hs : Sl W A n cap zs) (hn : n ≤ 100000) (v : Int) (s' : S5.St) (hv : v = S5.getV zs s.at' 1 false) (hs' : s' = s.move (S5.getN zs s.at' 1) (S5.getE zs s.at' 1)) :
    Calls Tryz.prog 46 #[.pointer (some ⟨r, 0, none⟩)] W fun e W' => e = .returned (.int .i64 v) ∧ Dst w0 W' R r g A n cap l s' rs cs := by
  subst hv hs'
  exact (roctet_any r A n cap l s zs W h.rd hs hn).mono fun e W' ⟨he, hr, hg⟩ => ⟨he, h.read hg hr⟩

theorem dtext {w0 W : World} {R r g : Nat} {A : Option Addr} {n cap : Nat} {l : Bool} {s : S5.St} {rs cs : List Value} {zs : List Int} (h : Dst w0 W R r g A n cap l s rs cs) (hs : Sl W A n cap zs) (hn : n ≤ 100000) (v : ByteArray) (s' : S5.St) (hv : v = strOfNums (S5.txS zs s.at')) (hs' : s' = s.move (S5.txN zs s.at') (S5.txE zs s.at')) :
    Calls Tryz.prog 47 #[.pointer (some ⟨r, 0, none⟩)] W fun e W' => e = .returned (.string v) ∧ Dst w0 W' R r g A n cap l s' rs cs := by
  subst hv hs'
  exact (rtext_any r A n cap l s zs W h.rd hs hn).mono fun e W' ⟨he, hr, hg⟩ => ⟨he, h.read hg hr⟩

theorem dprincipal {w0 W : World} {R r g : Nat} {A : Option Addr} {n cap : Nat} {l : Bool} {s : S5.St} {rs cs : List Value} {zs : List Int} (h : Dst w0 W R r g A n cap l s rs cs) (hs : Sl w0 A n cap zs) (hn : n ≤ 100000) (a b c : ByteArray) (s1 s2 s3 : S5.St) (ha : a = strOfNums (S5.txS zs s.at')) (h1 : s1 = s.move (S5.txN zs s.at') (S5.txE zs s.at'))
    (hb : b = strOfNums (S5.txS zs s1.at')) (h2 : s2 = s1.move (S5.txN zs s1.at') (S5.txE zs s1.at')) (hc : c = strOfNums (S5.txS zs s2.at')) (h3 : s3 = s2.move (S5.txN zs s2.at') (S5.txE zs s2.at')) :
    Calls Tryz.prog 44 #[.pointer (some ⟨r, 0, none⟩)] W fun e W' => e = .returned (.agg #[.string a, .string b, .string c]) ∧ Dst w0 W' R r g A n cap l s3 rs cs := by
  subst ha hb hc
  exact (rprincipal_any r A n cap l s s1 s2 s3 zs W h.rd (fun W' hg => hs.keep (h.below.grown hg h.below.size (fun k e => by cases e; exact h.hr))) hn h1 h2 h3).mono fun e W' ⟨he, hr, hg⟩ => ⟨he, h.read hg hr⟩

theorem dbytes {w0 W : World} {R r g : Nat} {A : Option Addr} {n cap : Nat} {l : Bool} {s : S5.St} {rs cs : List Value} {zs : List Int} (h : Dst w0 W R r g A n cap l s rs cs) (hs : Sl W A n cap zs) (hn : n ≤ 100000) (m : Int) (s' : S5.St) (hs' : s' = s.move (S5.byN zs s.at' m) (S5.byE zs s.at' m)) :
    Calls Tryz.prog 52 #[.pointer (some ⟨r, 0, none⟩), .int .i64 m] W fun e W' => ∃ A2 m2 c2, e = .returned (.slice A2 m2 c2) ∧ Sl W' A2 m2 c2 (S5.byS zs s.at' m) ∧ Dst w0 W' R r g A n cap l s' rs cs := by
  subst hs'
  exact (rbytes_any r A n cap l s zs m W h.rd hs hn).mono fun e W' ⟨A2, m2, c2, he, h2, hr, hg⟩ => ⟨A2, m2, c2, he, h2, h.read hg hr⟩

theorem part_range {zs : List Int} (hz : ∀ z ∈ zs, 0 ≤ z ∧ z ≤ 255) (at' : Int) (k : Nat) : ∀ z ∈ S5.part zs at' k, 0 ≤ z ∧ z ≤ 255 := fun z h => hz z (List.mem_of_mem_drop (List.mem_of_mem_take h))
theorem getV_range {zs : List Int} (hz : ∀ z ∈ zs, 0 ≤ z ∧ z ≤ 255) (at' : Int) (k : Nat) (l : Bool) (hk : k ≤ 4) : 0 ≤ S5.getV zs at' k l ∧ S5.getV zs at' k l ≤ 4294967295 := by
  unfold S5.getV
  split
  · rename_i he
    have hp := part_range hz at' k
    have hl := (S5.part_len he).1
    have ht : S3.top k ≤ 4294967296 := by
      match k, hk with
      | 0, _ => decide
      | 1, _ => decide
      | 2, _ => decide
      | 3, _ => decide
      | 4, _ => decide
    split
    · have := S3.num_lt (zs := (S5.part zs at' k).reverse) (fun z h => hp z (List.mem_reverse.1 h))
      rw [List.length_reverse, hl] at this
      omega
    · have := S3.num_lt hp
      rw [hl] at this
      omega
  · omega
theorem byS_range {zs : List Int} (hz : ∀ z ∈ zs, 0 ≤ z ∧ z ≤ 255) (at' m : Int) : ∀ z ∈ S5.byS zs at' m, 0 ≤ z ∧ z ≤ 255 := by
  unfold S5.byS
  split
  · exact part_range hz _ _
  · intro z h; cases h
theorem readN_range {zs : List Int} (hz : ∀ z ∈ zs, 0 ≤ z ∧ z ≤ 255) : 0 ≤ S3.readN zs ∧ S3.readN zs ≤ 18446744073709551615 := by
  unfold S3.readN
  split
  · rename_i h
    unfold S3.readOk at h
    simp only [Bool.and_eq_true, decide_eq_true_eq] at h
    have := S3.num_lt hz
    rw [h.1] at this
    have e : S3.top 8 = 18446744073709551616 := by decide
    omega
  · omega
theorem txS_size (zs : List Int) (at' : Int) : (strOfNums (S5.txS zs at')).size ≤ maxLen := by
  rw [strOfNums_size]; exact Nat.le_trans (S5.txS_len _ _) (by decide)

end Go.Proofs.YtkhkmgblgonfoaaGreat

/-
  Short and Bytes of the document's reader, with what is known of the bytes' place; bytes beside a decoder's other blocks.
-/
namespace Go.Proofs.YtkhkmgblgonfoaaGreat
open Go.RowKit
set_option maxRecDepth 100000

def RdBytesF (ys : List Int) (w : World) (r : Nat) (A : Option Addr) (n cap : Nat) (l : Bool) (s : S5.St) (e : Ending) (w' : World) : Prop :=
  ∃ A2 m2 c2, e = .returned (.slice A2 m2 c2) ∧ Sl w' A2 m2 c2 ys ∧ Rd w' r A n cap l s ∧ w.grownBy w' (some r) ∧ ∀ b off, A2 = some ⟨b, off, none⟩ → w.heap.size ≤ b

set_option maxHeartbeats 1600000 in
theorem rshort_any (r : Nat) (A : Option Addr) (n cap : Nat) (l : Bool) (s : S5.St) (zs : List Int) (w : World) (h : Rd w r A n cap l s) (hs : Sl w A n cap zs) (hn : n ≤ 100000) : Calls Tryz.prog 51 #[.pointer (some ⟨r, 0, none⟩)] w (RdOut (.int .i64 (S5.getV zs s.at' 2 l)) w r A n cap l (s.move (S5.getN zs s.at' 2) (S5.getE zs s.at' 2))) := by
  have K := Lib.hid (fun (W : World) (hb : Below w.heap.size w W) => r5short_any A n cap zs s.at' l W (hs.keep hb) hn)
  have hR := Lib.hid h
  obtain ⟨c0, c1, c2, c3, fz⟩ := h
  have hlt := cell_lt c0
  go_enter Tryz.func51, Tryz.ntmps51
  go_wp2_with (fail)
  go_region_held3 (fun W => Below w.heap.size w W ∧ W.cell? ⟨r, 0, none⟩ = some (.slice A n cap) ∧ W.cell? ⟨r, 1, none⟩ = some (.int .i64 s.at') ∧ W.cell? ⟨r, 2, none⟩ = some (.bool l))
    (first | (go_keep; done) | ((repeat' apply And.intro) <;> first | (go_keep; done) | exact (Below.refl _ _).drew | exact below_keep hb1 (by go_keep) | exact cell_keep hb1 (by go_keep)))
    (first | (go_at_call 92; refine (K.out _ ?_).mono ?_; exact And.left ‹Below w.heap.size w _ ∧ _›; rintro e w1 ⟨rfl, hb1⟩))
  have hS := And.left ‹Below w.heap.size w _ ∧ _›
  have hR1 := Lib.hid (hR.out.keep hS)
  have hG := Lib.hid (below_grown (row := some r) hS)
  clear c0 c1 c2 c3 fz hlt hS
  go_wp2_with (fail)
  refine (rmove_any r A n cap l s _ _ _ hR1.out).mono ?_
  rintro e w2 ⟨rfl, hr2, hg2⟩
  go_wp2_with (fail)
  go_ret
  exact ⟨rfl, hr2, hG.out.trans hg2⟩

set_option maxHeartbeats 1600000 in
theorem rbytesF_any (r : Nat) (A : Option Addr) (n cap : Nat) (l : Bool) (s : S5.St) (zs : List Int) (m : Int) (w : World) (h : Rd w r A n cap l s) (hs : Sl w A n cap zs) (hn : n ≤ 100000) : Calls Tryz.prog 52 #[.pointer (some ⟨r, 0, none⟩), .int .i64 m] w (RdBytesF (S5.byS zs s.at' m) w r A n cap l (s.move (S5.byN zs s.at' m) (S5.byE zs s.at' m))) := by
  have K := Lib.hid (fun (W : World) (hb : Below w.heap.size w W) => r5bytes_any A n cap zs s.at' m W (hs.keep hb) hn)
  have hR := Lib.hid h
  obtain ⟨c0, c1, c2, c3, fz⟩ := h
  have hlt := cell_lt c0
  go_enter Tryz.func52, Tryz.ntmps52
  go_wp2_with (fail)
  go_region_held3 (fun W => Below w.heap.size w W ∧ W.cell? ⟨r, 0, none⟩ = some (.slice A n cap) ∧ W.cell? ⟨r, 1, none⟩ = some (.int .i64 s.at') ∧ W.cell? ⟨r, 2, none⟩ = some (.bool l))
    (first | (go_keep; done) | ((repeat' apply And.intro) <;> first | (go_keep; done) | exact (Below.refl _ _).drew | exact below_keep hb1 (by go_keep) | exact cell_keep hb1 (by go_keep)))
    (first | (go_at_call 93; refine (K.out _ ?_).mono ?_; exact And.left ‹Below w.heap.size w _ ∧ _›; rintro e w1 ⟨A2, m2, k2, rfl, hs2, hb1, hf2⟩))
  have hS := And.left ‹Below w.heap.size w _ ∧ _›
  have hR1 := Lib.hid (hR.out.keep hS)
  have hG := Lib.hid (below_grown (row := some r) hS)
  have hlt2 := Lib.hid hlt
  replace hs2 := Lib.hid hs2
  replace hf2 := Lib.hid hf2
  clear hb1
  clear c0 c1 c2 c3 fz hlt hS
  go_wp2_with (fail)
  refine (rmove_any r A n cap l s _ _ _ hR1.out).mono ?_
  rintro e w2 ⟨rfl, hr2, hg2⟩
  go_wp2_with (fail)
  go_ret
  exact ⟨A2, m2, k2, rfl, ⟨hs2.out.1.beside hg2 (fun b off e => by have := hf2.out b off e; have := hlt2.out; intro e'; cases e'; first | omega | (simp at *; omega)), hs2.out.2⟩, hr2, hG.out.trans hg2, fun b off e => hf2.out b off e⟩

theorem Sl.beside {w w' : World} {A : Option Addr} {n cap : Nat} {zs : List Int} {row : Option Nat} (h : Sl w A n cap zs) (hg : w.grownBy w' row) (hne : ∀ b off, A = some ⟨b, off, none⟩ → some b ≠ row) : Sl w' A n cap zs := ⟨h.1.beside hg hne, h.2⟩
theorem Sl.set {w : World} {A : Option Addr} {n cap : Nat} {zs : List Int} (h : Sl w A n cap zs) (p : Addr) (x : Value) (hne : ∀ b off, A = some ⟨b, off, none⟩ → b ≠ p.block) : Sl (w.setCell p x) A n cap zs :=
  h.beside (grown_set w p x) (fun b off e => by have := hne b off e; simpa using this)

theorem dshort {w0 W : World} {R r g : Nat} {A : Option Addr} {n cap : Nat} {l : Bool} {s : S5.St} {rs cs : List Value} {zs : List Int} (h : Dst w0 W R r g A n cap l s rs cs) (hs : Sl W A n cap zs) (hn : n ≤ 100000) (v : Int) (s' : S5.St) (hv : v = S5.getV zs s.at' 2 l) (hs' : s' = s.move (S5.getN zs s.at' 2) (S5.getE zs s.at' 2)) :
    Calls Tryz.prog 51 #[.pointer (some ⟨r, 0, none⟩)] W fun e W' => e = .returned (.int .i64 v) ∧ Dst w0 W' R r g A n cap l s' rs cs := by
  subst hv hs'
  exact (rshort_any r A n cap l s zs W h.rd hs hn).mono fun e W' ⟨he, hr, hg⟩ => ⟨he, h.read hg hr⟩

theorem dnumberG {w0 W : World} {R r g : Nat} {A : Option Addr} {n cap : Nat} {l : Bool} {s : S5.St} {rs cs : List Value} {zs : List Int} (h : Dst w0 W R r g A n cap l s rs cs) (hs : Sl W A n cap zs) (hn : n ≤ 100000) (v : Int) (s' : S5.St) (hv : v = S5.getV zs s.at' 4 l) (hs' : s' = s.move (S5.getN zs s.at' 4) (S5.getE zs s.at' 4)) :
    Calls Tryz.prog 45 #[.pointer (some ⟨r, 0, none⟩)] W fun e W' => e = .returned (.int .i64 v) ∧ Dst w0 W' R r g A n cap l s' rs cs ∧ W.grownBy W' (some r) := by
  subst hv hs'
  exact (rnumber_any r A n cap l s zs W h.rd hs hn).mono fun e W' ⟨he, hr, hg⟩ => ⟨he, h.read hg hr, hg⟩

theorem dbytesF {w0 W : World} {R r g : Nat} {A : Option Addr} {n cap : Nat} {l : Bool} {s : S5.St} {rs cs : List Value} {zs : List Int} (h : Dst w0 W R r g A n cap l s rs cs) (hs : Sl W A n cap zs) (hn : n ≤ 100000) (m : Int) (s' : S5.St) (hs' : s' = s.move (S5.byN zs s.at' m) (S5.byE zs s.at' m)) :
    Calls Tryz.prog 52 #[.pointer (some ⟨r, 0, none⟩), .int .i64 m] W fun e W' => ∃ A2 m2 c2, e = .returned (.slice A2 m2 c2) ∧ Sl W' A2 m2 c2 (S5.byS zs s.at' m) ∧ Dst w0 W' R r g A n cap l s' rs cs ∧ ∀ b off, A2 = some ⟨b, off, none⟩ → b ≠ r ∧ b ≠ g ∧ b ≠ R ∧ w0.heap.size ≤ b := by
  subst hs'
  have h0 := h.below.size
  have h1 := h.tk.lt
  have h2 := h.res.lt
  have h3 := cell_lt h.rd.c3
  exact (rbytesF_any r A n cap l s zs m W h.rd hs hn).mono fun e W' ⟨A2, m2, c2, he, h2', hr, hg, hf⟩ => ⟨A2, m2, c2, he, h2', h.read hg hr, fun b off e => by
    have := hf b off e
    omega⟩

end Go.Proofs.YtkhkmgblgonfoaaGreat
