/-
  The reader of the document's answers: what its methods return, and what becomes of it.
-/
import Derived.Test.YtihacmonohjmaaaQFieldRN
import Derived.Test.YtihacmonohjmaaaQFieldRT
import Derived.Test.YtihacmonohjmaaaQFieldPlain
import Derived.Maps.RangeWalk
import Derived.Deep.RegionHeld3
import Derived.Deep.AppendLies
namespace Go.Proofs.Ytihacmonohjmaaa
open Go.RowKit

theorem below_grown {w w' : World} {row : Option Nat} (h : Below w.heap.size w w') : w.grownBy w' row := ⟨h.os, h.tape, h.output, h.size, fun i hi _ => h.block i hi⟩

/-- A reader in a block. -/
structure Rd (w : World) (r : Nat) (A : Option Addr) (n cap : Nat) (l : Bool) (s : S5.St) : Prop where
  c0 : w.cell? ⟨r, 0, none⟩ = some (.slice A n cap)
  c1 : w.cell? ⟨r, 1, none⟩ = some (.int .i64 s.at')
  c2 : w.cell? ⟨r, 2, none⟩ = some (.bool l)
  c3 : w.cell? ⟨r, 3, none⟩ = some (.bool s.bad)
  fz : ∀ o, w.frozen? ⟨r, o, none⟩ = false
theorem Rd.keep {w w' : World} {r : Nat} {A : Option Addr} {n cap : Nat} {l : Bool} {s : S5.St} (hb : Below w.heap.size w w') (h : Rd w r A n cap l s) : Rd w' r A n cap l s :=
  ⟨cell_keep hb h.c0, cell_keep hb h.c1, cell_keep hb h.c2, cell_keep hb h.c3, fun o => ((bcell hb).2 _ _ (cell_lt h.c0)).trans (h.fz o)⟩

/-- What a method leaves behind. -/
def RdOut (v : Value) (w : World) (r : Nat) (A : Option Addr) (n cap : Nat) (l : Bool) (s : S5.St) (e : Ending) (w' : World) : Prop := e = .returned v ∧ Rd w' r A n cap l s ∧ w.grownBy w' (some r)

theorem Rd.grown {w w' : World} {r : Nat} {A : Option Addr} {n cap : Nat} {l : Bool} {s : S5.St} {row : Option Nat} (h : Rd w r A n cap l s) (hg : w.grownBy w' row) (hne : some r ≠ row) : Rd w' r A n cap l s :=
  ⟨hg.cell h.c0 hne, hg.cell h.c1 hne, hg.cell h.c2 hne, hg.cell h.c3 hne, fun o => (hg.frozen_far ⟨r, o, none⟩ (cell_lt h.c0) hne).trans (h.fz o)⟩
theorem grown_new {w w1 : World} {row : Option Nat} (h : w.grownBy w1 row) (p : Addr) (x : Value) (hp : w.heap.size ≤ p.block) : w.grownBy (w1.setCell p x) row :=
  h.andThen (grown_set w1 p x) (fun j e => .inl (by cases e; exact hp))

theorem rd_at {w : World} {r : Nat} {A : Option Addr} {n cap : Nat} {l bad : Bool} {at' next : Int} (h : Rd w r A n cap l ⟨at', bad⟩) : Rd (w.setCell ⟨r, 1, none⟩ (.int .i64 next)) r A n cap l ⟨next, bad⟩ := by
  obtain ⟨c0, c1, c2, c3, fz⟩ := h
  exact ⟨by simp [go_sem, c0], by simp [go_sem, c1], by simp [go_sem, c2], by simp [go_sem, c3], fun o => by simp [go_sem, fz]⟩
theorem rd_bad {w : World} {r : Nat} {A : Option Addr} {n cap : Nat} {l bad b : Bool} {at' : Int} (h : Rd w r A n cap l ⟨at', bad⟩) : Rd (w.setCell ⟨r, 3, none⟩ (.bool b)) r A n cap l ⟨at', b⟩ := by
  obtain ⟨c0, c1, c2, c3, fz⟩ := h
  exact ⟨by simp [go_sem, c0], by simp [go_sem, c1], by simp [go_sem, c2], by simp [go_sem, c3], fun o => by simp [go_sem, fz]⟩

theorem rmove_any (r : Nat) (A : Option Addr) (n cap : Nat) (l : Bool) (s : S5.St) (next x : Int) (w : World) (h : Rd w r A n cap l s) : Calls Try.prog 66 #[.pointer (some ⟨r, 0, none⟩), .int .i64 next, .int .i64 x] w (RdOut (.tuple #[]) w r A n cap l (s.move next x)) := by
  obtain ⟨at', bad⟩ := s
  have hR := Lib.hid h
  obtain ⟨c0, c1, c2, c3, fz⟩ := h
  have hlt := cell_lt c0
  simp only at c0 c1 c2 c3
  cases bad
  · by_cases hx : x = 0
    · subst hx
      have hm := Lib.hid (show (S5.St.mk at' false).move next 0 = ⟨next, false⟩ by simp [S5.St.move])
      go_enter Try.func66, Try.ntmps66
      go_wp2_with (fail)
      exact bodyPost_end (v := .tuple #[]) (by simp [results, Try.results66, go_sem]) rfl ⟨rfl, by rw [hm.out]; exact rd_at hR.out, grown_set _ ⟨r, 1, none⟩ _⟩
    · have hx2 : (x != 0) = true := by simpa using hx
      have hm := Lib.hid (show (S5.St.mk at' false).move next x = ⟨at', true⟩ by simp [S5.St.move, hx])
      clear hx
      go_enter Try.func66, Try.ntmps66
      go_wp2_with (fail)
      exact bodyPost_ret (v := .tuple #[]) (by simp [results, Try.results66, go_sem]) rfl ⟨rfl, by rw [hm.out]; exact rd_bad hR.out, grown_set _ ⟨r, 3, none⟩ _⟩
  · have hm := Lib.hid (show (S5.St.mk at' true).move next x = ⟨at', true⟩ by simp [S5.St.move])
    go_enter Try.func66, Try.ntmps66
    go_wp2_with (fail)
    exact bodyPost_ret (v := .tuple #[]) (by simp [results, Try.results66, go_sem]) rfl ⟨rfl, by rw [hm.out]; exact rd_bad hR.out, grown_set _ ⟨r, 3, none⟩ _⟩

set_option maxHeartbeats 1600000 in
theorem rnumber_any (r : Nat) (A : Option Addr) (n cap : Nat) (l : Bool) (s : S5.St) (zs : List Int) (w : World) (h : Rd w r A n cap l s) (hs : Sl w A n cap zs) (hn : n ≤ 100000) : Calls Try.prog 44 #[.pointer (some ⟨r, 0, none⟩)] w (RdOut (.int .i64 (S5.getV zs s.at' 4 l)) w r A n cap l (s.move (S5.getN zs s.at' 4) (S5.getE zs s.at' 4))) := by
  have K := Lib.hid (fun (W : World) (hb : Below w.heap.size w W) => r5number_any A n cap zs s.at' l W (hs.keep hb) hn)
  have hR := Lib.hid h
  obtain ⟨c0, c1, c2, c3, fz⟩ := h
  have hlt := cell_lt c0
  go_enter Try.func44, Try.ntmps44
  go_wp2_with (fail)
  go_region_held3 (fun W => Below w.heap.size w W ∧ W.cell? ⟨r, 0, none⟩ = some (.slice A n cap) ∧ W.cell? ⟨r, 1, none⟩ = some (.int .i64 s.at') ∧ W.cell? ⟨r, 2, none⟩ = some (.bool l))
    (first | (go_keep; done) | ((repeat' apply And.intro) <;> first | (go_keep; done) | exact (Below.refl _ _).drew | exact below_keep hb1 (by go_keep) | exact cell_keep hb1 (by go_keep)))
    (first | (go_at_call 68; refine (K.out _ ?_).mono ?_; exact And.left ‹Below w.heap.size w _ ∧ _›; rintro e w1 ⟨rfl, hb1⟩))
  have hS := And.left ‹Below w.heap.size w _ ∧ _›
  have hR1 := Lib.hid (hR.out.keep hS)
  have hG := Lib.hid (below_grown (row := some r) hS)
  clear c0 c1 c2 c3 fz hlt hS
  go_wp2_with (fail)
  refine (rmove_any r A n cap l s _ _ _ hR1.out).mono ?_
  rintro e w2 ⟨rfl, hr2, hg2⟩
  go_wp2_with (fail)
  go_ret
  exact ⟨rfl, hr2, hG.out.trans hg2⟩

set_option maxHeartbeats 1600000 in
theorem roctet_any (r : Nat) (A : Option Addr) (n cap : Nat) (l : Bool) (s : S5.St) (zs : List Int) (w : World) (h : Rd w r A n cap l s) (hs : Sl w A n cap zs) (hn : n ≤ 100000) : Calls Try.prog 42 #[.pointer (some ⟨r, 0, none⟩)] w (RdOut (.int .i64 (S5.getV zs s.at' 1 false)) w r A n cap l (s.move (S5.getN zs s.at' 1) (S5.getE zs s.at' 1))) := by
  have K := Lib.hid (fun (W : World) (hb : Below w.heap.size w W) => r5octet_any A n cap zs s.at' W (hs.keep hb) hn)
  have hR := Lib.hid h
  obtain ⟨c0, c1, c2, c3, fz⟩ := h
  have hlt := cell_lt c0
  go_enter Try.func42, Try.ntmps42
  go_wp2_with (fail)
  go_region_held3 (fun W => Below w.heap.size w W ∧ W.cell? ⟨r, 0, none⟩ = some (.slice A n cap) ∧ W.cell? ⟨r, 1, none⟩ = some (.int .i64 s.at') ∧ W.cell? ⟨r, 2, none⟩ = some (.bool l))
    (first | (go_keep; done) | ((repeat' apply And.intro) <;> first | (go_keep; done) | exact (Below.refl _ _).drew | exact below_keep hb1 (by go_keep) | exact cell_keep hb1 (by go_keep)))
    (first | (go_at_call 65; refine (K.out _ ?_).mono ?_; exact And.left ‹Below w.heap.size w _ ∧ _›; rintro e w1 ⟨rfl, hb1⟩))
  have hS := And.left ‹Below w.heap.size w _ ∧ _›
  have hR1 := Lib.hid (hR.out.keep hS)
  have hG := Lib.hid (below_grown (row := some r) hS)
  clear c0 c1 c2 c3 fz hlt hS
  go_wp2_with (fail)
  refine (rmove_any r A n cap l s _ _ _ hR1.out).mono ?_
  rintro e w2 ⟨rfl, hr2, hg2⟩
  go_wp2_with (fail)
  go_ret
  exact ⟨rfl, hr2, hG.out.trans hg2⟩

set_option maxHeartbeats 1600000 in
theorem rtext_any (r : Nat) (A : Option Addr) (n cap : Nat) (l : Bool) (s : S5.St) (zs : List Int) (w : World) (h : Rd w r A n cap l s) (hs : Sl w A n cap zs) (hn : n ≤ 100000) : Calls Try.prog 67 #[.pointer (some ⟨r, 0, none⟩)] w (RdOut (.string (strOfNums (S5.txS zs s.at'))) w r A n cap l (s.move (S5.txN zs s.at') (S5.txE zs s.at'))) := by
  have K := Lib.hid (fun (W : World) (hb : Below w.heap.size w W) => r5text_any A n cap zs s.at' W (hs.keep hb) hn)
  have hR := Lib.hid h
  obtain ⟨c0, c1, c2, c3, fz⟩ := h
  have hlt := cell_lt c0
  go_enter Try.func67, Try.ntmps67
  go_wp2_with (fail)
  go_region_held3 (fun W => Below w.heap.size w W ∧ W.cell? ⟨r, 0, none⟩ = some (.slice A n cap) ∧ W.cell? ⟨r, 1, none⟩ = some (.int .i64 s.at') ∧ W.cell? ⟨r, 2, none⟩ = some (.bool l))
    (first | (go_keep; done) | ((repeat' apply And.intro) <;> first | (go_keep; done) | exact (Below.refl _ _).drew | exact below_keep hb1 (by go_keep) | exact cell_keep hb1 (by go_keep)))
    (first | (go_at_call 85; refine (K.out _ ?_).mono ?_; exact And.left ‹Below w.heap.size w _ ∧ _›; rintro e w1 ⟨rfl, rfl⟩))
  have hS := And.left ‹Below w.heap.size w _ ∧ _›
  have hR1 := Lib.hid (hR.out.keep hS)
  have hG := Lib.hid (below_grown (row := some r) hS)
  clear c0 c1 c2 c3 fz hlt hS
  go_wp2_with (fail)
  refine (rmove_any r A n cap l s _ _ _ hR1.out).mono ?_
  rintro e w2 ⟨rfl, hr2, hg2⟩
  go_wp2_with (fail)
  go_ret
  exact ⟨rfl, hr2, hG.out.trans hg2⟩

/-- What Bytes leaves behind. -/
def RdBytes (ys : List Int) (w : World) (r : Nat) (A : Option Addr) (n cap : Nat) (l : Bool) (s : S5.St) (e : Ending) (w' : World) : Prop :=
  ∃ A2 m c2, e = .returned (.slice A2 m c2) ∧ Sl w' A2 m c2 ys ∧ Rd w' r A n cap l s ∧ w.grownBy w' (some r)


set_option maxHeartbeats 1600000 in
theorem rprincipal_any (r : Nat) (A : Option Addr) (n cap : Nat) (l : Bool) (s s1 s2 s3 : S5.St) (zs : List Int) (w : World) (h : Rd w r A n cap l s) (hs : ∀ W, w.grownBy W (some r) → Sl W A n cap zs) (hn : n ≤ 100000) (h1 : s1 = s.move (S5.txN zs s.at') (S5.txE zs s.at')) (h2 : s2 = s1.move (S5.txN zs s1.at') (S5.txE zs s1.at')) (h3 : s3 = s2.move (S5.txN zs s2.at') (S5.txE zs s2.at')) :
    Calls Try.prog 43 #[.pointer (some ⟨r, 0, none⟩)] w (RdOut (.agg #[.string (strOfNums (S5.txS zs s.at')), .string (strOfNums (S5.txS zs s1.at')), .string (strOfNums (S5.txS zs s2.at'))]) w r A n cap l s3) := by
  have hR := Lib.hid h
  have g0 : r < w.heap.size := cell_lt h.c0
  replace h1 := Lib.hid h1
  replace h2 := Lib.hid h2
  replace h3 := Lib.hid h3
  replace hs := Lib.hid hs
  go_enter Try.func43, Try.ntmps43
  go_wp2_with (fail)
  have G1 := Lib.hid (World.grownBy_alloc w (.cells #[.string ⟨#[]⟩, .string ⟨#[]⟩, .string ⟨#[]⟩] 23) (some r))
  have X := rtext_any r A n cap l s zs _ (hR.out.keep ((Below.refl w.heap.size w).alloc (Nat.le_refl _) (.cells #[.string ⟨#[]⟩, .string ⟨#[]⟩, .string ⟨#[]⟩] 23))) (hs.out _ G1.out) hn
  rw [← h1.out] at X
  refine X.mono ?_
  clear X
  rintro e w2 ⟨rfl, hr2, hg2⟩
  have y0 : w2.cell? ⟨w.heap.size, 0, none⟩ = some (.string ⟨#[]⟩) := hg2.cell (by simp [go_sem]) (by simp; omega)
  have y1 : w2.cell? ⟨w.heap.size, 1, none⟩ = some (.string ⟨#[]⟩) := hg2.cell (by simp [go_sem]) (by simp; omega)
  have y2 : w2.cell? ⟨w.heap.size, 2, none⟩ = some (.string ⟨#[]⟩) := hg2.cell (by simp [go_sem]) (by simp; omega)
  have y3 : ∀ o, w2.frozen? ⟨w.heap.size, o, none⟩ = false := fun o => (hg2.frozen_far ⟨w.heap.size, o, none⟩ (by simp) (by simp; omega)).trans (by simp [go_sem])
  have z2 := cell_lt y0
  have G2 := Lib.hid (G1.out.trans hg2)
  replace hr2 := Lib.hid hr2
  clear hg2 G1
  go_wp2_with (fail)
  have D2 := Lib.hid (World.grownBy_alloc w2 (.cells #[.string (strOfNums (S5.txS zs s.at')), .string ⟨#[]⟩, .string ⟨#[]⟩] 23) (some r))
  have X := rtext_any r A n cap l s1 zs _ (hr2.out.keep ((Below.refl w2.heap.size w2).alloc (Nat.le_refl _) (.cells #[.string (strOfNums (S5.txS zs s.at')), .string ⟨#[]⟩, .string ⟨#[]⟩] 23))) (hs.out _ (G2.out.trans D2.out)) hn
  rw [← h2.out] at X
  refine X.mono ?_
  clear X
  rintro e w3 ⟨rfl, hr3, hg3⟩
  have x0 : w3.cell? ⟨w.heap.size, 0, none⟩ = some (.string ⟨#[]⟩) := hg3.cell (by simp [go_sem, z2, y0]) (by simp; omega)
  have x1 : w3.cell? ⟨w.heap.size, 1, none⟩ = some (.string ⟨#[]⟩) := hg3.cell (by simp [go_sem, z2, y1]) (by simp; omega)
  have x2 : w3.cell? ⟨w.heap.size, 2, none⟩ = some (.string ⟨#[]⟩) := hg3.cell (by simp [go_sem, z2, y2]) (by simp; omega)
  have x3 : ∀ o, w3.frozen? ⟨w.heap.size, o, none⟩ = false := fun o => (hg3.frozen_far ⟨w.heap.size, o, none⟩ (by simp; omega) (by simp; omega)).trans (by simp [go_sem, z2, y3])
  have u0 : w3.cell? ⟨w2.heap.size, 0, none⟩ = some (.string (strOfNums (S5.txS zs s.at'))) := hg3.cell (by simp [go_sem]) (by simp; omega)
  have u1 : w3.cell? ⟨w2.heap.size, 1, none⟩ = some (.string ⟨#[]⟩) := hg3.cell (by simp [go_sem]) (by simp; omega)
  have u2 : w3.cell? ⟨w2.heap.size, 2, none⟩ = some (.string ⟨#[]⟩) := hg3.cell (by simp [go_sem]) (by simp; omega)
  have u3 : ∀ o, w3.frozen? ⟨w2.heap.size, o, none⟩ = false := fun o => (hg3.frozen_far ⟨w2.heap.size, o, none⟩ (by simp) (by simp; omega)).trans (by simp [go_sem])
  have z3 := cell_lt u0
  have G3 := Lib.hid ((G2.out.trans D2.out).trans hg3)
  replace hr3 := Lib.hid hr3
  clear hg3 G2 D2 hr2 y0 y1 y2 y3
  go_wp2_with (fail)
  have D3 := Lib.hid (grown_new G3.out ⟨w2.heap.size, 1, none⟩ (.string (strOfNums (S5.txS zs s1.at'))) (by show w.heap.size ≤ w2.heap.size; omega))
  have X := rtext_any r A n cap l s2 zs _ (hr3.out.grown (grown_set w3 ⟨w2.heap.size, 1, none⟩ (.string (strOfNums (S5.txS zs s1.at')))) (by simp; omega)) (hs.out _ D3.out) hn
  rw [← h3.out] at X
  refine X.mono ?_
  clear X
  rintro e w4 ⟨rfl, hr4, hg4⟩
  have y0 : w4.cell? ⟨w.heap.size, 0, none⟩ = some (.string ⟨#[]⟩) := hg4.cell (by simp [go_sem, x0]) (by simp; omega)
  have y1 : w4.cell? ⟨w.heap.size, 1, none⟩ = some (.string ⟨#[]⟩) := hg4.cell (by simp [go_sem, x1]) (by simp; omega)
  have y2 : w4.cell? ⟨w.heap.size, 2, none⟩ = some (.string ⟨#[]⟩) := hg4.cell (by simp [go_sem, x2]) (by simp; omega)
  have y3 : ∀ o, w4.frozen? ⟨w.heap.size, o, none⟩ = false := fun o => (hg4.frozen_far ⟨w.heap.size, o, none⟩ (by simp; omega) (by simp; omega)).trans (by simp [go_sem, x3])
  have t0 : w4.cell? ⟨w2.heap.size, 0, none⟩ = some (.string (strOfNums (S5.txS zs s.at'))) := hg4.cell (by simp [go_sem, u0]) (by simp; omega)
  have t1 : w4.cell? ⟨w2.heap.size, 1, none⟩ = some (.string (strOfNums (S5.txS zs s1.at'))) := hg4.cell (by simp [go_sem, u1]) (by simp; omega)
  have t2 : w4.cell? ⟨w2.heap.size, 2, none⟩ = some (.string ⟨#[]⟩) := hg4.cell (by simp [go_sem, u2]) (by simp; omega)
  have t3 : ∀ o, w4.frozen? ⟨w2.heap.size, o, none⟩ = false := fun o => (hg4.frozen_far ⟨w2.heap.size, o, none⟩ (by simp; omega) (by simp; omega)).trans (by simp [go_sem, u3])
  have z4 := cell_lt t0
  have hne : ¬ w2.heap.size = w.heap.size := by omega
  have hne2 : ¬ w.heap.size = w2.heap.size := by omega
  have G4 := Lib.hid (D3.out.trans hg4)
  replace hr4 := Lib.hid hr4
  clear hg4 G3 D3 hr3 x0 x1 x2 x3 u0 u1 u2 u3
  go_wp2_with (fail)
  refine bodyPost_ret (v := .agg #[.string (strOfNums (S5.txS zs s.at')), .string (strOfNums (S5.txS zs s1.at')), .string (strOfNums (S5.txS zs s2.at'))]) (by simp [results, Try.results43, go_sem, y0, y1, y2]) rfl ⟨rfl, ?_, ?_⟩
  · exact ((((hr4.out.grown (grown_set _ ⟨w2.heap.size, 2, none⟩ _) (by simp; omega)).grown (grown_set _ ⟨w.heap.size, 0, none⟩ _) (by simp; omega)).grown (grown_set _ ⟨w.heap.size, 1, none⟩ _) (by simp; omega)).grown (grown_set _ ⟨w.heap.size, 2, none⟩ _) (by simp; omega))
  · exact grown_new (grown_new (grown_new (grown_new G4.out ⟨w2.heap.size, 2, none⟩ _ (by show w.heap.size ≤ w2.heap.size; omega)) ⟨w.heap.size, 0, none⟩ _ (Nat.le_refl _)) ⟨w.heap.size, 1, none⟩ _ (Nat.le_refl _)) ⟨w.heap.size, 2, none⟩ _ (Nat.le_refl _)

end Go.Proofs.Ytihacmonohjmaaa
