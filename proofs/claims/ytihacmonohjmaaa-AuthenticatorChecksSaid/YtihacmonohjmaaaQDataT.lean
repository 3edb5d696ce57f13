/-
  What the proof wants: DataT, DataAu.
-/
import Derived.Test.YtihacmonohjmaaaQDataP
import Derived.Test.YtihacmonohjmaaaQBoxH
import Derived.Test.YtihacmonohjmaaaQDst
import Derived.Test.YtihacmonohjmaaaQFieldPlain
import Derived.Test.YtihacmonohjmaaaQAuC
import Derived.Test.YtihacmonohjmaaaQGrow
import Derived.Deep.DeepCutAuto
import Derived.RegionTactic

/-
  What the source of plain data hands out; services.
-/
namespace Go.Proofs.Ytihacmonohjmaaa
open Go.RowKit

/-- A source in a block. -/
structure Src (w : World) (r : Nat) (A : Option Addr) (n cap : Nat) (k : Nat) : Prop where
  c0 : w.cell? ⟨r, 0, none⟩ = some (.slice A n cap)
  c1 : w.cell? ⟨r, 1, none⟩ = some (.int .i64 (k : Int))
  fz : ∀ o, w.frozen? ⟨r, o, none⟩ = false
  hk : k ≤ n
theorem Src.grown {w w' : World} {r : Nat} {A : Option Addr} {n cap k : Nat} {row : Option Nat} (h : Src w r A n cap k) (hg : w.grownBy w' row) (hne : some r ≠ row) : Src w' r A n cap k :=
  ⟨hg.cell h.c0 hne, hg.cell h.c1 hne, fun o => (hg.frozen_far ⟨r, o, none⟩ (cell_lt h.c0) hne).trans (h.fz o), h.hk⟩

/-- A number from 0 to m - 1 that the source hands out. -/
def NextOut (m : Int) (w : World) (r : Nat) (A : Option Addr) (n cap : Nat) (e : Ending) (w' : World) : Prop :=
  ∃ v k, e = .returned (.int .i64 v) ∧ 0 ≤ v ∧ v < m ∧ Src w' r A n cap k ∧ w.grownBy w' (some r)

theorem grown_drewN (w : World) (n : Nat) (row : Option Nat) : w.grownBy (w.drewN n) row := ⟨rfl, rfl, rfl, Nat.le_refl _, fun _ _ _ => rfl⟩
theorem Src.drewN {w : World} {r : Nat} {A : Option Addr} {n cap k : Nat} (h : Src w r A n cap k) (m : Nat) : Src (w.drewN m) r A n cap k := h.grown (grown_drewN w m none) (by simp)
theorem Src.step {w : World} {r : Nat} {A : Option Addr} {n cap k : Nat} (h : Src w r A n cap k) (hk : k < n) : Src (w.setCell ⟨r, 1, none⟩ (.int .i64 ((k : Int) + 1))) r A n cap (k + 1) := by
  obtain ⟨c0, c1, fz, _⟩ := h
  exact ⟨by simp [go_sem, c0], by simp [go_sem, c1], fun o => by simp [go_sem, fz], hk⟩

set_option maxHeartbeats 1600000 in
theorem next_any (r : Nat) (A : Option Addr) (n cap k : Nat) (zs : List Int) (m : Int) (w : World) (h : Src w r A n cap k) (hs : Sl w A n cap zs) (hn : n ≤ 100000) (m0 : 1 ≤ m) (m1 : m ≤ 1000) : Calls Try.prog 24 #[.pointer (some ⟨r, 0, none⟩), .int .i64 m] w (NextOut m w r A n cap) := by
  have hR := Lib.hid h
  obtain ⟨c0, c1, fz, hk⟩ := h
  have hlt := cell_lt c0
  rcases Nat.eq_or_lt_of_le hk with e | e
  · subst e
    go_enter Try.func24, Try.ntmps24
    go_wp2_with (fail)
    go_quiet (fail)
    go_wp2_with (fail)
    go_ret
    exact ⟨0, k, rfl, by omega, by omega, hR.out.drewN _, grown_drewN _ _ _⟩
  · obtain ⟨b, off, z, rfl, hz, z0, z1, d⟩ := hs.row.at e
    have z0 : 0 ≤ z := z0
    have z1 : z ≤ 255 := z1
    clear hz
    have p0 : 0 ≤ z % m := Int.emod_nonneg _ (by omega)
    have p1 : z % m < m := Int.emod_lt_of_pos _ (by omega)
    have f1 := IntWalk.i64_in z (by omega)
    have f2 : z.tmod m = z % m := Int.tmod_eq_emod_of_nonneg z0
    have f3 := IntWalk.i64_in (z % m) (by omega)
    have f4 : ¬ m = 0 := by omega
    have e' : (k : Int) < (n : Int) := by omega
    have hdl := cell_lt d
    go_enter Try.func24, Try.ntmps24
    go_wp2_with (fail)
    go_quiet (fail)
    go_wp2_with (fail)
    go_quiet (fail)
    clear f1 f2 f3
    go_wp2_with (fail)
    go_ret
    exact ⟨z % m, k + 1, rfl, p0, p1, Src.step (hR.out.drewN _) e, (grown_drewN _ _ _).trans (grown_set _ ⟨r, 1, none⟩ _)⟩

/-- A service's name and instance. -/
def SvcOut (w : World) (e : Ending) (w' : World) : Prop := ∃ a b c : ByteArray, e = .returned (.agg #[.string a, .string b, .string c]) ∧ S1.vName a.data.toList = true ∧ S1.vInst b.data.toList = true ∧ Below w.heap.size w w'





end Go.Proofs.Ytihacmonohjmaaa

/-
  Authenticators that are made of plain data: they are valid.
-/
namespace Go.Proofs.Ytihacmonohjmaaa
open Go.RowKit

theorem user_ok7 (n : Int) : S1.vName (userS n).data.toList = true := by rcases user_cases n with h | h | h <;> rw [h] <;> decide
theorem realm_ok7 (n : Int) : S1.vRealm (realmS n).data.toList = true := by rcases realm_cases n with h | h | h <;> rw [h] <;> decide
theorem nn39_ok7 : S1.vName (nn 39).data.toList = true ∧ S1.vInst (nn 39).data.toList = true ∧ S1.vRealm (nn 39).data.toList = true := ⟨by decide, by decide, by decide⟩
theorem vinst_nil7 : S1.vInst (⟨#[]⟩ : ByteArray).data.toList = true := by decide
/-- A valid authenticator. -/
def AuOut (w : World) (e : Ending) (w' : World) : Prop := ∃ t : S7.Au, e = .returned t.val ∧ S7.Ok t ∧ Below w.heap.size w w'

set_option maxRecDepth 100000 in
set_option maxHeartbeats 3200000 in
theorem authData_any (A : Option Addr) (n cap : Nat) (zs : List Int) (w : World) (h : Sl w A n cap zs) (hn : n ≤ 100000) : Calls Try.prog 10 #[.slice A n cap] w (AuOut w) := by
  have hs := Lib.hid h
  go_enter Try.func10, Try.ntmps10
  go_wp2_with (fail)
  have B1 : Below w.heap.size w ((w.alloc (.cells #[.string ⟨#[]⟩, .string ⟨#[]⟩, .string ⟨#[]⟩, .int .i64 0, .int .i64 0, .int .i64 0] 25)).alloc (.cells #[.slice A n cap, .int .i64 0] 54)) := ((Below.refl _ _).alloc (Nat.le_refl _) _).alloc (by simp) _
  have S1 : Src ((w.alloc (.cells #[.string ⟨#[]⟩, .string ⟨#[]⟩, .string ⟨#[]⟩, .int .i64 0, .int .i64 0, .int .i64 0] 25)).alloc (.cells #[.slice A n cap, .int .i64 0] 54)) (w.heap.size + 1) A n cap 0 := ⟨by simp [go_sem], by simp [go_sem], fun o => by simp [go_sem], Nat.zero_le _⟩
  have X1 : BoxAt ((w.alloc (.cells #[.string ⟨#[]⟩, .string ⟨#[]⟩, .string ⟨#[]⟩, .int .i64 0, .int .i64 0, .int .i64 0] 25)).alloc (.cells #[.slice A n cap, .int .i64 0] 54)) w.heap.size zeroA := (BoxAt.new w zeroA 25).grown (World.grownBy_alloc _ _ none) (by simp)
  generalize ((w.alloc (.cells #[.string ⟨#[]⟩, .string ⟨#[]⟩, .string ⟨#[]⟩, .int .i64 0, .int .i64 0, .int .i64 0] 25)).alloc (.cells #[.slice A n cap, .int .i64 0] 54)) = W1 at B1 S1 X1 ⊢
  replace B1 := Lib.hid B1
  replace S1 := Lib.hid S1
  replace X1 := Lib.hid X1
  refine (next_any (w.heap.size + 1) A n cap _ zs 9 W1 S1.out (hs.out.keep B1.out) hn (by decide) (by decide)).mono ?_
  rintro e W2 ⟨v1, k1, rfl, v1a, v1b, S2, g2⟩
  have B2 := Lib.hid (B1.out.grown g2 B1.out.size (fun k e => by cases e; omega))
  have X2 := Lib.hid (X1.out.grown g2 (by simp))
  replace S2 := Lib.hid S2
  clear g2 B1 X1 S1
  go_wp2_with (fail)
  refine (user_any v1 _ (by omega) (by omega)).mono ?_
  rintro e W3 ⟨rfl, hb3⟩
  have B3 := Lib.hid (below_keep hb3 B2.out)
  have X3 := Lib.hid (X2.out.keep hb3)
  have S3 := Lib.hid (S2.out.grown (below_grown (row := none) hb3) (by simp))
  clear hb3 B2 X2 S2
  go_wp2_with (fail)
  refine (next_any (w.heap.size + 1) A n cap _ zs 200 W3 S3.out (hs.out.keep B3.out) hn (by decide) (by decide)).mono ?_
  rintro e W4 ⟨v2, k2, rfl, v2a, v2b, S4, g4⟩
  have B4 := Lib.hid (B3.out.grown g4 B3.out.size (fun k e => by cases e; omega))
  have X4 := Lib.hid (X3.out.grown g4 (by simp))
  replace S4 := Lib.hid S4
  clear g4 B3 X3 S3
  go_wp2_with (fail)
  refine (next_any (w.heap.size + 1) A n cap _ zs 256 W4 S4.out (hs.out.keep B4.out) hn (by decide) (by decide)).mono ?_
  rintro e W5 ⟨v3, k3, rfl, v3a, v3b, S5, g5⟩
  have B5 := Lib.hid (B4.out.grown g5 B4.out.size (fun k e => by cases e; omega))
  have X5 := Lib.hid (X4.out.grown g5 (by simp))
  replace S5 := Lib.hid S5
  clear g5 B4 X4 S4
  go_wp2_with (fail)
  refine (next_any (w.heap.size + 1) A n cap _ zs 256 W5 S5.out (hs.out.keep B5.out) hn (by decide) (by decide)).mono ?_
  rintro e W6 ⟨v4, k4, rfl, v4a, v4b, S6, g6⟩
  have B6 := Lib.hid (B5.out.grown g6 B5.out.size (fun k e => by cases e; omega))
  have X6 := Lib.hid (X5.out.grown g6 (by simp))
  replace S6 := Lib.hid S6
  clear g6 B5 X5 S5
  go_wp2_with (fail)
  obtain ⟨g, hg⟩ : ∃ g, g = W6.heap.size := ⟨_, rfl⟩
  have hg1 := B6.out.size
  have hg2 : w.heap.size + 1 < W6.heap.size := cell_lt S6.out.c0
  have T7 := BoxAt.new W6 [.string (userS v1), .string ⟨#[]⟩, .string (realmS (v1 / 3)), .int .i64 (v3 * 70000 + v4), .int .i64 v2, .int .i64 0] 25
  have hb7 : Below W6.heap.size W6 (W6.alloc (.cells #[.string (userS v1), .string ⟨#[]⟩, .string (realmS (v1 / 3)), .int .i64 (v3 * 70000 + v4), .int .i64 v2, .int .i64 0] 25)) := (Below.refl _ _).alloc (Nat.le_refl _) _
  have B7 := Lib.hid (below_keep hb7 B6.out)
  have X7 := Lib.hid (X6.out.keep hb7)
  have S7 := Lib.hid (S6.out.grown (below_grown (row := none) hb7) (by simp))
  clear hb7 B6 X6 S6
  replace T7 : BoxAt (W6.alloc (.cells #[.string (userS v1), .string ⟨#[]⟩, .string (realmS (v1 / 3)), .int .i64 (v3 * 70000 + v4), .int .i64 v2, .int .i64 0] 25)) W6.heap.size [.string (userS v1), .string ⟨#[]⟩, .string (realmS (v1 / 3)), .int .i64 (v3 * 70000 + v4), .int .i64 v2, .int .i64 0] := T7
  rw [← hg] at T7 hg1 hg2
  rw [← hg]
  generalize (W6.alloc (.cells #[.string (userS v1), .string ⟨#[]⟩, .string (realmS (v1 / 3)), .int .i64 (v3 * 70000 + v4), .int .i64 v2, .int .i64 0] 25)) = W7 at T7 B7 X7 S7 ⊢
  clear hg
  replace T7 := Lib.hid T7
  refine (next_any (w.heap.size + 1) A n cap _ zs 256 W7 S7.out (hs.out.keep B7.out) hn (by decide) (by decide)).mono ?_
  rintro e W8 ⟨v5, k5, rfl, v5a, v5b, S8, g8⟩
  have B8 := Lib.hid (B7.out.grown g8 B7.out.size (fun k e => by cases e; omega))
  have X8 := Lib.hid (X7.out.grown g8 (by simp))
  replace S8 := Lib.hid S8
  have T8 := Lib.hid (T7.out.grown g8 (by simp; omega))
  clear g8 B7 X7 S7 T7
  go_wp2_with (fail)
  refine (next_any (w.heap.size + 1) A n cap _ zs 256 W8 S8.out (hs.out.keep B8.out) hn (by decide) (by decide)).mono ?_
  rintro e W9 ⟨v6, k6, rfl, v6a, v6b, S9, g9⟩
  have B9 := Lib.hid (B8.out.grown g9 B8.out.size (fun k e => by cases e; omega))
  have X9 := Lib.hid (X8.out.grown g9 (by simp))
  replace S9 := Lib.hid S9
  have T9 := Lib.hid (T8.out.grown g9 (by simp; omega))
  clear g9 B8 X8 S8 T8
  have q0 := T9.out.c 0 _ rfl
  have q1 := T9.out.c 1 _ rfl
  have q2 := T9.out.c 2 _ rfl
  have q3 := T9.out.c 3 _ rfl
  have q4 := T9.out.c 4 _ rfl
  have q5 := T9.out.c 5 _ rfl
  have qf := T9.out.fz
  have ql := T9.out.lt
  go_wp2_with (fail)
  clear q0 q1 q2 q3 q4 q5 qf ql
  have T10 : BoxAt (W9.setCell ⟨g, 5, none⟩ (.int .i64 (v5 * 150 + v6))) g [.string (userS v1), .string ⟨#[]⟩, .string (realmS (v1 / 3)), .int .i64 (v3 * 70000 + v4), .int .i64 v2, .int .i64 (v5 * 150 + v6)] := (T9.out.set 5 (.int .i64 (v5 * 150 + v6)) (by simp))
  have B10 : Below w.heap.size w (W9.setCell ⟨g, 5, none⟩ (.int .i64 (v5 * 150 + v6))) := (B9.out.setCell (by simp; omega) _)
  have X10 : BoxAt (W9.setCell ⟨g, 5, none⟩ (.int .i64 (v5 * 150 + v6))) w.heap.size zeroA := (X9.out.grown (grown_set W9 ⟨g, 5, none⟩ (.int .i64 (v5 * 150 + v6))) (by simp; omega))
  have S10 := (S9.out.grown (grown_set W9 ⟨g, 5, none⟩ (.int .i64 (v5 * 150 + v6))) (by simp; omega))
  generalize (W9.setCell ⟨g, 5, none⟩ (.int .i64 (v5 * 150 + v6))) = W10 at T10 B10 X10 S10 ⊢
  replace T10 := Lib.hid T10
  replace B10 := Lib.hid B10
  replace X10 := Lib.hid X10
  replace S10 := Lib.hid S10
  clear T9 B9 X9 S9
  refine (next_any (w.heap.size + 1) A n cap _ zs 9 W10 S10.out (hs.out.keep B10.out) hn (by decide) (by decide)).mono ?_
  rintro e W11 ⟨v7, k7, rfl, v7a, v7b, S11, g11⟩
  have B11 := Lib.hid (B10.out.grown g11 B10.out.size (fun k e => by cases e; omega))
  have X11 := Lib.hid (X10.out.grown g11 (by simp))
  replace S11 := Lib.hid S11
  have T11 := Lib.hid (T10.out.grown g11 (by simp; omega))
  clear g11 B10 X10 S10 T10
  rcases hb : (v7 == 8)
  · skip
    have q0 := T11.out.c 0 _ rfl
    have q1 := T11.out.c 1 _ rfl
    have q2 := T11.out.c 2 _ rfl
    have q3 := T11.out.c 3 _ rfl
    have q4 := T11.out.c 4 _ rfl
    have q5 := T11.out.c 5 _ rfl
    have qf := T11.out.fz
    have ql := T11.out.lt
    have X := X11.out
    have x0 := X.c 0 _ rfl
    have x1 := X.c 1 _ rfl
    have x2 := X.c 2 _ rfl
    have x3 := X.c 3 _ rfl
    have x4 := X.c 4 _ rfl
    have x5 := X.c 5 _ rfl
    have xf := X.fz
    have xl := X.lt
    have nRg : ¬ w.heap.size = g := by omega
    have nRg2 : ¬ g = w.heap.size := by omega
    clear X S11
    go_wp2_with (fail)
    refine bodyPost_ret (v := (S7.Au.mk (userS v1) ⟨#[]⟩ (realmS (v1 / 3)) (v3 * 70000 + v4) v2 (v5 * 150 + v6)).val) ?_ rfl ?_
    · simp [results, Try.results10, go_sem, S7.Au.val, S7.Au.cells, x0, x1, x2, x3, x4, x5]
    · refine ⟨_, rfl, ⟨user_ok7 _, vinst_nil7, realm_ok7 _, by show 0 ≤ v3 * 70000 + v4 ∧ v3 * 70000 + v4 ≤ 4294967295; omega, by show 0 ≤ v2 ∧ v2 ≤ 199; omega, by show 0 ≤ v5 * 150 + v6 ∧ v5 * 150 + v6 ≤ 4294967295; omega⟩, ?_⟩
      repeat (first
        | (with_reducible exact B11.out)
        | (with_reducible refine Below.setCell ?_ ?_ _; rotate_left; focus (first | (simp; done) | (simp; omega))))
  · go_wp2_with (fail)
    refine (longest_any 0 _ (.inl rfl)).mono ?_
    rintro e W12 ⟨rfl, hb12⟩
    have B12 := Lib.hid (below_keep hb12 B11.out)
    have X12 := Lib.hid (X11.out.keep hb12)
    have S12 := Lib.hid (S11.out.grown (below_grown (row := none) hb12) (by simp))
    have T12 := Lib.hid (T11.out.keep hb12)
    clear hb12 B11 X11 S11 T11
    go_wp2_with (fail)
    refine (next_any (w.heap.size + 1) A n cap _ zs 3 W12 S12.out (hs.out.keep B12.out) hn (by decide) (by decide)).mono ?_
    rintro e W13 ⟨v8, k8, rfl, v8a, v8b, S13, g13⟩
    have B13 := Lib.hid (B12.out.grown g13 B12.out.size (fun k e => by cases e; omega))
    have X13 := Lib.hid (X12.out.grown g13 (by simp))
    replace S13 := Lib.hid S13
    have T13 := Lib.hid (T12.out.grown g13 (by simp; omega))
    clear g13 B12 X12 S12 T12
    go_wp2_with (fail)
    refine (next_any (w.heap.size + 1) A n cap _ zs 2 W13 S13.out (hs.out.keep B13.out) hn (by decide) (by decide)).mono ?_
    rintro e W14 ⟨v9, k9, rfl, v9a, v9b, S14, g14⟩
    have B14 := Lib.hid (B13.out.grown g14 B13.out.size (fun k e => by cases e; omega))
    have X14 := Lib.hid (X13.out.grown g14 (by simp))
    replace S14 := Lib.hid S14
    have T14 := Lib.hid (T13.out.grown g14 (by simp; omega))
    clear g14 B13 X13 S13 T13
    have q0 := T14.out.c 0 _ rfl
    have q1 := T14.out.c 1 _ rfl
    have q2 := T14.out.c 2 _ rfl
    have q3 := T14.out.c 3 _ rfl
    have q4 := T14.out.c 4 _ rfl
    have q5 := T14.out.c 5 _ rfl
    have qf := T14.out.fz
    have ql := T14.out.lt
    have X := X14.out
    have x0 := X.c 0 _ rfl
    have x1 := X.c 1 _ rfl
    have x2 := X.c 2 _ rfl
    have x3 := X.c 3 _ rfl
    have x4 := X.c 4 _ rfl
    have x5 := X.c 5 _ rfl
    have xf := X.fz
    have xl := X.lt
    have nRg : ¬ w.heap.size = g := by omega
    have nRg2 : ¬ g = w.heap.size := by omega
    clear X S14
    go_wp2_with (fail)
    refine bodyPost_ret (v := (S7.Au.mk (nn 39) (nn 39) (nn 39) (4294967295 - v9) v2 (4294967295 - v8)).val) ?_ rfl ?_
    · simp [results, Try.results10, go_sem, S7.Au.val, S7.Au.cells, x0, x1, x2, x3, x4, x5]
    · refine ⟨_, rfl, ⟨nn39_ok7.1, nn39_ok7.2.1, nn39_ok7.2.2, by show 0 ≤ 4294967295 - v9 ∧ 4294967295 - v9 ≤ 4294967295; omega, by show 0 ≤ v2 ∧ v2 ≤ 199; omega, by show 0 ≤ 4294967295 - v8 ∧ 4294967295 - v8 ≤ 4294967295; omega⟩, ?_⟩
      repeat (first
        | (with_reducible exact B14.out)
        | (with_reducible refine Below.setCell ?_ ?_ _; rotate_left; focus (first | (simp; done) | (simp; omega))))

end Go.Proofs.Ytihacmonohjmaaa
