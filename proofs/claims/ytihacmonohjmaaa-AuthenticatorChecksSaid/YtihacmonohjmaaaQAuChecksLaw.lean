/-
  The law AuthenticatorChecks: which authenticators are valid, or the error.
-/
import Derived.Test.YtihacmonohjmaaaQAuH
import Derived.Test.YtihacmonohjmaaaQGrow
import Derived.Deep.RegionHeld3
import Derived.IntWalk
import Derived.Deep.DeepCutAuto
namespace Go.Proofs.Ytihacmonohjmaaa
open Go.RowKit

theorem AuAt.grown {w w' : World} {g : Nat} {t : S7.Au} {row : Option Nat} (h : AuAt w g t) (hg : w.grownBy w' row) (hne : some g ≠ row) : AuAt w' g t :=
  ⟨hg.cell h.c0 hne, hg.cell h.c1 hne, hg.cell h.c2 hne, hg.cell h.c3 hne, hg.cell h.c4 hne, hg.cell h.c5 hne⟩
def auL (t : S7.Au) : List Value := [.string t.a, .string t.b, .string t.c, .int .i64 t.ck, .int .i64 t.ti, .int .i64 t.tm]
theorem AuAt.of {w : World} {g : Nat} {t : S7.Au} (h : BoxAt w g (auL t)) : AuAt w g t := ⟨h.c 0 _ rfl, h.c 1 _ rfl, h.c 2 _ rfl, h.c 3 _ rfl, h.c 4 _ rfl, h.c 5 _ rfl⟩

set_option maxRecDepth 100000 in
set_option maxHeartbeats 6400000 in
theorem checksLaw7_walk (t : S7.Au) (LA : Option Addr) (ln lcap : Nat) (ls : List Int) (x n small : Int) (s : ByteArray) (w : World) (f : t.Fit) (hL : Sl w LA ln lcap ls) (x0 : 0 ≤ x) (x1 : x ≤ 255) (n0 : -9223372036854775808 ≤ n) (n1 : n ≤ 9223372036854775807) (s0 : 0 ≤ small) (s1 : small ≤ 255) (hs : s.size ≤ maxLen) :
    Calls Try.prog 3 #[t.val, .slice LA ln lcap, .int .u8 x, .int .i64 n, .int .u8 small, .string s] w fun e w' => e = .returned (.bool true) ∧ Below w.heap.size w w' := by
  have Bw := Lib.hid (show Below w.heap.size w (w.alloc (.cells t.cells 25)) from (Below.refl _ _).alloc (Nat.le_refl _) _)
  have R0 := Lib.hid (AuAt.new w t 25)
  have LG := Lib.hid (fun W => long7_any t f W)
  have hmax := hL.max
  unfold maxLen at hmax
  have hL0 := Lib.hid (hL.keep Bw.out)
  have hs2 : s.size ≤ 9223372036854775807 := hs
  unfold S7.Au.val S7.Au.cells at LG
  unfold S7.Au.val S7.Au.cells
  unfold S7.Au.cells at Bw R0 hL0
  go_enter Try.func3, Try.ntmps3
  go_wp2_with (fail)
  refine (awake7_any _).mono ?_
  rintro e w1 ⟨rfl, hb1⟩
  have R1 := Lib.hid (R0.out.keep hb1)
  obtain ⟨x0, x1, x2, x3, x4, x5⟩ := R0.out.keep hb1
  have B1 := Lib.hid (below_keep hb1 Bw.out)
  clear hb1 R0
  go_wp2_with (fail)
  clear x0 x1 x2 x3 x4 x5
  refine (LG.out _).mono ?_
  rintro e w2 ⟨q, rfl, hb2⟩
  have R2 := Lib.hid (R1.out.keep hb2)
  have B2 := Lib.hid (below_keep hb2 B1.out)
  clear hb2 R1 B1
  have ways : q = true ∨ q = false ∧ 100 < (s.size : Int) ∨ q = false ∧ (s.size : Int) ≤ 100 ∧ 40 < (ln : Int) ∨ q = false ∧ (s.size : Int) ≤ 100 ∧ (ln : Int) ≤ 40 := by
    rcases q
    · rcases Int.lt_or_le 100 (s.size : Int) with h | h
      · exact .inr (.inl ⟨rfl, h⟩)
      · rcases Int.lt_or_le 40 (ln : Int) with g | g
        · exact .inr (.inr (.inl ⟨rfl, h, g⟩))
        · exact .inr (.inr (.inr ⟨rfl, h, g⟩))
    · exact .inl rfl
  rcases ways with rfl | ⟨rfl, k1⟩ | ⟨rfl, k1, k2⟩ | ⟨rfl, k1, k2⟩
  · go_wp2_with (fail)
    go_ret
    exact ⟨rfl, B2.out⟩
  · go_wp2_with (fail)
    go_ret
    exact ⟨rfl, B2.out⟩
  · go_wp2_with (fail)
    go_ret
    exact ⟨rfl, B2.out⟩
  · go_wp2_with (fail)
    have hL2 := Lib.hid (hL.keep B2.out)
    refine (authData_any LA ln lcap ls _ hL2.out (by omega)).mono ?_
    rintro e w3 ⟨u, rfl, ou, hb3⟩
    have R3 := Lib.hid (R2.out.keep hb3)
    have B3 := Lib.hid (below_keep hb3 B2.out)
    have hw3 : w.heap.size < w3.heap.size := cell_lt R3.out.c0
    clear hb3 R2 B2 hL2
    have fu := Lib.hid ou.fit
    have cu := Lib.hid ou.chk
    clear ou
    have f1 := IntWalk.i64_in small (by omega)
    have f2 : small.tmod 6 = small % 6 := Int.tmod_eq_emod_of_nonneg s0
    have U3 : AuAt ((w3.alloc (.cells u.cells 25)).alloc (.cells u.cells 25)) w3.heap.size u := (AuAt.new w3 u 25).keep ((Below.refl _ _).alloc (Nat.le_refl _) _)
    have X3 : BoxAt ((w3.alloc (.cells u.cells 25)).alloc (.cells u.cells 25)) (w3.heap.size + 1) (auL u) := by
      have h := BoxAt.new (w3.alloc (.cells u.cells 25)) (auL u) 25
      rwa [show (w3.alloc (.cells u.cells 25)).heap.size = w3.heap.size + 1 by simp] at h
    have Bu : Below w3.heap.size w3 ((w3.alloc (.cells u.cells 25)).alloc (.cells u.cells 25)) := ((Below.refl _ _).alloc (Nat.le_refl _) _).alloc (by simp) _
    unfold S7.Au.cells at U3 Bu X3
    replace U3 := Lib.hid U3
    replace X3 := Lib.hid X3
    replace Bu := Lib.hid Bu
    unfold S7.Au.val S7.Au.cells
    go_upto_region 7 with (fail)
    go_cut [15] (fun m wx => ∃ m' : Int, m = .int .i64 m' ∧ -9223372036854775808 ≤ m' ∧ m' ≤ 9223372036854775807 ∧ AuAt wx w3.heap.size u ∧ BoxAt wx (w3.heap.size + 1) (auL u) ∧ Below w3.heap.size w3 wx)
    case first =>
      have c6 : small % 6 = 0 ∨ small % 6 = 1 ∨ small % 6 = 2 ∨ small % 6 = 3 ∨ small % 6 = 4 ∨ small % 6 = 5 := by omega
      rcases c6 with c | c | c | c | c | c
      all_goals
        go_wp2_with (fail)
        go_meet
        refine ⟨_, rfl, by omega, by omega, U3.out.keep ((Below.refl _ _).alloc (Nat.le_refl _) _), X3.out.keep ((Below.refl _ _).alloc (Nat.le_refl _) _), below_keep ((Below.refl _ _).alloc (Nat.le_refl _) _) Bu.out⟩
    case rest =>
      obtain ⟨m, rfl, m0, m1, U4, X4, Bc⟩ := hcut
      obtain ⟨w4, hw4⟩ : ∃ w4, w4 = wc := ⟨_, rfl⟩
      subst hw4
      have B4 := Lib.hid (below_keep Bc B3.out)
      have R4 := Lib.hid (R3.out.keep Bc)
      replace U4 := Lib.hid U4
      replace X4 := Lib.hid X4
      clear Bc Bu U3 X3 B3 R3 f1 f2 k1 k2
      have c5 : x % 5 = 0 ∨ x % 5 = 1 ∨ x % 5 = 2 ∨ x % 5 = 3 ∨ x % 5 = 4 := by omega
      rcases c5 with c | c | c | c | c
      · have x0 := X4.out.c 0 _ rfl
        have x1 := X4.out.c 1 _ rfl
        have x2 := X4.out.c 2 _ rfl
        have x3 := X4.out.c 3 _ rfl
        have x4 := X4.out.c 4 _ rfl
        have x5 := X4.out.c 5 _ rfl
        have xf := X4.out.fz
        have xl := X4.out.lt
        go_wp2_with (fail)
        clear x0 x1 x2 x3 x4 x5 xf xl
        obtain ⟨v, V5, fv⟩ : ∃ v : S7.Au, AuAt (w4.setCell ⟨w3.heap.size + 1, 1, none⟩ (.string s)) (w3.heap.size + 1) v ∧ v.Fit := ⟨⟨u.a, s, u.c, u.ck, u.ti, u.tm⟩, AuAt.of (X4.out.set 1 (.string s) (by simp [auL])), ⟨fu.out.a, hs, fu.out.c, fu.out.ck, fu.out.ti, fu.out.tm⟩⟩
        have U6 := U4.out.grown (grown_set w4 ⟨w3.heap.size + 1, 1, none⟩ (.string s)) (by simp)
        have R6 := R4.out.grown (grown_set w4 ⟨w3.heap.size + 1, 1, none⟩ (.string s)) (by simp; omega)
        have B6 : Below w.heap.size w (w4.setCell ⟨w3.heap.size + 1, 1, none⟩ (.string s)) := B4.out.setCell (by simp; omega) _
        generalize (w4.setCell ⟨w3.heap.size + 1, 1, none⟩ (.string s)) = w6 at V5 U6 R6 B6 ⊢
        clear U4 X4 R4 B4
        replace B6 := Lib.hid B6
        replace R6 := Lib.hid R6
        replace U6 := Lib.hid U6
        replace V5 := Lib.hid V5
        have CT := Lib.hid (fun W => acheck_any t f W)
        have RT := Lib.hid (fun W => r7check_any t f W)
        have CU := Lib.hid (fun W => acheck_any u fu.out W)
        have CV := Lib.hid (fun W => acheck_any v fv W)
        have RV := Lib.hid (fun W => r7check_any v fv W)
        unfold S7.Au.val S7.Au.cells at CT RT CU CV RV
        have cu2 : (S7.chkE u == 0) = true := by rw [cu.out]; rfl
        refine wp_region_held_drew (S := (fun W => Below w6.heap.size w6 W ∧ AuAt W w.heap.size t ∧ AuAt W w3.heap.size u ∧ AuAt W (w3.heap.size + 1) v)) (by kernel_rfl) ⟨(Below.refl _ _).drew, R6.out.drew, U6.out.drew, V5.out.drew⟩ (fun hS => ?_)
        clear R6 U6 V5
        refine' wpAnyH_take (i := 0) (v := ?v0c1) rfl (by kernel_rfl) (by kernel_rfl) (by kernel_rfl) (fun _ _ _ h => h) (Or.inl ⟨by kernel_rfl, fun W hW => ?y0c1⟩) hS ?r0c1
        case y0c1 => (obtain ⟨x0, x1, x2, x3, x4, x5⟩ := hW.2.2.1; go_simp; first | done | with_reducible rfl | (rw [if_pos (by omega)]))
        refine wpAnyH_ready (rs := [1]) (by kernel_rfl) (by simp) ?_
        refine AllReadyH.cons rfl (fun K hK => ?_) AllReadyH.nil
        go_simp
        refine (CU.out _).mono ?_
        rintro e w7 ⟨rfl, hb⟩
        go_wp2_with (fail)
        refine hK.out _ _ ⟨below_keep hb hS.1, hS.2.1.keep hb, hS.2.2.1.keep hb, hS.2.2.2.keep hb⟩ (fun hS2 => ?_)
        clear hK K hb hS
        have hS := hS2
        clear hS2
        refine' wpAnyH_take (i := 2) (v := ?v2c1) rfl (by kernel_rfl) (by kernel_rfl) (by kernel_rfl) (fun _ _ _ h => h) (Or.inl ⟨by kernel_rfl, fun W hW => ?y2c1⟩) hS ?r2c1
        case y2c1 => (go_simp; first | done | with_reducible rfl | (rw [if_pos (by omega)]))
        refine' wpAnyH_take (i := 3) (v := ?v3c1) rfl (by kernel_rfl) (by kernel_rfl) (by kernel_rfl) (fun _ _ _ h => h) (Or.inl ⟨by kernel_rfl, fun W hW => ?y3c1⟩) hS ?r3c1
        case y3c1 => (go_simp; first | done | with_reducible rfl | (rw [if_pos (by omega)]))
        refine' wpAnyH_take (i := 4) (v := ?v4c1) rfl (by kernel_rfl) (by kernel_rfl) (by kernel_rfl) (fun _ _ _ h => h) (Or.inl ⟨by kernel_rfl, fun W hW => ?y4c1⟩) hS ?r4c1
        case y4c1 => (obtain ⟨x0, x1, x2, x3, x4, x5⟩ := hW.2.1; go_simp; first | done | with_reducible rfl | (rw [if_pos (by omega)]))
        refine' wpAnyH_take (i := 6) (v := ?v6c1) rfl (by kernel_rfl) (by kernel_rfl) (by kernel_rfl) (fun _ _ _ h => h) (Or.inl ⟨by kernel_rfl, fun W hW => ?y6c1⟩) hS ?r6c1
        case y6c1 => (obtain ⟨x0, x1, x2, x3, x4, x5⟩ := hW.2.1; go_simp; first | done | with_reducible rfl | (rw [if_pos (by omega)]))
        refine wpAnyH_ready (rs := [5]) (by kernel_rfl) (by simp) ?_
        refine AllReadyH.cons rfl (fun K hK => ?_) AllReadyH.nil
        go_simp
        refine (CT.out _).mono ?_
        rintro e w8 ⟨rfl, hb⟩
        go_wp2_with (fail)
        refine hK.out _ _ ⟨below_keep hb hS.1, hS.2.1.keep hb, hS.2.2.1.keep hb, hS.2.2.2.keep hb⟩ (fun hS2 => ?_)
        clear hK K hb hS
        have hS := hS2
        clear hS2
        refine wpAnyH_ready (rs := [7]) (by kernel_rfl) (by simp) ?_
        refine AllReadyH.cons rfl (fun K hK => ?_) AllReadyH.nil
        go_simp
        refine (RT.out _).mono ?_
        rintro e w9 ⟨rfl, hb⟩
        go_wp2_with (fail)
        refine hK.out _ _ ⟨below_keep hb hS.1, hS.2.1.keep hb, hS.2.2.1.keep hb, hS.2.2.2.keep hb⟩ (fun hS2 => ?_)
        clear hK K hb hS
        have hS := hS2
        clear hS2
        refine' wpAnyH_take (i := 8) (v := ?v8c1) rfl (by kernel_rfl) (by kernel_rfl) (by kernel_rfl) (fun _ _ _ h => h) (Or.inl ⟨by kernel_rfl, fun W hW => ?y8c1⟩) hS ?r8c1
        case y8c1 => (go_simp; first | done | with_reducible rfl | (rw [if_pos (by omega)]))
        refine' wpAnyH_take (i := 9) (v := ?v9c1) rfl (by kernel_rfl) (by kernel_rfl) (by kernel_rfl) (fun _ _ _ h => h) (Or.inl ⟨by kernel_rfl, fun W hW => ?y9c1⟩) hS ?r9c1
        case y9c1 => (go_simp; first | done | with_reducible rfl | (rw [if_pos (by omega)]))
        refine' wpAnyH_take (i := 10) (v := ?v10c1) rfl (by kernel_rfl) (by kernel_rfl) (by kernel_rfl) (fun _ _ _ h => h) (Or.inl ⟨by kernel_rfl, fun W hW => ?y10c1⟩) hS ?r10c1
        case y10c1 => (go_simp; first | done | with_reducible rfl | (rw [if_pos (by omega)]))
        refine' wpAnyH_take (i := 11) (v := ?v11c1) rfl (by kernel_rfl) (by kernel_rfl) (by kernel_rfl) (fun _ _ _ h => h) (Or.inl ⟨by kernel_rfl, fun W hW => ?y11c1⟩) hS ?r11c1
        case y11c1 => (obtain ⟨x0, x1, x2, x3, x4, x5⟩ := hW.2.2.2; go_simp; first | done | with_reducible rfl | (rw [if_pos (by omega)]))
        refine' wpAnyH_take (i := 13) (v := ?v13c1) rfl (by kernel_rfl) (by kernel_rfl) (by kernel_rfl) (fun _ _ _ h => h) (Or.inl ⟨by kernel_rfl, fun W hW => ?y13c1⟩) hS ?r13c1
        case y13c1 => (obtain ⟨x0, x1, x2, x3, x4, x5⟩ := hW.2.2.2; go_simp; first | done | with_reducible rfl | (rw [if_pos (by omega)]))
        refine wpAnyH_ready (rs := [12]) (by kernel_rfl) (by simp) ?_
        refine AllReadyH.cons rfl (fun K hK => ?_) AllReadyH.nil
        go_simp
        refine (CV.out _).mono ?_
        rintro e w10 ⟨rfl, hb⟩
        go_wp2_with (fail)
        refine hK.out _ _ ⟨below_keep hb hS.1, hS.2.1.keep hb, hS.2.2.1.keep hb, hS.2.2.2.keep hb⟩ (fun hS2 => ?_)
        clear hK K hb hS
        have hS := hS2
        clear hS2
        refine wpAnyH_ready (rs := [14]) (by kernel_rfl) (by simp) ?_
        refine AllReadyH.cons rfl (fun K hK => ?_) AllReadyH.nil
        go_simp
        refine (RV.out _).mono ?_
        rintro e w11 ⟨rfl, hb⟩
        go_wp2_with (fail)
        refine hK.out _ _ ⟨below_keep hb hS.1, hS.2.1.keep hb, hS.2.2.1.keep hb, hS.2.2.2.keep hb⟩ (fun hS2 => ?_)
        clear hK K hb hS
        have hS := hS2
        clear hS2
        refine' wpAnyH_take (i := 15) (v := ?v15c1) rfl (by kernel_rfl) (by kernel_rfl) (by kernel_rfl) (fun _ _ _ h => h) (Or.inl ⟨by kernel_rfl, fun W hW => ?y15c1⟩) hS ?r15c1
        case y15c1 => (go_simp; first | done | with_reducible rfl | (rw [if_pos (by omega)]))
        refine' wpAnyH_take (i := 16) (v := ?v16c1) rfl (by kernel_rfl) (by kernel_rfl) (by kernel_rfl) (fun _ _ _ h => h) (Or.inl ⟨by kernel_rfl, fun W hW => ?y16c1⟩) hS ?r16c1
        case y16c1 => (go_simp; first | done | with_reducible rfl | (rw [if_pos (by omega)]))
        refine' wpAnyH_take (i := 17) (v := ?v17c1) rfl (by kernel_rfl) (by kernel_rfl) (by kernel_rfl) (fun _ _ _ h => h) (Or.inl ⟨by kernel_rfl, fun W hW => ?y17c1⟩) hS ?r17c1
        case y17c1 => (go_simp; first | done | with_reducible rfl | (rw [if_pos (by omega)]))
        refine wpAnyH_done (by kernel_rfl) ?_ _
        have BF := below_keep hS.1 B6.out
        clear hS
        go_wp2_with (fail)
        go_ret
        exact ⟨ret_bool (by simp), BF⟩

      · have x0 := X4.out.c 0 _ rfl
        have x1 := X4.out.c 1 _ rfl
        have x2 := X4.out.c 2 _ rfl
        have x3 := X4.out.c 3 _ rfl
        have x4 := X4.out.c 4 _ rfl
        have x5 := X4.out.c 5 _ rfl
        have xf := X4.out.fz
        have xl := X4.out.lt
        go_wp2_with (fail)
        clear x0 x1 x2 x3 x4 x5 xf xl
        obtain ⟨v, V5, fv⟩ : ∃ v : S7.Au, AuAt (w4.setCell ⟨w3.heap.size + 1, 3, none⟩ (.int .i64 m)) (w3.heap.size + 1) v ∧ v.Fit := ⟨⟨u.a, u.b, u.c, m, u.ti, u.tm⟩, AuAt.of (X4.out.set 3 (.int .i64 m) (by simp [auL])), ⟨fu.out.a, fu.out.b, fu.out.c, ⟨m0, m1⟩, fu.out.ti, fu.out.tm⟩⟩
        have U6 := U4.out.grown (grown_set w4 ⟨w3.heap.size + 1, 3, none⟩ (.int .i64 m)) (by simp)
        have R6 := R4.out.grown (grown_set w4 ⟨w3.heap.size + 1, 3, none⟩ (.int .i64 m)) (by simp; omega)
        have B6 : Below w.heap.size w (w4.setCell ⟨w3.heap.size + 1, 3, none⟩ (.int .i64 m)) := B4.out.setCell (by simp; omega) _
        generalize (w4.setCell ⟨w3.heap.size + 1, 3, none⟩ (.int .i64 m)) = w6 at V5 U6 R6 B6 ⊢
        clear U4 X4 R4 B4
        replace B6 := Lib.hid B6
        replace R6 := Lib.hid R6
        replace U6 := Lib.hid U6
        replace V5 := Lib.hid V5
        have CT := Lib.hid (fun W => acheck_any t f W)
        have RT := Lib.hid (fun W => r7check_any t f W)
        have CU := Lib.hid (fun W => acheck_any u fu.out W)
        have CV := Lib.hid (fun W => acheck_any v fv W)
        have RV := Lib.hid (fun W => r7check_any v fv W)
        unfold S7.Au.val S7.Au.cells at CT RT CU CV RV
        have cu2 : (S7.chkE u == 0) = true := by rw [cu.out]; rfl
        refine wp_region_held_drew (S := (fun W => Below w6.heap.size w6 W ∧ AuAt W w.heap.size t ∧ AuAt W w3.heap.size u ∧ AuAt W (w3.heap.size + 1) v)) (by kernel_rfl) ⟨(Below.refl _ _).drew, R6.out.drew, U6.out.drew, V5.out.drew⟩ (fun hS => ?_)
        clear R6 U6 V5
        refine' wpAnyH_take (i := 0) (v := ?v0c2) rfl (by kernel_rfl) (by kernel_rfl) (by kernel_rfl) (fun _ _ _ h => h) (Or.inl ⟨by kernel_rfl, fun W hW => ?y0c2⟩) hS ?r0c2
        case y0c2 => (obtain ⟨x0, x1, x2, x3, x4, x5⟩ := hW.2.2.1; go_simp; first | done | with_reducible rfl | (rw [if_pos (by omega)]))
        refine wpAnyH_ready (rs := [1]) (by kernel_rfl) (by simp) ?_
        refine AllReadyH.cons rfl (fun K hK => ?_) AllReadyH.nil
        go_simp
        refine (CU.out _).mono ?_
        rintro e w7 ⟨rfl, hb⟩
        go_wp2_with (fail)
        refine hK.out _ _ ⟨below_keep hb hS.1, hS.2.1.keep hb, hS.2.2.1.keep hb, hS.2.2.2.keep hb⟩ (fun hS2 => ?_)
        clear hK K hb hS
        have hS := hS2
        clear hS2
        refine' wpAnyH_take (i := 2) (v := ?v2c2) rfl (by kernel_rfl) (by kernel_rfl) (by kernel_rfl) (fun _ _ _ h => h) (Or.inl ⟨by kernel_rfl, fun W hW => ?y2c2⟩) hS ?r2c2
        case y2c2 => (go_simp; first | done | with_reducible rfl | (rw [if_pos (by omega)]))
        refine' wpAnyH_take (i := 3) (v := ?v3c2) rfl (by kernel_rfl) (by kernel_rfl) (by kernel_rfl) (fun _ _ _ h => h) (Or.inl ⟨by kernel_rfl, fun W hW => ?y3c2⟩) hS ?r3c2
        case y3c2 => (go_simp; first | done | with_reducible rfl | (rw [if_pos (by omega)]))
        refine' wpAnyH_take (i := 4) (v := ?v4c2) rfl (by kernel_rfl) (by kernel_rfl) (by kernel_rfl) (fun _ _ _ h => h) (Or.inl ⟨by kernel_rfl, fun W hW => ?y4c2⟩) hS ?r4c2
        case y4c2 => (obtain ⟨x0, x1, x2, x3, x4, x5⟩ := hW.2.1; go_simp; first | done | with_reducible rfl | (rw [if_pos (by omega)]))
        refine' wpAnyH_take (i := 6) (v := ?v6c2) rfl (by kernel_rfl) (by kernel_rfl) (by kernel_rfl) (fun _ _ _ h => h) (Or.inl ⟨by kernel_rfl, fun W hW => ?y6c2⟩) hS ?r6c2
        case y6c2 => (obtain ⟨x0, x1, x2, x3, x4, x5⟩ := hW.2.1; go_simp; first | done | with_reducible rfl | (rw [if_pos (by omega)]))
        refine wpAnyH_ready (rs := [5]) (by kernel_rfl) (by simp) ?_
        refine AllReadyH.cons rfl (fun K hK => ?_) AllReadyH.nil
        go_simp
        refine (CT.out _).mono ?_
        rintro e w8 ⟨rfl, hb⟩
        go_wp2_with (fail)
        refine hK.out _ _ ⟨below_keep hb hS.1, hS.2.1.keep hb, hS.2.2.1.keep hb, hS.2.2.2.keep hb⟩ (fun hS2 => ?_)
        clear hK K hb hS
        have hS := hS2
        clear hS2
        refine wpAnyH_ready (rs := [7]) (by kernel_rfl) (by simp) ?_
        refine AllReadyH.cons rfl (fun K hK => ?_) AllReadyH.nil
        go_simp
        refine (RT.out _).mono ?_
        rintro e w9 ⟨rfl, hb⟩
        go_wp2_with (fail)
        refine hK.out _ _ ⟨below_keep hb hS.1, hS.2.1.keep hb, hS.2.2.1.keep hb, hS.2.2.2.keep hb⟩ (fun hS2 => ?_)
        clear hK K hb hS
        have hS := hS2
        clear hS2
        refine' wpAnyH_take (i := 8) (v := ?v8c2) rfl (by kernel_rfl) (by kernel_rfl) (by kernel_rfl) (fun _ _ _ h => h) (Or.inl ⟨by kernel_rfl, fun W hW => ?y8c2⟩) hS ?r8c2
        case y8c2 => (go_simp; first | done | with_reducible rfl | (rw [if_pos (by omega)]))
        refine' wpAnyH_take (i := 9) (v := ?v9c2) rfl (by kernel_rfl) (by kernel_rfl) (by kernel_rfl) (fun _ _ _ h => h) (Or.inl ⟨by kernel_rfl, fun W hW => ?y9c2⟩) hS ?r9c2
        case y9c2 => (go_simp; first | done | with_reducible rfl | (rw [if_pos (by omega)]))
        refine' wpAnyH_take (i := 10) (v := ?v10c2) rfl (by kernel_rfl) (by kernel_rfl) (by kernel_rfl) (fun _ _ _ h => h) (Or.inl ⟨by kernel_rfl, fun W hW => ?y10c2⟩) hS ?r10c2
        case y10c2 => (go_simp; first | done | with_reducible rfl | (rw [if_pos (by omega)]))
        refine' wpAnyH_take (i := 11) (v := ?v11c2) rfl (by kernel_rfl) (by kernel_rfl) (by kernel_rfl) (fun _ _ _ h => h) (Or.inl ⟨by kernel_rfl, fun W hW => ?y11c2⟩) hS ?r11c2
        case y11c2 => (obtain ⟨x0, x1, x2, x3, x4, x5⟩ := hW.2.2.2; go_simp; first | done | with_reducible rfl | (rw [if_pos (by omega)]))
        refine' wpAnyH_take (i := 13) (v := ?v13c2) rfl (by kernel_rfl) (by kernel_rfl) (by kernel_rfl) (fun _ _ _ h => h) (Or.inl ⟨by kernel_rfl, fun W hW => ?y13c2⟩) hS ?r13c2
        case y13c2 => (obtain ⟨x0, x1, x2, x3, x4, x5⟩ := hW.2.2.2; go_simp; first | done | with_reducible rfl | (rw [if_pos (by omega)]))
        refine wpAnyH_ready (rs := [12]) (by kernel_rfl) (by simp) ?_
        refine AllReadyH.cons rfl (fun K hK => ?_) AllReadyH.nil
        go_simp
        refine (CV.out _).mono ?_
        rintro e w10 ⟨rfl, hb⟩
        go_wp2_with (fail)
        refine hK.out _ _ ⟨below_keep hb hS.1, hS.2.1.keep hb, hS.2.2.1.keep hb, hS.2.2.2.keep hb⟩ (fun hS2 => ?_)
        clear hK K hb hS
        have hS := hS2
        clear hS2
        refine wpAnyH_ready (rs := [14]) (by kernel_rfl) (by simp) ?_
        refine AllReadyH.cons rfl (fun K hK => ?_) AllReadyH.nil
        go_simp
        refine (RV.out _).mono ?_
        rintro e w11 ⟨rfl, hb⟩
        go_wp2_with (fail)
        refine hK.out _ _ ⟨below_keep hb hS.1, hS.2.1.keep hb, hS.2.2.1.keep hb, hS.2.2.2.keep hb⟩ (fun hS2 => ?_)
        clear hK K hb hS
        have hS := hS2
        clear hS2
        refine' wpAnyH_take (i := 15) (v := ?v15c2) rfl (by kernel_rfl) (by kernel_rfl) (by kernel_rfl) (fun _ _ _ h => h) (Or.inl ⟨by kernel_rfl, fun W hW => ?y15c2⟩) hS ?r15c2
        case y15c2 => (go_simp; first | done | with_reducible rfl | (rw [if_pos (by omega)]))
        refine' wpAnyH_take (i := 16) (v := ?v16c2) rfl (by kernel_rfl) (by kernel_rfl) (by kernel_rfl) (fun _ _ _ h => h) (Or.inl ⟨by kernel_rfl, fun W hW => ?y16c2⟩) hS ?r16c2
        case y16c2 => (go_simp; first | done | with_reducible rfl | (rw [if_pos (by omega)]))
        refine' wpAnyH_take (i := 17) (v := ?v17c2) rfl (by kernel_rfl) (by kernel_rfl) (by kernel_rfl) (fun _ _ _ h => h) (Or.inl ⟨by kernel_rfl, fun W hW => ?y17c2⟩) hS ?r17c2
        case y17c2 => (go_simp; first | done | with_reducible rfl | (rw [if_pos (by omega)]))
        refine wpAnyH_done (by kernel_rfl) ?_ _
        have BF := below_keep hS.1 B6.out
        clear hS
        go_wp2_with (fail)
        go_ret
        exact ⟨ret_bool (by simp), BF⟩

      · have x0 := X4.out.c 0 _ rfl
        have x1 := X4.out.c 1 _ rfl
        have x2 := X4.out.c 2 _ rfl
        have x3 := X4.out.c 3 _ rfl
        have x4 := X4.out.c 4 _ rfl
        have x5 := X4.out.c 5 _ rfl
        have xf := X4.out.fz
        have xl := X4.out.lt
        go_wp2_with (fail)
        clear x0 x1 x2 x3 x4 x5 xf xl
        obtain ⟨v, V5, fv⟩ : ∃ v : S7.Au, AuAt (w4.setCell ⟨w3.heap.size + 1, 4, none⟩ (.int .i64 m)) (w3.heap.size + 1) v ∧ v.Fit := ⟨⟨u.a, u.b, u.c, u.ck, m, u.tm⟩, AuAt.of (X4.out.set 4 (.int .i64 m) (by simp [auL])), ⟨fu.out.a, fu.out.b, fu.out.c, fu.out.ck, ⟨m0, m1⟩, fu.out.tm⟩⟩
        have U6 := U4.out.grown (grown_set w4 ⟨w3.heap.size + 1, 4, none⟩ (.int .i64 m)) (by simp)
        have R6 := R4.out.grown (grown_set w4 ⟨w3.heap.size + 1, 4, none⟩ (.int .i64 m)) (by simp; omega)
        have B6 : Below w.heap.size w (w4.setCell ⟨w3.heap.size + 1, 4, none⟩ (.int .i64 m)) := B4.out.setCell (by simp; omega) _
        generalize (w4.setCell ⟨w3.heap.size + 1, 4, none⟩ (.int .i64 m)) = w6 at V5 U6 R6 B6 ⊢
        clear U4 X4 R4 B4
        replace B6 := Lib.hid B6
        replace R6 := Lib.hid R6
        replace U6 := Lib.hid U6
        replace V5 := Lib.hid V5
        have CT := Lib.hid (fun W => acheck_any t f W)
        have RT := Lib.hid (fun W => r7check_any t f W)
        have CU := Lib.hid (fun W => acheck_any u fu.out W)
        have CV := Lib.hid (fun W => acheck_any v fv W)
        have RV := Lib.hid (fun W => r7check_any v fv W)
        unfold S7.Au.val S7.Au.cells at CT RT CU CV RV
        have cu2 : (S7.chkE u == 0) = true := by rw [cu.out]; rfl
        refine wp_region_held_drew (S := (fun W => Below w6.heap.size w6 W ∧ AuAt W w.heap.size t ∧ AuAt W w3.heap.size u ∧ AuAt W (w3.heap.size + 1) v)) (by kernel_rfl) ⟨(Below.refl _ _).drew, R6.out.drew, U6.out.drew, V5.out.drew⟩ (fun hS => ?_)
        clear R6 U6 V5
        refine' wpAnyH_take (i := 0) (v := ?v0c3) rfl (by kernel_rfl) (by kernel_rfl) (by kernel_rfl) (fun _ _ _ h => h) (Or.inl ⟨by kernel_rfl, fun W hW => ?y0c3⟩) hS ?r0c3
        case y0c3 => (obtain ⟨x0, x1, x2, x3, x4, x5⟩ := hW.2.2.1; go_simp; first | done | with_reducible rfl | (rw [if_pos (by omega)]))
        refine wpAnyH_ready (rs := [1]) (by kernel_rfl) (by simp) ?_
        refine AllReadyH.cons rfl (fun K hK => ?_) AllReadyH.nil
        go_simp
        refine (CU.out _).mono ?_
        rintro e w7 ⟨rfl, hb⟩
        go_wp2_with (fail)
        refine hK.out _ _ ⟨below_keep hb hS.1, hS.2.1.keep hb, hS.2.2.1.keep hb, hS.2.2.2.keep hb⟩ (fun hS2 => ?_)
        clear hK K hb hS
        have hS := hS2
        clear hS2
        refine' wpAnyH_take (i := 2) (v := ?v2c3) rfl (by kernel_rfl) (by kernel_rfl) (by kernel_rfl) (fun _ _ _ h => h) (Or.inl ⟨by kernel_rfl, fun W hW => ?y2c3⟩) hS ?r2c3
        case y2c3 => (go_simp; first | done | with_reducible rfl | (rw [if_pos (by omega)]))
        refine' wpAnyH_take (i := 3) (v := ?v3c3) rfl (by kernel_rfl) (by kernel_rfl) (by kernel_rfl) (fun _ _ _ h => h) (Or.inl ⟨by kernel_rfl, fun W hW => ?y3c3⟩) hS ?r3c3
        case y3c3 => (go_simp; first | done | with_reducible rfl | (rw [if_pos (by omega)]))
        refine' wpAnyH_take (i := 4) (v := ?v4c3) rfl (by kernel_rfl) (by kernel_rfl) (by kernel_rfl) (fun _ _ _ h => h) (Or.inl ⟨by kernel_rfl, fun W hW => ?y4c3⟩) hS ?r4c3
        case y4c3 => (obtain ⟨x0, x1, x2, x3, x4, x5⟩ := hW.2.1; go_simp; first | done | with_reducible rfl | (rw [if_pos (by omega)]))
        refine' wpAnyH_take (i := 6) (v := ?v6c3) rfl (by kernel_rfl) (by kernel_rfl) (by kernel_rfl) (fun _ _ _ h => h) (Or.inl ⟨by kernel_rfl, fun W hW => ?y6c3⟩) hS ?r6c3
        case y6c3 => (obtain ⟨x0, x1, x2, x3, x4, x5⟩ := hW.2.1; go_simp; first | done | with_reducible rfl | (rw [if_pos (by omega)]))
        refine wpAnyH_ready (rs := [5]) (by kernel_rfl) (by simp) ?_
        refine AllReadyH.cons rfl (fun K hK => ?_) AllReadyH.nil
        go_simp
        refine (CT.out _).mono ?_
        rintro e w8 ⟨rfl, hb⟩
        go_wp2_with (fail)
        refine hK.out _ _ ⟨below_keep hb hS.1, hS.2.1.keep hb, hS.2.2.1.keep hb, hS.2.2.2.keep hb⟩ (fun hS2 => ?_)
        clear hK K hb hS
        have hS := hS2
        clear hS2
        refine wpAnyH_ready (rs := [7]) (by kernel_rfl) (by simp) ?_
        refine AllReadyH.cons rfl (fun K hK => ?_) AllReadyH.nil
        go_simp
        refine (RT.out _).mono ?_
        rintro e w9 ⟨rfl, hb⟩
        go_wp2_with (fail)
        refine hK.out _ _ ⟨below_keep hb hS.1, hS.2.1.keep hb, hS.2.2.1.keep hb, hS.2.2.2.keep hb⟩ (fun hS2 => ?_)
        clear hK K hb hS
        have hS := hS2
        clear hS2
        refine' wpAnyH_take (i := 8) (v := ?v8c3) rfl (by kernel_rfl) (by kernel_rfl) (by kernel_rfl) (fun _ _ _ h => h) (Or.inl ⟨by kernel_rfl, fun W hW => ?y8c3⟩) hS ?r8c3
        case y8c3 => (go_simp; first | done | with_reducible rfl | (rw [if_pos (by omega)]))
        refine' wpAnyH_take (i := 9) (v := ?v9c3) rfl (by kernel_rfl) (by kernel_rfl) (by kernel_rfl) (fun _ _ _ h => h) (Or.inl ⟨by kernel_rfl, fun W hW => ?y9c3⟩) hS ?r9c3
        case y9c3 => (go_simp; first | done | with_reducible rfl | (rw [if_pos (by omega)]))
        refine' wpAnyH_take (i := 10) (v := ?v10c3) rfl (by kernel_rfl) (by kernel_rfl) (by kernel_rfl) (fun _ _ _ h => h) (Or.inl ⟨by kernel_rfl, fun W hW => ?y10c3⟩) hS ?r10c3
        case y10c3 => (go_simp; first | done | with_reducible rfl | (rw [if_pos (by omega)]))
        refine' wpAnyH_take (i := 11) (v := ?v11c3) rfl (by kernel_rfl) (by kernel_rfl) (by kernel_rfl) (fun _ _ _ h => h) (Or.inl ⟨by kernel_rfl, fun W hW => ?y11c3⟩) hS ?r11c3
        case y11c3 => (obtain ⟨x0, x1, x2, x3, x4, x5⟩ := hW.2.2.2; go_simp; first | done | with_reducible rfl | (rw [if_pos (by omega)]))
        refine' wpAnyH_take (i := 13) (v := ?v13c3) rfl (by kernel_rfl) (by kernel_rfl) (by kernel_rfl) (fun _ _ _ h => h) (Or.inl ⟨by kernel_rfl, fun W hW => ?y13c3⟩) hS ?r13c3
        case y13c3 => (obtain ⟨x0, x1, x2, x3, x4, x5⟩ := hW.2.2.2; go_simp; first | done | with_reducible rfl | (rw [if_pos (by omega)]))
        refine wpAnyH_ready (rs := [12]) (by kernel_rfl) (by simp) ?_
        refine AllReadyH.cons rfl (fun K hK => ?_) AllReadyH.nil
        go_simp
        refine (CV.out _).mono ?_
        rintro e w10 ⟨rfl, hb⟩
        go_wp2_with (fail)
        refine hK.out _ _ ⟨below_keep hb hS.1, hS.2.1.keep hb, hS.2.2.1.keep hb, hS.2.2.2.keep hb⟩ (fun hS2 => ?_)
        clear hK K hb hS
        have hS := hS2
        clear hS2
        refine wpAnyH_ready (rs := [14]) (by kernel_rfl) (by simp) ?_
        refine AllReadyH.cons rfl (fun K hK => ?_) AllReadyH.nil
        go_simp
        refine (RV.out _).mono ?_
        rintro e w11 ⟨rfl, hb⟩
        go_wp2_with (fail)
        refine hK.out _ _ ⟨below_keep hb hS.1, hS.2.1.keep hb, hS.2.2.1.keep hb, hS.2.2.2.keep hb⟩ (fun hS2 => ?_)
        clear hK K hb hS
        have hS := hS2
        clear hS2
        refine' wpAnyH_take (i := 15) (v := ?v15c3) rfl (by kernel_rfl) (by kernel_rfl) (by kernel_rfl) (fun _ _ _ h => h) (Or.inl ⟨by kernel_rfl, fun W hW => ?y15c3⟩) hS ?r15c3
        case y15c3 => (go_simp; first | done | with_reducible rfl | (rw [if_pos (by omega)]))
        refine' wpAnyH_take (i := 16) (v := ?v16c3) rfl (by kernel_rfl) (by kernel_rfl) (by kernel_rfl) (fun _ _ _ h => h) (Or.inl ⟨by kernel_rfl, fun W hW => ?y16c3⟩) hS ?r16c3
        case y16c3 => (go_simp; first | done | with_reducible rfl | (rw [if_pos (by omega)]))
        refine' wpAnyH_take (i := 17) (v := ?v17c3) rfl (by kernel_rfl) (by kernel_rfl) (by kernel_rfl) (fun _ _ _ h => h) (Or.inl ⟨by kernel_rfl, fun W hW => ?y17c3⟩) hS ?r17c3
        case y17c3 => (go_simp; first | done | with_reducible rfl | (rw [if_pos (by omega)]))
        refine wpAnyH_done (by kernel_rfl) ?_ _
        have BF := below_keep hS.1 B6.out
        clear hS
        go_wp2_with (fail)
        go_ret
        exact ⟨ret_bool (by simp), BF⟩

      · have x0 := X4.out.c 0 _ rfl
        have x1 := X4.out.c 1 _ rfl
        have x2 := X4.out.c 2 _ rfl
        have x3 := X4.out.c 3 _ rfl
        have x4 := X4.out.c 4 _ rfl
        have x5 := X4.out.c 5 _ rfl
        have xf := X4.out.fz
        have xl := X4.out.lt
        go_wp2_with (fail)
        clear x0 x1 x2 x3 x4 x5 xf xl
        obtain ⟨v, V5, fv⟩ : ∃ v : S7.Au, AuAt (w4.setCell ⟨w3.heap.size + 1, 5, none⟩ (.int .i64 m)) (w3.heap.size + 1) v ∧ v.Fit := ⟨⟨u.a, u.b, u.c, u.ck, u.ti, m⟩, AuAt.of (X4.out.set 5 (.int .i64 m) (by simp [auL])), ⟨fu.out.a, fu.out.b, fu.out.c, fu.out.ck, fu.out.ti, ⟨m0, m1⟩⟩⟩
        have U6 := U4.out.grown (grown_set w4 ⟨w3.heap.size + 1, 5, none⟩ (.int .i64 m)) (by simp)
        have R6 := R4.out.grown (grown_set w4 ⟨w3.heap.size + 1, 5, none⟩ (.int .i64 m)) (by simp; omega)
        have B6 : Below w.heap.size w (w4.setCell ⟨w3.heap.size + 1, 5, none⟩ (.int .i64 m)) := B4.out.setCell (by simp; omega) _
        generalize (w4.setCell ⟨w3.heap.size + 1, 5, none⟩ (.int .i64 m)) = w6 at V5 U6 R6 B6 ⊢
        clear U4 X4 R4 B4
        replace B6 := Lib.hid B6
        replace R6 := Lib.hid R6
        replace U6 := Lib.hid U6
        replace V5 := Lib.hid V5
        have CT := Lib.hid (fun W => acheck_any t f W)
        have RT := Lib.hid (fun W => r7check_any t f W)
        have CU := Lib.hid (fun W => acheck_any u fu.out W)
        have CV := Lib.hid (fun W => acheck_any v fv W)
        have RV := Lib.hid (fun W => r7check_any v fv W)
        unfold S7.Au.val S7.Au.cells at CT RT CU CV RV
        have cu2 : (S7.chkE u == 0) = true := by rw [cu.out]; rfl
        refine wp_region_held_drew (S := (fun W => Below w6.heap.size w6 W ∧ AuAt W w.heap.size t ∧ AuAt W w3.heap.size u ∧ AuAt W (w3.heap.size + 1) v)) (by kernel_rfl) ⟨(Below.refl _ _).drew, R6.out.drew, U6.out.drew, V5.out.drew⟩ (fun hS => ?_)
        clear R6 U6 V5
        refine' wpAnyH_take (i := 0) (v := ?v0c4) rfl (by kernel_rfl) (by kernel_rfl) (by kernel_rfl) (fun _ _ _ h => h) (Or.inl ⟨by kernel_rfl, fun W hW => ?y0c4⟩) hS ?r0c4
        case y0c4 => (obtain ⟨x0, x1, x2, x3, x4, x5⟩ := hW.2.2.1; go_simp; first | done | with_reducible rfl | (rw [if_pos (by omega)]))
        refine wpAnyH_ready (rs := [1]) (by kernel_rfl) (by simp) ?_
        refine AllReadyH.cons rfl (fun K hK => ?_) AllReadyH.nil
        go_simp
        refine (CU.out _).mono ?_
        rintro e w7 ⟨rfl, hb⟩
        go_wp2_with (fail)
        refine hK.out _ _ ⟨below_keep hb hS.1, hS.2.1.keep hb, hS.2.2.1.keep hb, hS.2.2.2.keep hb⟩ (fun hS2 => ?_)
        clear hK K hb hS
        have hS := hS2
        clear hS2
        refine' wpAnyH_take (i := 2) (v := ?v2c4) rfl (by kernel_rfl) (by kernel_rfl) (by kernel_rfl) (fun _ _ _ h => h) (Or.inl ⟨by kernel_rfl, fun W hW => ?y2c4⟩) hS ?r2c4
        case y2c4 => (go_simp; first | done | with_reducible rfl | (rw [if_pos (by omega)]))
        refine' wpAnyH_take (i := 3) (v := ?v3c4) rfl (by kernel_rfl) (by kernel_rfl) (by kernel_rfl) (fun _ _ _ h => h) (Or.inl ⟨by kernel_rfl, fun W hW => ?y3c4⟩) hS ?r3c4
        case y3c4 => (go_simp; first | done | with_reducible rfl | (rw [if_pos (by omega)]))
        refine' wpAnyH_take (i := 4) (v := ?v4c4) rfl (by kernel_rfl) (by kernel_rfl) (by kernel_rfl) (fun _ _ _ h => h) (Or.inl ⟨by kernel_rfl, fun W hW => ?y4c4⟩) hS ?r4c4
        case y4c4 => (obtain ⟨x0, x1, x2, x3, x4, x5⟩ := hW.2.1; go_simp; first | done | with_reducible rfl | (rw [if_pos (by omega)]))
        refine' wpAnyH_take (i := 6) (v := ?v6c4) rfl (by kernel_rfl) (by kernel_rfl) (by kernel_rfl) (fun _ _ _ h => h) (Or.inl ⟨by kernel_rfl, fun W hW => ?y6c4⟩) hS ?r6c4
        case y6c4 => (obtain ⟨x0, x1, x2, x3, x4, x5⟩ := hW.2.1; go_simp; first | done | with_reducible rfl | (rw [if_pos (by omega)]))
        refine wpAnyH_ready (rs := [5]) (by kernel_rfl) (by simp) ?_
        refine AllReadyH.cons rfl (fun K hK => ?_) AllReadyH.nil
        go_simp
        refine (CT.out _).mono ?_
        rintro e w8 ⟨rfl, hb⟩
        go_wp2_with (fail)
        refine hK.out _ _ ⟨below_keep hb hS.1, hS.2.1.keep hb, hS.2.2.1.keep hb, hS.2.2.2.keep hb⟩ (fun hS2 => ?_)
        clear hK K hb hS
        have hS := hS2
        clear hS2
        refine wpAnyH_ready (rs := [7]) (by kernel_rfl) (by simp) ?_
        refine AllReadyH.cons rfl (fun K hK => ?_) AllReadyH.nil
        go_simp
        refine (RT.out _).mono ?_
        rintro e w9 ⟨rfl, hb⟩
        go_wp2_with (fail)
        refine hK.out _ _ ⟨below_keep hb hS.1, hS.2.1.keep hb, hS.2.2.1.keep hb, hS.2.2.2.keep hb⟩ (fun hS2 => ?_)
        clear hK K hb hS
        have hS := hS2
        clear hS2
        refine' wpAnyH_take (i := 8) (v := ?v8c4) rfl (by kernel_rfl) (by kernel_rfl) (by kernel_rfl) (fun _ _ _ h => h) (Or.inl ⟨by kernel_rfl, fun W hW => ?y8c4⟩) hS ?r8c4
        case y8c4 => (go_simp; first | done | with_reducible rfl | (rw [if_pos (by omega)]))
        refine' wpAnyH_take (i := 9) (v := ?v9c4) rfl (by kernel_rfl) (by kernel_rfl) (by kernel_rfl) (fun _ _ _ h => h) (Or.inl ⟨by kernel_rfl, fun W hW => ?y9c4⟩) hS ?r9c4
        case y9c4 => (go_simp; first | done | with_reducible rfl | (rw [if_pos (by omega)]))
        refine' wpAnyH_take (i := 10) (v := ?v10c4) rfl (by kernel_rfl) (by kernel_rfl) (by kernel_rfl) (fun _ _ _ h => h) (Or.inl ⟨by kernel_rfl, fun W hW => ?y10c4⟩) hS ?r10c4
        case y10c4 => (go_simp; first | done | with_reducible rfl | (rw [if_pos (by omega)]))
        refine' wpAnyH_take (i := 11) (v := ?v11c4) rfl (by kernel_rfl) (by kernel_rfl) (by kernel_rfl) (fun _ _ _ h => h) (Or.inl ⟨by kernel_rfl, fun W hW => ?y11c4⟩) hS ?r11c4
        case y11c4 => (obtain ⟨x0, x1, x2, x3, x4, x5⟩ := hW.2.2.2; go_simp; first | done | with_reducible rfl | (rw [if_pos (by omega)]))
        refine' wpAnyH_take (i := 13) (v := ?v13c4) rfl (by kernel_rfl) (by kernel_rfl) (by kernel_rfl) (fun _ _ _ h => h) (Or.inl ⟨by kernel_rfl, fun W hW => ?y13c4⟩) hS ?r13c4
        case y13c4 => (obtain ⟨x0, x1, x2, x3, x4, x5⟩ := hW.2.2.2; go_simp; first | done | with_reducible rfl | (rw [if_pos (by omega)]))
        refine wpAnyH_ready (rs := [12]) (by kernel_rfl) (by simp) ?_
        refine AllReadyH.cons rfl (fun K hK => ?_) AllReadyH.nil
        go_simp
        refine (CV.out _).mono ?_
        rintro e w10 ⟨rfl, hb⟩
        go_wp2_with (fail)
        refine hK.out _ _ ⟨below_keep hb hS.1, hS.2.1.keep hb, hS.2.2.1.keep hb, hS.2.2.2.keep hb⟩ (fun hS2 => ?_)
        clear hK K hb hS
        have hS := hS2
        clear hS2
        refine wpAnyH_ready (rs := [14]) (by kernel_rfl) (by simp) ?_
        refine AllReadyH.cons rfl (fun K hK => ?_) AllReadyH.nil
        go_simp
        refine (RV.out _).mono ?_
        rintro e w11 ⟨rfl, hb⟩
        go_wp2_with (fail)
        refine hK.out _ _ ⟨below_keep hb hS.1, hS.2.1.keep hb, hS.2.2.1.keep hb, hS.2.2.2.keep hb⟩ (fun hS2 => ?_)
        clear hK K hb hS
        have hS := hS2
        clear hS2
        refine' wpAnyH_take (i := 15) (v := ?v15c4) rfl (by kernel_rfl) (by kernel_rfl) (by kernel_rfl) (fun _ _ _ h => h) (Or.inl ⟨by kernel_rfl, fun W hW => ?y15c4⟩) hS ?r15c4
        case y15c4 => (go_simp; first | done | with_reducible rfl | (rw [if_pos (by omega)]))
        refine' wpAnyH_take (i := 16) (v := ?v16c4) rfl (by kernel_rfl) (by kernel_rfl) (by kernel_rfl) (fun _ _ _ h => h) (Or.inl ⟨by kernel_rfl, fun W hW => ?y16c4⟩) hS ?r16c4
        case y16c4 => (go_simp; first | done | with_reducible rfl | (rw [if_pos (by omega)]))
        refine' wpAnyH_take (i := 17) (v := ?v17c4) rfl (by kernel_rfl) (by kernel_rfl) (by kernel_rfl) (fun _ _ _ h => h) (Or.inl ⟨by kernel_rfl, fun W hW => ?y17c4⟩) hS ?r17c4
        case y17c4 => (go_simp; first | done | with_reducible rfl | (rw [if_pos (by omega)]))
        refine wpAnyH_done (by kernel_rfl) ?_ _
        have BF := below_keep hS.1 B6.out
        clear hS
        go_wp2_with (fail)
        go_ret
        exact ⟨ret_bool (by simp), BF⟩

      · have x0 := X4.out.c 0 _ rfl
        have x1 := X4.out.c 1 _ rfl
        have x2 := X4.out.c 2 _ rfl
        have x3 := X4.out.c 3 _ rfl
        have x4 := X4.out.c 4 _ rfl
        have x5 := X4.out.c 5 _ rfl
        have xf := X4.out.fz
        have xl := X4.out.lt
        go_wp2_with (fail)
        clear x0 x1 x2 x3 x4 x5 xf xl
        obtain ⟨v, V5, fv⟩ : ∃ v : S7.Au, AuAt (w4.setCell ⟨w3.heap.size + 1, 0, none⟩ (.string s)) (w3.heap.size + 1) v ∧ v.Fit := ⟨⟨s, u.b, u.c, u.ck, u.ti, u.tm⟩, AuAt.of (X4.out.set 0 (.string s) (by simp [auL])), ⟨hs, fu.out.b, fu.out.c, fu.out.ck, fu.out.ti, fu.out.tm⟩⟩
        have U6 := U4.out.grown (grown_set w4 ⟨w3.heap.size + 1, 0, none⟩ (.string s)) (by simp)
        have R6 := R4.out.grown (grown_set w4 ⟨w3.heap.size + 1, 0, none⟩ (.string s)) (by simp; omega)
        have B6 : Below w.heap.size w (w4.setCell ⟨w3.heap.size + 1, 0, none⟩ (.string s)) := B4.out.setCell (by simp; omega) _
        generalize (w4.setCell ⟨w3.heap.size + 1, 0, none⟩ (.string s)) = w6 at V5 U6 R6 B6 ⊢
        clear U4 X4 R4 B4
        replace B6 := Lib.hid B6
        replace R6 := Lib.hid R6
        replace U6 := Lib.hid U6
        replace V5 := Lib.hid V5
        have CT := Lib.hid (fun W => acheck_any t f W)
        have RT := Lib.hid (fun W => r7check_any t f W)
        have CU := Lib.hid (fun W => acheck_any u fu.out W)
        have CV := Lib.hid (fun W => acheck_any v fv W)
        have RV := Lib.hid (fun W => r7check_any v fv W)
        unfold S7.Au.val S7.Au.cells at CT RT CU CV RV
        have cu2 : (S7.chkE u == 0) = true := by rw [cu.out]; rfl
        refine wp_region_held_drew (S := (fun W => Below w6.heap.size w6 W ∧ AuAt W w.heap.size t ∧ AuAt W w3.heap.size u ∧ AuAt W (w3.heap.size + 1) v)) (by kernel_rfl) ⟨(Below.refl _ _).drew, R6.out.drew, U6.out.drew, V5.out.drew⟩ (fun hS => ?_)
        clear R6 U6 V5
        refine' wpAnyH_take (i := 0) (v := ?v0c5) rfl (by kernel_rfl) (by kernel_rfl) (by kernel_rfl) (fun _ _ _ h => h) (Or.inl ⟨by kernel_rfl, fun W hW => ?y0c5⟩) hS ?r0c5
        case y0c5 => (obtain ⟨x0, x1, x2, x3, x4, x5⟩ := hW.2.2.1; go_simp; first | done | with_reducible rfl | (rw [if_pos (by omega)]))
        refine wpAnyH_ready (rs := [1]) (by kernel_rfl) (by simp) ?_
        refine AllReadyH.cons rfl (fun K hK => ?_) AllReadyH.nil
        go_simp
        refine (CU.out _).mono ?_
        rintro e w7 ⟨rfl, hb⟩
        go_wp2_with (fail)
        refine hK.out _ _ ⟨below_keep hb hS.1, hS.2.1.keep hb, hS.2.2.1.keep hb, hS.2.2.2.keep hb⟩ (fun hS2 => ?_)
        clear hK K hb hS
        have hS := hS2
        clear hS2
        refine' wpAnyH_take (i := 2) (v := ?v2c5) rfl (by kernel_rfl) (by kernel_rfl) (by kernel_rfl) (fun _ _ _ h => h) (Or.inl ⟨by kernel_rfl, fun W hW => ?y2c5⟩) hS ?r2c5
        case y2c5 => (go_simp; first | done | with_reducible rfl | (rw [if_pos (by omega)]))
        refine' wpAnyH_take (i := 3) (v := ?v3c5) rfl (by kernel_rfl) (by kernel_rfl) (by kernel_rfl) (fun _ _ _ h => h) (Or.inl ⟨by kernel_rfl, fun W hW => ?y3c5⟩) hS ?r3c5
        case y3c5 => (go_simp; first | done | with_reducible rfl | (rw [if_pos (by omega)]))
        refine' wpAnyH_take (i := 4) (v := ?v4c5) rfl (by kernel_rfl) (by kernel_rfl) (by kernel_rfl) (fun _ _ _ h => h) (Or.inl ⟨by kernel_rfl, fun W hW => ?y4c5⟩) hS ?r4c5
        case y4c5 => (obtain ⟨x0, x1, x2, x3, x4, x5⟩ := hW.2.1; go_simp; first | done | with_reducible rfl | (rw [if_pos (by omega)]))
        refine' wpAnyH_take (i := 6) (v := ?v6c5) rfl (by kernel_rfl) (by kernel_rfl) (by kernel_rfl) (fun _ _ _ h => h) (Or.inl ⟨by kernel_rfl, fun W hW => ?y6c5⟩) hS ?r6c5
        case y6c5 => (obtain ⟨x0, x1, x2, x3, x4, x5⟩ := hW.2.1; go_simp; first | done | with_reducible rfl | (rw [if_pos (by omega)]))
        refine wpAnyH_ready (rs := [5]) (by kernel_rfl) (by simp) ?_
        refine AllReadyH.cons rfl (fun K hK => ?_) AllReadyH.nil
        go_simp
        refine (CT.out _).mono ?_
        rintro e w8 ⟨rfl, hb⟩
        go_wp2_with (fail)
        refine hK.out _ _ ⟨below_keep hb hS.1, hS.2.1.keep hb, hS.2.2.1.keep hb, hS.2.2.2.keep hb⟩ (fun hS2 => ?_)
        clear hK K hb hS
        have hS := hS2
        clear hS2
        refine wpAnyH_ready (rs := [7]) (by kernel_rfl) (by simp) ?_
        refine AllReadyH.cons rfl (fun K hK => ?_) AllReadyH.nil
        go_simp
        refine (RT.out _).mono ?_
        rintro e w9 ⟨rfl, hb⟩
        go_wp2_with (fail)
        refine hK.out _ _ ⟨below_keep hb hS.1, hS.2.1.keep hb, hS.2.2.1.keep hb, hS.2.2.2.keep hb⟩ (fun hS2 => ?_)
        clear hK K hb hS
        have hS := hS2
        clear hS2
        refine' wpAnyH_take (i := 8) (v := ?v8c5) rfl (by kernel_rfl) (by kernel_rfl) (by kernel_rfl) (fun _ _ _ h => h) (Or.inl ⟨by kernel_rfl, fun W hW => ?y8c5⟩) hS ?r8c5
        case y8c5 => (go_simp; first | done | with_reducible rfl | (rw [if_pos (by omega)]))
        refine' wpAnyH_take (i := 9) (v := ?v9c5) rfl (by kernel_rfl) (by kernel_rfl) (by kernel_rfl) (fun _ _ _ h => h) (Or.inl ⟨by kernel_rfl, fun W hW => ?y9c5⟩) hS ?r9c5
        case y9c5 => (go_simp; first | done | with_reducible rfl | (rw [if_pos (by omega)]))
        refine' wpAnyH_take (i := 10) (v := ?v10c5) rfl (by kernel_rfl) (by kernel_rfl) (by kernel_rfl) (fun _ _ _ h => h) (Or.inl ⟨by kernel_rfl, fun W hW => ?y10c5⟩) hS ?r10c5
        case y10c5 => (go_simp; first | done | with_reducible rfl | (rw [if_pos (by omega)]))
        refine' wpAnyH_take (i := 11) (v := ?v11c5) rfl (by kernel_rfl) (by kernel_rfl) (by kernel_rfl) (fun _ _ _ h => h) (Or.inl ⟨by kernel_rfl, fun W hW => ?y11c5⟩) hS ?r11c5
        case y11c5 => (obtain ⟨x0, x1, x2, x3, x4, x5⟩ := hW.2.2.2; go_simp; first | done | with_reducible rfl | (rw [if_pos (by omega)]))
        refine' wpAnyH_take (i := 13) (v := ?v13c5) rfl (by kernel_rfl) (by kernel_rfl) (by kernel_rfl) (fun _ _ _ h => h) (Or.inl ⟨by kernel_rfl, fun W hW => ?y13c5⟩) hS ?r13c5
        case y13c5 => (obtain ⟨x0, x1, x2, x3, x4, x5⟩ := hW.2.2.2; go_simp; first | done | with_reducible rfl | (rw [if_pos (by omega)]))
        refine wpAnyH_ready (rs := [12]) (by kernel_rfl) (by simp) ?_
        refine AllReadyH.cons rfl (fun K hK => ?_) AllReadyH.nil
        go_simp
        refine (CV.out _).mono ?_
        rintro e w10 ⟨rfl, hb⟩
        go_wp2_with (fail)
        refine hK.out _ _ ⟨below_keep hb hS.1, hS.2.1.keep hb, hS.2.2.1.keep hb, hS.2.2.2.keep hb⟩ (fun hS2 => ?_)
        clear hK K hb hS
        have hS := hS2
        clear hS2
        refine wpAnyH_ready (rs := [14]) (by kernel_rfl) (by simp) ?_
        refine AllReadyH.cons rfl (fun K hK => ?_) AllReadyH.nil
        go_simp
        refine (RV.out _).mono ?_
        rintro e w11 ⟨rfl, hb⟩
        go_wp2_with (fail)
        refine hK.out _ _ ⟨below_keep hb hS.1, hS.2.1.keep hb, hS.2.2.1.keep hb, hS.2.2.2.keep hb⟩ (fun hS2 => ?_)
        clear hK K hb hS
        have hS := hS2
        clear hS2
        refine' wpAnyH_take (i := 15) (v := ?v15c5) rfl (by kernel_rfl) (by kernel_rfl) (by kernel_rfl) (fun _ _ _ h => h) (Or.inl ⟨by kernel_rfl, fun W hW => ?y15c5⟩) hS ?r15c5
        case y15c5 => (go_simp; first | done | with_reducible rfl | (rw [if_pos (by omega)]))
        refine' wpAnyH_take (i := 16) (v := ?v16c5) rfl (by kernel_rfl) (by kernel_rfl) (by kernel_rfl) (fun _ _ _ h => h) (Or.inl ⟨by kernel_rfl, fun W hW => ?y16c5⟩) hS ?r16c5
        case y16c5 => (go_simp; first | done | with_reducible rfl | (rw [if_pos (by omega)]))
        refine' wpAnyH_take (i := 17) (v := ?v17c5) rfl (by kernel_rfl) (by kernel_rfl) (by kernel_rfl) (fun _ _ _ h => h) (Or.inl ⟨by kernel_rfl, fun W hW => ?y17c5⟩) hS ?r17c5
        case y17c5 => (go_simp; first | done | with_reducible rfl | (rw [if_pos (by omega)]))
        refine wpAnyH_done (by kernel_rfl) ?_ _
        have BF := below_keep hS.1 B6.out
        clear hS
        go_wp2_with (fail)
        go_ret
        exact ⟨ret_bool (by simp), BF⟩

end Go.Proofs.Ytihacmonohjmaaa
