/-
  The law TicketChecks: which tickets are valid, or the error.
-/
import Derived.Test.YtjkpbkbgbgckaaaQTkH
import Derived.Test.YtjkpbkbgbgckaaaQGrow
import Derived.Deep.RegionHeld3
import Derived.IntWalk
import Derived.Deep.DeepCutAuto
namespace Go.Proofs.Ytjkpbkbgbgckaaa
open Go.RowKit

set_option maxRecDepth 100000 in
set_option maxHeartbeats 6400000 in
theorem checksLaw_walk (t : S6.Tk) (LA : Option Addr) (ln lcap : Nat) (ls : List Int) (x n small : Int) (s : ByteArray) (w : World) (f : t.Fit) (hL : Sl w LA ln lcap ls) (x0 : 0 ≤ x) (x1 : x ≤ 255) (n0 : -9223372036854775808 ≤ n) (n1 : n ≤ 9223372036854775807) (s0 : 0 ≤ small) (s1 : small ≤ 255) (hs : s.size ≤ maxLen) :
    Calls Try.prog 3 #[t.val, .slice LA ln lcap, .int .u8 x, .int .i64 n, .int .u8 small, .string s] w fun e w' => e = .returned (.bool true) ∧ Below w.heap.size w w' := by
  have Bw := Lib.hid (show Below w.heap.size w (w.alloc (.cells t.cells 27)) from (Below.refl _ _).alloc (Nat.le_refl _) _)
  have R0 := Lib.hid (TkAt.new w t 27)
  have LG := Lib.hid (fun W => long6_any t f W)
  have hmax := hL.max
  unfold maxLen at hmax
  have hL0 := Lib.hid (hL.keep Bw.out)
  have hs2 : s.size ≤ 9223372036854775807 := hs
  unfold S6.Tk.val S6.Tk.cells at LG
  unfold S6.Tk.val S6.Tk.cells
  unfold S6.Tk.cells at Bw R0 hL0
  go_enter Try.func3, Try.ntmps3
  go_wp2_with (fail)
  refine (awake6_any _).mono ?_
  rintro e w1 ⟨rfl, hb1⟩
  have R1 := Lib.hid (R0.out.keep hb1)
  obtain ⟨x0, x1, x2, x3, x4, x5, x6, x7, x8, x9⟩ := R0.out.keep hb1
  have B1 := Lib.hid (below_keep hb1 Bw.out)
  clear hb1 R0
  go_wp2_with (fail)
  clear x0 x1 x2 x3 x4 x5 x6 x7 x8 x9
  refine (LG.out _).mono ?_
  rintro e w2 ⟨q, rfl, hb2⟩
  have R2 := Lib.hid (R1.out.keep hb2)
  have B2 := Lib.hid (below_keep hb2 B1.out)
  clear hb2 R1 B1
  have ways : q = true ∨ q = false ∧ 100 < (s.size : Int) ∨ q = false ∧ (s.size : Int) ≤ 100 ∧ 40 < (ln : Int) ∨ q = false ∧ (s.size : Int) ≤ 100 ∧ (ln : Int) ≤ 40 := by
    rcases q
    · rcases Int.lt_or_le 100 (s.size : Int) with h | h
      · exact .inr (.inl ⟨rfl, h⟩)
      · rcases Int.lt_or_le 40 (ln : Int) with g | g
        · exact .inr (.inr (.inl ⟨rfl, h, g⟩))
        · exact .inr (.inr (.inr ⟨rfl, h, g⟩))
    · exact .inl rfl
  rcases ways with rfl | ⟨rfl, k1⟩ | ⟨rfl, k1, k2⟩ | ⟨rfl, k1, k2⟩
  · go_wp2_with (fail)
    go_ret
    exact ⟨rfl, B2.out⟩
  · go_wp2_with (fail)
    go_ret
    exact ⟨rfl, B2.out⟩
  · go_wp2_with (fail)
    go_ret
    exact ⟨rfl, B2.out⟩
  · go_wp2_with (fail)
    have hL2 := Lib.hid (hL.keep B2.out)
    refine (ticketData_any LA ln lcap ls _ hL2.out (by omega)).mono ?_
    rintro e w3 ⟨u, rfl, fu, cu, hb3⟩
    have R3 := Lib.hid (R2.out.keep hb3)
    have B3 := Lib.hid (below_keep hb3 B2.out)
    clear hb3 R2 B2 hL2
    replace fu := Lib.hid fu
    replace cu := Lib.hid cu
    have f1 := IntWalk.i64_in small (by omega)
    have f2 : small.tmod 6 = small % 6 := Int.tmod_eq_emod_of_nonneg s0
    have U3 := Lib.hid (TkAt.new w3 u 27)
    have Bu := Lib.hid (show Below w3.heap.size w3 (w3.alloc (.cells u.cells 27)) from (Below.refl _ _).alloc (Nat.le_refl _) _)
    unfold S6.Tk.cells at U3 Bu
    unfold S6.Tk.val S6.Tk.cells
    go_upto_region 6 with (fail)
    go_cut [14] (fun m wx => ∃ m' : Int, m = .int .i64 m' ∧ -9223372036854775808 ≤ m' ∧ m' ≤ 9223372036854775807 ∧ TkAt wx w3.heap.size u ∧ Below w3.heap.size w3 wx)
    case first =>
      have c6 : small % 6 = 0 ∨ small % 6 = 1 ∨ small % 6 = 2 ∨ small % 6 = 3 ∨ small % 6 = 4 ∨ small % 6 = 5 := by omega
      rcases c6 with c | c | c | c | c | c
      all_goals
        go_wp2_with (fail)
        go_meet
        refine ⟨_, rfl, by omega, by omega, U3.out.keep ((Below.refl _ _).alloc (Nat.le_refl _) _), below_keep ((Below.refl _ _).alloc (Nat.le_refl _) _) Bu.out⟩
    case rest =>
      obtain ⟨m, rfl, m0, m1, U4, Bc⟩ := hcut
      obtain ⟨w4, hw4⟩ : ∃ w4, w4 = wc := ⟨_, rfl⟩
      subst hw4
      have B4 := Lib.hid (below_keep Bc B3.out)
      have R4 := Lib.hid (R3.out.keep Bc)
      replace U4 := Lib.hid U4
      clear Bc Bu U3 B3 R3 f1 f2 k1 k2
      obtain ⟨x0', x1', x2', x3', x4', x5', x6', x7', x8', x9'⟩ := U4.out
      have CA := Lib.hid (fun W => changed_any u fu.out x m s W x0 x1 m0 m1 hs)
      unfold S6.Tk.val S6.Tk.cells at CA
      go_wp2_with (fail)
      refine (CA.out _).mono ?_
      rintro e w5 ⟨v, rfl, fv, hb5⟩
      have V5 := Lib.hid (TkAt.new w5 v 27)
      have Bv := Lib.hid (show Below w5.heap.size w5 (w5.alloc (.cells v.cells 27)) from (Below.refl _ _).alloc (Nat.le_refl _) _)
      have B6 := Lib.hid (below_keep Bv.out (below_keep hb5 B4.out))
      have R6 := Lib.hid ((R4.out.keep hb5).keep Bv.out)
      have U6 := Lib.hid ((U4.out.keep hb5).keep Bv.out)
      have CT := Lib.hid (fun W => tcheck_any t f W)
      have RT := Lib.hid (fun W => r6check_any t f W)
      have CU := Lib.hid (fun W => tcheck_any u fu.out W)
      have CV := Lib.hid (fun W => tcheck_any v fv W)
      have RV := Lib.hid (fun W => r6check_any v fv W)
      clear hb5 Bv B4 R4 U4 x0' x1' x2' x3' x4' x5' x6' x7' x8' x9' CA
      unfold S6.Tk.val S6.Tk.cells at CT RT CU CV RV
      unfold S6.Tk.cells at V5 B6 R6 U6
      unfold S6.Tk.val S6.Tk.cells
      go_wp2_with (fail)
      obtain ⟨Q, hQ⟩ : ∃ Q, Q = w5.heap.size := ⟨_, rfl⟩
      rw [← hQ] at V5
      rw [← hQ]
      clear hQ
      generalize (w5.alloc (.cells #[.bool v.l, .string v.a, .string v.b, .string v.c, .int .i64 v.ad, .int .u64 v.k, .int .i64 v.li, .int .i64 v.is, .string v.s, .string v.i] 27)) = w6 at V5 B6 R6 U6 ⊢
      have cu2 : (S6.chkE u == 0) = true := by rw [cu.out]; rfl
      refine wp_region_held_drew (S := (fun W => Below w6.heap.size w6 W ∧ TkAt W w.heap.size t ∧ TkAt W w3.heap.size u ∧ TkAt W Q v)) (by kernel_rfl) ⟨(Below.refl _ _).drew, R6.out.drew, U6.out.drew, V5.out.drew⟩ (fun hS => ?_)
      clear R6 U6 V5
      refine' wpAnyH_take (i := 0) (v := ?v0) rfl (by kernel_rfl) (by kernel_rfl) (by kernel_rfl) (fun _ _ _ h => h) (Or.inl ⟨by kernel_rfl, fun W hW => ?y0⟩) hS ?r0
      case y0 => (obtain ⟨x0, x1, x2, x3, x4, x5, x6, x7, x8, x9⟩ := hW.2.2.1; go_simp; first | done | with_reducible rfl | (rw [if_pos (by omega)]))
      refine wpAnyH_ready (rs := [1]) (by kernel_rfl) (by simp) ?_
      refine AllReadyH.cons rfl (fun K hK => ?_) AllReadyH.nil
      go_simp
      refine (CU.out _).mono ?_
      rintro e w7 ⟨rfl, hb⟩
      go_wp2_with (fail)
      refine hK.out _ _ ⟨below_keep hb hS.1, hS.2.1.keep hb, hS.2.2.1.keep hb, hS.2.2.2.keep hb⟩ (fun hS2 => ?_)
      clear hK K hb hS
      have hS := hS2
      clear hS2
      refine' wpAnyH_take (i := 2) (v := ?v2) rfl (by kernel_rfl) (by kernel_rfl) (by kernel_rfl) (fun _ _ _ h => h) (Or.inl ⟨by kernel_rfl, fun W hW => ?y2⟩) hS ?r2
      case y2 => (go_simp; first | done | with_reducible rfl | (rw [if_pos (by omega)]))
      refine' wpAnyH_take (i := 3) (v := ?v3) rfl (by kernel_rfl) (by kernel_rfl) (by kernel_rfl) (fun _ _ _ h => h) (Or.inl ⟨by kernel_rfl, fun W hW => ?y3⟩) hS ?r3
      case y3 => (go_simp; first | done | with_reducible rfl | (rw [if_pos (by omega)]))
      refine' wpAnyH_take (i := 4) (v := ?v4) rfl (by kernel_rfl) (by kernel_rfl) (by kernel_rfl) (fun _ _ _ h => h) (Or.inl ⟨by kernel_rfl, fun W hW => ?y4⟩) hS ?r4
      case y4 => (obtain ⟨x0, x1, x2, x3, x4, x5, x6, x7, x8, x9⟩ := hW.2.1; go_simp; first | done | with_reducible rfl | (rw [if_pos (by omega)]))
      refine' wpAnyH_take (i := 6) (v := ?v6) rfl (by kernel_rfl) (by kernel_rfl) (by kernel_rfl) (fun _ _ _ h => h) (Or.inl ⟨by kernel_rfl, fun W hW => ?y6⟩) hS ?r6
      case y6 => (obtain ⟨x0, x1, x2, x3, x4, x5, x6, x7, x8, x9⟩ := hW.2.1; go_simp; first | done | with_reducible rfl | (rw [if_pos (by omega)]))
      refine wpAnyH_ready (rs := [5]) (by kernel_rfl) (by simp) ?_
      refine AllReadyH.cons rfl (fun K hK => ?_) AllReadyH.nil
      go_simp
      refine (CT.out _).mono ?_
      rintro e w8 ⟨rfl, hb⟩
      go_wp2_with (fail)
      refine hK.out _ _ ⟨below_keep hb hS.1, hS.2.1.keep hb, hS.2.2.1.keep hb, hS.2.2.2.keep hb⟩ (fun hS2 => ?_)
      clear hK K hb hS
      have hS := hS2
      clear hS2
      refine wpAnyH_ready (rs := [7]) (by kernel_rfl) (by simp) ?_
      refine AllReadyH.cons rfl (fun K hK => ?_) AllReadyH.nil
      go_simp
      refine (RT.out _).mono ?_
      rintro e w9 ⟨rfl, hb⟩
      go_wp2_with (fail)
      refine hK.out _ _ ⟨below_keep hb hS.1, hS.2.1.keep hb, hS.2.2.1.keep hb, hS.2.2.2.keep hb⟩ (fun hS2 => ?_)
      clear hK K hb hS
      have hS := hS2
      clear hS2
      refine' wpAnyH_take (i := 8) (v := ?v8) rfl (by kernel_rfl) (by kernel_rfl) (by kernel_rfl) (fun _ _ _ h => h) (Or.inl ⟨by kernel_rfl, fun W hW => ?y8⟩) hS ?r8
      case y8 => (go_simp; first | done | with_reducible rfl | (rw [if_pos (by omega)]))
      refine' wpAnyH_take (i := 9) (v := ?v9) rfl (by kernel_rfl) (by kernel_rfl) (by kernel_rfl) (fun _ _ _ h => h) (Or.inl ⟨by kernel_rfl, fun W hW => ?y9⟩) hS ?r9
      case y9 => (go_simp; first | done | with_reducible rfl | (rw [if_pos (by omega)]))
      refine' wpAnyH_take (i := 10) (v := ?v10) rfl (by kernel_rfl) (by kernel_rfl) (by kernel_rfl) (fun _ _ _ h => h) (Or.inl ⟨by kernel_rfl, fun W hW => ?y10⟩) hS ?r10
      case y10 => (go_simp; first | done | with_reducible rfl | (rw [if_pos (by omega)]))
      refine' wpAnyH_take (i := 11) (v := ?v11) rfl (by kernel_rfl) (by kernel_rfl) (by kernel_rfl) (fun _ _ _ h => h) (Or.inl ⟨by kernel_rfl, fun W hW => ?y11⟩) hS ?r11
      case y11 => (obtain ⟨x0, x1, x2, x3, x4, x5, x6, x7, x8, x9⟩ := hW.2.2.2; go_simp; first | done | with_reducible rfl | (rw [if_pos (by omega)]))
      refine' wpAnyH_take (i := 13) (v := ?v13) rfl (by kernel_rfl) (by kernel_rfl) (by kernel_rfl) (fun _ _ _ h => h) (Or.inl ⟨by kernel_rfl, fun W hW => ?y13⟩) hS ?r13
      case y13 => (obtain ⟨x0, x1, x2, x3, x4, x5, x6, x7, x8, x9⟩ := hW.2.2.2; go_simp; first | done | with_reducible rfl | (rw [if_pos (by omega)]))
      refine wpAnyH_ready (rs := [12]) (by kernel_rfl) (by simp) ?_
      refine AllReadyH.cons rfl (fun K hK => ?_) AllReadyH.nil
      go_simp
      refine (CV.out _).mono ?_
      rintro e w10 ⟨rfl, hb⟩
      go_wp2_with (fail)
      refine hK.out _ _ ⟨below_keep hb hS.1, hS.2.1.keep hb, hS.2.2.1.keep hb, hS.2.2.2.keep hb⟩ (fun hS2 => ?_)
      clear hK K hb hS
      have hS := hS2
      clear hS2
      refine wpAnyH_ready (rs := [14]) (by kernel_rfl) (by simp) ?_
      refine AllReadyH.cons rfl (fun K hK => ?_) AllReadyH.nil
      go_simp
      refine (RV.out _).mono ?_
      rintro e w11 ⟨rfl, hb⟩
      go_wp2_with (fail)
      refine hK.out _ _ ⟨below_keep hb hS.1, hS.2.1.keep hb, hS.2.2.1.keep hb, hS.2.2.2.keep hb⟩ (fun hS2 => ?_)
      clear hK K hb hS
      have hS := hS2
      clear hS2
      refine' wpAnyH_take (i := 15) (v := ?v15) rfl (by kernel_rfl) (by kernel_rfl) (by kernel_rfl) (fun _ _ _ h => h) (Or.inl ⟨by kernel_rfl, fun W hW => ?y15⟩) hS ?r15
      case y15 => (go_simp; first | done | with_reducible rfl | (rw [if_pos (by omega)]))
      refine' wpAnyH_take (i := 16) (v := ?v16) rfl (by kernel_rfl) (by kernel_rfl) (by kernel_rfl) (fun _ _ _ h => h) (Or.inl ⟨by kernel_rfl, fun W hW => ?y16⟩) hS ?r16
      case y16 => (go_simp; first | done | with_reducible rfl | (rw [if_pos (by omega)]))
      refine' wpAnyH_take (i := 17) (v := ?v17) rfl (by kernel_rfl) (by kernel_rfl) (by kernel_rfl) (fun _ _ _ h => h) (Or.inl ⟨by kernel_rfl, fun W hW => ?y17⟩) hS ?r17
      case y17 => (go_simp; first | done | with_reducible rfl | (rw [if_pos (by omega)]))
      refine wpAnyH_done (by kernel_rfl) ?_ _
      have BF := below_keep hS.1 B6.out
      clear hS
      go_wp2_with (fail)
      go_ret
      exact ⟨ret_bool (by simp), BF⟩

end Go.Proofs.Ytjkpbkbgbgckaaa
