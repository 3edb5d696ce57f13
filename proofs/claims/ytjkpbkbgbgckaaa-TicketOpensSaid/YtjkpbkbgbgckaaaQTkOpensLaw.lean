/-
  The law TicketOpens: a sealed ticket is opened as it was with its key alone, and is short.
-/
import Derived.Test.YtjkpbkbgbgckaaaQTkH
import Derived.Test.YtjkpbkbgbgckaaaQGrow
import Derived.Deep.RegionHeld3
namespace Go.Proofs.Ytjkpbkbgbgckaaa
open Go.RowKit

theorem seal_good {u : S6.Tk} (cu : S6.chkE u = 0) {k : Int} (hk : S3.vk k = true) : S6.sealE u k = 0 ∧ S6.sealB u k = S4.boxOf 1 k (S6.enc u) := by
  have hl := S6.enc_len cu
  have h := S4.mk_ok (kind := 1) (key := k) (body := S6.enc u) (by decide) hk (by omega)
  obtain ⟨h1, h2⟩ := S6.seal_ok cu k
  exact ⟨h1.trans h.1, h2.trans h.2⟩
theorem open_good {u : S6.Tk} (fu : u.Fit) (cu : S6.chkE u = 0) {k j : Int} (hk : S3.vk k = true) (k0 : 0 ≤ k) (k1 : k ≤ 18446744073709551615) :
    (k = j → S6.openE (S4.boxOf 1 k (S6.enc u)) j = 0 ∧ S6.openT (S4.boxOf 1 k (S6.enc u)) j = u) ∧ (k ≠ j → S6.openE (S4.boxOf 1 k (S6.enc u)) j = 31 ∧ S6.openT (S4.boxOf 1 k (S6.enc u)) j = S6.Tk.zero) := by
  have hl := S6.enc_len cu
  have h := S4.open_boxOf (kind := 1) (key := k) (body := S6.enc u) (by decide) hk k0 k1 (by omega) 1 j
  refine ⟨fun e => ?_, fun e => ?_⟩
  · subst e
    have ho : S4.opOk (S4.boxOf 1 k (S6.enc u)) 1 k = true := by rw [h.1]; simp
    have hb : S4.opB (S4.boxOf 1 k (S6.enc u)) 1 k = S6.enc u := by rw [h.2]; simp
    obtain ⟨h1, h2⟩ := S6.open_yes ho
    rw [hb] at h1 h2
    obtain ⟨d1, d2⟩ := S6.dec_enc fu cu
    exact ⟨h1.trans d1, h2.trans d2⟩
  · have ho : S4.opOk (S4.boxOf 1 k (S6.enc u)) 1 j = false := by rw [h.1]; simp [e]
    exact S6.open_no ho

set_option maxRecDepth 100000 in
set_option maxHeartbeats 6400000 in
theorem opensLaw_walk (LA : Option Addr) (ln lcap : Nat) (ls : List Int) (n m : Int) (w : World) (hL : Sl w LA ln lcap ls) (n0 : 0 ≤ n) (n1 : n ≤ 255) (m0 : 0 ≤ m) (m1 : m ≤ 255) :
    Calls Try.prog 6 #[.slice LA ln lcap, .int .u8 n, .int .u8 m] w fun e w' => e = .returned (.bool true) ∧ Below w.heap.size w w' := by
  have hmax := hL.max
  unfold maxLen at hmax
  go_enter Try.func6, Try.ntmps6
  go_wp2_with (fail)
  refine (awake6_any _).mono ?_
  rintro e w1 ⟨rfl, hb1⟩
  by_cases k1 : 40 < (ln : Int)
  · go_wp2_with (fail)
    go_ret
    exact ⟨rfl, hb1⟩
  · have hL1 := Lib.hid (hL.keep hb1)
    have B1 := Lib.hid hb1
    clear hb1
    go_wp2_with (fail)
    refine (ticketData_any LA ln lcap ls _ hL1.out (by omega)).mono ?_
    rintro e w2 ⟨u, rfl, fu, cu, hb2⟩
    have hb3 : Below w2.heap.size w2 (w2.alloc (.cells #[.bool u.l, .string u.a, .string u.b, .string u.c, .int .i64 u.ad, .int .u64 u.k, .int .i64 u.li, .int .i64 u.is, .string u.s, .string u.i] 27)) := (Below.refl _ _).alloc (Nat.le_refl _) _
    have U5 := TkAt.new w2 u 27
    unfold S6.Tk.cells at U5
    have B5 := Lib.hid (below_keep hb3 (below_keep hb2 B1.out))
    replace U5 := Lib.hid U5
    clear hb2 hb3 B1 hL1
    obtain ⟨kn, kn0, kn1⟩ := keyOf_facts (c := 1) (n := n) (.inl rfl) n0 n1
    obtain ⟨km, km0, km1⟩ := keyOf_facts (c := 1) (n := m) (.inl rfl) m0 m1
    have HS := Lib.hid (seal_good cu kn)
    have HG := Lib.hid (open_good (j := keyOf 1 m) fu cu kn kn0 kn1)
    have hlen := Lib.hid (S6.enc_len cu)
    have SC := Lib.hid (fun W => tseal_any u fu (keyOf 1 n) W kn0 kn1)
    unfold SealOut at SC
    rw [HS.out.1, HS.out.2] at SC
    unfold S6.Tk.val S6.Tk.cells at SC
    replace kn := Lib.hid kn
    replace km := Lib.hid km
    replace fu := Lib.hid fu
    replace cu := Lib.hid cu
    unfold S6.Tk.val S6.Tk.cells
    go_wp2_with (first | (go_at_call 18; refine (long_any _ _ n0 n1).mono ?_; rintro e w' ⟨rfl, rfl⟩) | (go_at_call 18; refine (long_any _ _ m0 m1).mono ?_; rintro e w' ⟨rfl, rfl⟩))
    obtain ⟨P, hP⟩ : ∃ P, P = w2.heap.size := ⟨_, rfl⟩
    rw [← hP] at U5
    rw [← hP]
    clear hP
    refine (SC.out _).mono ?_
    rintro e w6 ⟨A6, n6, c6, rfl, hs6, hb6⟩
    have U6 := Lib.hid (U5.out.keep hb6)
    have B6 := Lib.hid (below_keep hb6 B5.out)
    have hn6 : n6 ≤ 236 := by have := hs6.len; rw [S4.boxOf_len] at this; have := hlen.out; omega
    replace hs6 := Lib.hid hs6
    clear hb6 U5 B5 SC
    by_cases hnm : n = m
    · subst hnm
      have HX := Lib.hid (HG.out.1 rfl)
      have OC := Lib.hid (topen_any A6 n6 c6 _ (keyOf 1 n) w6 hs6.out (by omega) km0 km1)
      unfold OpnOut at OC
      rw [HX.out.1, HX.out.2] at OC
      unfold S6.Tk.val S6.Tk.cells at OC
      go_wp2_with (fail)
      refine OC.out.mono ?_
      rintro e w7 ⟨rfl, hb7⟩
      have hb8 : Below w7.heap.size w7 (w7.alloc (.cells #[.bool u.l, .string u.a, .string u.b, .string u.c, .int .i64 u.ad, .int .u64 u.k, .int .i64 u.li, .int .i64 u.is, .string u.s, .string u.i] 27)) := (Below.refl _ _).alloc (Nat.le_refl _) _
      have V8 := TkAt.new w7 u 27
      unfold S6.Tk.cells at V8
      have U8 := Lib.hid ((U6.out.keep hb7).keep hb8)
      have B8 := Lib.hid (below_keep hb8 (below_keep hb7 B6.out))
      replace V8 := Lib.hid V8
      clear hb7 hb8 U6 B6 OC
      obtain ⟨x0, x1, x2, x3, x4, x5, x6, x7, x8, x9⟩ := U8.out
      go_wp2_with (fail)
      clear x0 x1 x2 x3 x4 x5 x6 x7 x8 x9
      have FO := Lib.hid (fun W => tfor_any u ⟨#[82]⟩ W)
      unfold S6.Tk.val S6.Tk.cells at FO
      obtain ⟨Q, hQ⟩ : ∃ Q, Q = w7.heap.size := ⟨_, rfl⟩
      rw [← hQ] at V8
      rw [← hQ]
      clear hQ
      generalize (w7.alloc (.cells #[.bool u.l, .string u.a, .string u.b, .string u.c, .int .i64 u.ad, .int .u64 u.k, .int .i64 u.li, .int .i64 u.is, .string u.s, .string u.i] 27)) = w9 at U8 V8 B8 ⊢
      have U9 := U8
      have V9 := V8
      have B9 := B8
      clear U8 V8 B8
      refine wp_region_held_drew (S := (fun W => Below w9.heap.size w9 W ∧ TkAt W P u ∧ TkAt W Q u)) (by kernel_rfl) ⟨(Below.refl _ _).drew, U9.out.drew, V9.out.drew⟩ (fun hS => ?_)
      clear U9 V9
      refine' wpAnyH_take (i := 0) (v := ?v0) rfl (by kernel_rfl) (by kernel_rfl) (by kernel_rfl) (fun _ _ _ h => h) (Or.inl ⟨by kernel_rfl, fun W hW => ?y0⟩) hS ?r0
      case y0 => (go_simp; first | done | with_reducible rfl | (rw [if_pos (by omega)]))
      refine' wpAnyH_take (i := 1) (v := ?v1) rfl (by kernel_rfl) (by kernel_rfl) (by kernel_rfl) (fun _ _ _ h => h) (Or.inl ⟨by kernel_rfl, fun W hW => ?y1⟩) hS ?r1
      case y1 => (go_simp; first | done | with_reducible rfl | (rw [if_pos (by omega)]))
      refine' wpAnyH_take (i := 2) (v := ?v2) rfl (by kernel_rfl) (by kernel_rfl) (by kernel_rfl) (fun _ _ _ h => h) (Or.inl ⟨by kernel_rfl, fun W hW => ?y2⟩) hS ?r2
      case y2 => (go_simp; first | done | with_reducible rfl | (rw [if_pos (by omega)]))
      refine' wpAnyH_take (i := 3) (v := ?v3) rfl (by kernel_rfl) (by kernel_rfl) (by kernel_rfl) (fun _ _ _ h => h) (Or.inl ⟨by kernel_rfl, fun W hW => ?y3⟩) hS ?r3
      case y3 => (obtain ⟨x0, x1, x2, x3, x4, x5, x6, x7, x8, x9⟩ := hW.2.2; go_simp; first | done | with_reducible rfl | (rw [if_pos (by omega)]))
      refine' wpAnyH_take (i := 4) (v := ?v4) rfl (by kernel_rfl) (by kernel_rfl) (by kernel_rfl) (fun _ _ _ h => h) (Or.inl ⟨by kernel_rfl, fun W hW => ?y4⟩) hS ?r4
      case y4 => (obtain ⟨x0, x1, x2, x3, x4, x5, x6, x7, x8, x9⟩ := hW.2.1; go_simp; first | done | with_reducible rfl | (rw [if_pos (by omega)]))
      refine' wpAnyH_take (i := 5) (v := ?v5) rfl (by kernel_rfl) (by kernel_rfl) (by kernel_rfl) (fun _ _ _ h => h) (Or.inl ⟨by kernel_rfl, fun W hW => ?y5⟩) hS ?r5
      case y5 => (go_simp; first | done | with_reducible rfl | (rw [if_pos (by omega)]))
      refine' wpAnyH_take (i := 6) (v := ?v6) rfl (by kernel_rfl) (by kernel_rfl) (by kernel_rfl) (fun _ _ _ h => h) (Or.inl ⟨by kernel_rfl, fun W hW => ?y6⟩) hS ?r6
      case y6 => (go_simp; first | done | with_reducible rfl | (rw [if_pos (by omega)]))
      refine' wpAnyH_take (i := 7) (v := ?v7) rfl (by kernel_rfl) (by kernel_rfl) (by kernel_rfl) (fun _ _ _ h => h) (Or.inl ⟨by kernel_rfl, fun W hW => ?y7⟩) hS ?r7
      case y7 => (go_simp; first | done | with_reducible rfl | (rw [if_pos (by omega)]))
      refine' wpAnyH_take (i := 8) (v := ?v8) rfl (by kernel_rfl) (by kernel_rfl) (by kernel_rfl) (fun _ _ _ h => h) (Or.inl ⟨by kernel_rfl, fun W hW => ?y8⟩) hS ?r8
      case y8 => (obtain ⟨x0, x1, x2, x3, x4, x5, x6, x7, x8, x9⟩ := hW.2.2; go_simp; first | done | with_reducible rfl | (rw [if_pos (by omega)]))
      refine' wpAnyH_take (i := 10) (v := ?v10) rfl (by kernel_rfl) (by kernel_rfl) (by kernel_rfl) (fun _ _ _ h => h) (Or.inl ⟨by kernel_rfl, fun W hW => ?y10⟩) hS ?r10
      case y10 => (go_simp; first | done | with_reducible rfl | (rw [if_pos (by omega)]))
      refine' wpAnyH_take (i := 11) (v := ?v11) rfl (by kernel_rfl) (by kernel_rfl) (by kernel_rfl) (fun _ _ _ h => h) (Or.inl ⟨by kernel_rfl, fun W hW => ?y11⟩) hS ?r11
      case y11 => (obtain ⟨x0, x1, x2, x3, x4, x5, x6, x7, x8, x9⟩ := hW.2.1; go_simp; first | done | with_reducible rfl | (rw [if_pos (by omega)]))
      refine' wpAnyH_take (i := 12) (v := ?v12) rfl (by kernel_rfl) (by kernel_rfl) (by kernel_rfl) (fun _ _ _ h => h) (Or.inl ⟨by kernel_rfl, fun W hW => ?y12⟩) hS ?r12
      case y12 => (go_simp; first | done | with_reducible rfl | (rw [if_pos (by omega)]))
      refine' wpAnyH_take (i := 13) (v := ?v13) rfl (by kernel_rfl) (by kernel_rfl) (by kernel_rfl) (fun _ _ _ h => h) (Or.inl ⟨by kernel_rfl, fun W hW => ?y13⟩) hS ?r13
      case y13 => (obtain ⟨x0, x1, x2, x3, x4, x5, x6, x7, x8, x9⟩ := hW.2.1; go_simp; first | done | with_reducible rfl | (rw [if_pos (by omega)]))
      refine' wpAnyH_take (i := 14) (v := ?v14) rfl (by kernel_rfl) (by kernel_rfl) (by kernel_rfl) (fun _ _ _ h => h) (Or.inl ⟨by kernel_rfl, fun W hW => ?y14⟩) hS ?r14
      case y14 => (go_simp; first | done | with_reducible rfl | (rw [if_pos (by omega)]))
      refine wpAnyH_ready (rs := [9]) (by kernel_rfl) (by simp) ?_
      refine AllReadyH.cons rfl (fun K hK => ?_) AllReadyH.nil
      go_simp
      refine (FO.out _).mono ?_
      rintro e w10 ⟨rfl, hb⟩
      go_wp2_with (fail)
      refine hK.out _ _ ⟨below_keep hb hS.1, hS.2.1.keep hb, hS.2.2.keep hb⟩ (fun hS2 => ?_)
      clear hK K hb hS
      refine' wpAnyH_take (i := 15) (v := ?v15) rfl (by kernel_rfl) (by kernel_rfl) (by kernel_rfl) (fun _ _ _ h => h) (Or.inl ⟨by kernel_rfl, fun W hW => ?y15⟩) hS2 ?r15
      case y15 => (go_simp; first | done | with_reducible rfl | (rw [if_pos (by omega)]))
      refine' wpAnyH_take (i := 16) (v := ?v16) rfl (by kernel_rfl) (by kernel_rfl) (by kernel_rfl) (fun _ _ _ h => h) (Or.inl ⟨by kernel_rfl, fun W hW => ?y16⟩) hS2 ?r16
      case y16 => (go_simp; first | done | with_reducible rfl | (rw [if_pos (by omega)]))
      refine' wpAnyH_take (i := 17) (v := ?v17) rfl (by kernel_rfl) (by kernel_rfl) (by kernel_rfl) (fun _ _ _ h => h) (Or.inl ⟨by kernel_rfl, fun W hW => ?y17⟩) hS2 ?r17
      case y17 => (go_simp; first | done | with_reducible rfl | (rw [if_pos (by omega)]))
      refine wpAnyH_done (by kernel_rfl) ?_ _
      have BF := below_keep hS2.1 B9.out
      clear hS2
      go_wp2_with (fail)
      go_ret
      exact ⟨ret_bool (by simp), BF⟩
    · have hne : ¬ keyOf 1 n = keyOf 1 m := by unfold keyOf; omega
      have HX := Lib.hid (HG.out.2 hne)
      have hnb : (keyOf 1 n == keyOf 1 m) = false := by simpa using hne
      clear hne
      have OC := Lib.hid (topen_any A6 n6 c6 _ (keyOf 1 m) w6 hs6.out (by omega) km0 km1)
      unfold OpnOut at OC
      rw [HX.out.1, HX.out.2] at OC
      unfold S6.Tk.val S6.Tk.cells S6.Tk.zero at OC
      go_wp2_with (fail)
      refine OC.out.mono ?_
      rintro e w7 ⟨rfl, hb7⟩
      have hb8 : Below w7.heap.size w7 (w7.alloc (.cells #[.bool false, .string ⟨#[]⟩, .string ⟨#[]⟩, .string ⟨#[]⟩, .int .i64 0, .int .u64 0, .int .i64 0, .int .i64 0, .string ⟨#[]⟩, .string ⟨#[]⟩] 27)) := (Below.refl _ _).alloc (Nat.le_refl _) _
      have V8 := TkAt.new w7 S6.Tk.zero 27
      unfold S6.Tk.cells S6.Tk.zero at V8
      have U8 := Lib.hid ((U6.out.keep hb7).keep hb8)
      have B8 := Lib.hid (below_keep hb8 (below_keep hb7 B6.out))
      replace V8 := Lib.hid V8
      clear hb7 hb8 U6 B6 OC
      obtain ⟨x0, x1, x2, x3, x4, x5, x6, x7, x8, x9⟩ := V8.out
      go_wp2_with (fail)
      go_ret
      exact ⟨ret_bool (by simp), B8.out⟩

end Go.Proofs.Ytjkpbkbgbgckaaa
