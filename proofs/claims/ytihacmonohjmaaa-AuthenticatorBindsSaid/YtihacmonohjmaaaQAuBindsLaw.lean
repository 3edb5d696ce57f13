/-
  The law AuthenticatorBinds: a sealed authenticator is opened as it was with its key and in its byte order alone.
-/
import Derived.Test.YtihacmonohjmaaaQAuL
import Derived.Test.YtihacmonohjmaaaQGrow
import Derived.Deep.RegionHeld3
namespace Go.Proofs.Ytihacmonohjmaaa
open Go.RowKit

theorem seal_good7 {u : S7.Au} (cu : S7.chkE u = 0) (l : Bool) {k : Int} (hk : S3.vk k = true) : S7.sealE l u k = 0 ∧ S7.sealB l u k = S4.boxOf 2 k (S7.enc l u) := by
  have hl := S7.enc_len l cu
  have h := S4.mk_ok (kind := 2) (key := k) (body := S7.enc l u) (by decide) hk (by omega)
  obtain ⟨h1, h2⟩ := S7.seal_ok l cu k
  exact ⟨h1.trans h.1, h2.trans h.2⟩
theorem open_good7 {u : S7.Au} (cu : S7.chkE u = 0) {l m : Bool} {k j : Int} (hk : S3.vk k = true) (k0 : 0 ≤ k) (k1 : k ≤ 18446744073709551615) :
    (k = j ∧ l = m → S7.openE m (S4.boxOf 2 k (S7.enc l u)) j = 0 ∧ S7.openT m (S4.boxOf 2 k (S7.enc l u)) j = u) ∧ (¬ (k = j ∧ l = m) → S7.openE m (S4.boxOf 2 k (S7.enc l u)) j = 31 ∧ S7.openT m (S4.boxOf 2 k (S7.enc l u)) j = S7.Au.zero) := by
  have hl := S7.enc_len l cu
  have h := S4.open_boxOf (kind := 2) (key := k) (body := S7.enc l u) (by decide) hk k0 k1 (by omega) 2 j
  by_cases e : k = j
  · subst e
    have ho : S4.opOk (S4.boxOf 2 k (S7.enc l u)) 2 k = true := by rw [h.1]; simp
    have hb : S4.opB (S4.boxOf 2 k (S7.enc l u)) 2 k = S7.enc l u := by rw [h.2]; simp
    refine ⟨fun e => ?_, fun e => ?_⟩
    · obtain ⟨_, e⟩ := e
      subst e
      obtain ⟨d1, d2⟩ := S7.dec_enc (l := l) cu
      rw [← hb] at d1
      obtain ⟨h1, h2⟩ := S7.open_yes (l := l) ho d1
      rw [hb] at h2
      exact ⟨h1, h2.trans d2⟩
    · have hlm : l ≠ m := fun h => e ⟨rfl, h⟩
      have d1 := (S7.dec_other (t := u) hlm).1
      rw [← hb] at d1
      exact S7.open_bad (l := m) ho (by rw [d1]; decide)
  · have ho : S4.opOk (S4.boxOf 2 k (S7.enc l u)) 2 j = false := by rw [h.1]; simp [e]
    exact ⟨fun h => absurd h.1 e, fun _ => S7.open_no ho⟩

set_option maxRecDepth 100000 in
set_option maxHeartbeats 6400000 in
theorem bindsLaw7_walk (LA : Option Addr) (ln lcap : Nat) (ls : List Int) (n m : Int) (little other : Bool) (w : World) (hL : Sl w LA ln lcap ls) (n0 : 0 ≤ n) (n1 : n ≤ 255) (m0 : 0 ≤ m) (m1 : m ≤ 255) :
    Calls Try.prog 7 #[.slice LA ln lcap, .int .u8 n, .int .u8 m, .bool little, .bool other] w fun e w' => e = .returned (.bool true) ∧ Below w.heap.size w w' := by
  have hmax := hL.max
  unfold maxLen at hmax
  go_enter Try.func7, Try.ntmps7
  go_wp2_with (fail)
  refine (awake7_any _).mono ?_
  rintro e w1 ⟨rfl, hb1⟩
  by_cases k1 : 40 < (ln : Int)
  · go_wp2_with (fail)
    go_ret
    exact ⟨rfl, hb1⟩
  · have hL1 := Lib.hid (hL.keep hb1)
    have B1 := Lib.hid hb1
    clear hb1
    go_wp2_with (fail)
    refine (authData_any LA ln lcap ls _ hL1.out (by omega)).mono ?_
    rintro e w2 ⟨u, rfl, ou, hb2⟩
    have fu := ou.fit
    have cu := ou.chk
    have hb3 : Below w2.heap.size w2 (w2.alloc (.cells #[.string u.a, .string u.b, .string u.c, .int .i64 u.ck, .int .i64 u.ti, .int .i64 u.tm] 25)) := (Below.refl _ _).alloc (Nat.le_refl _) _
    have U5 := AuAt.new w2 u 25
    unfold S7.Au.cells at U5
    have B5 := Lib.hid (below_keep hb3 (below_keep hb2 B1.out))
    replace U5 := Lib.hid U5
    clear hb2 hb3 B1 hL1
    obtain ⟨kn, kn0, kn1⟩ := keyOf_facts (c := 2) (n := n) (.inr rfl) n0 n1
    obtain ⟨km, km0, km1⟩ := keyOf_facts (c := 2) (n := m) (.inr rfl) m0 m1
    have HS := Lib.hid (seal_good7 cu little kn)
    have HG := Lib.hid (open_good7 (j := keyOf 2 m) (l := little) (m := other) cu kn kn0 kn1)
    have hlen := Lib.hid (S7.enc_len little cu)
    have SC := Lib.hid (fun W => aseal_any little u fu (keyOf 2 n) W kn0 kn1)
    unfold SealOut7 at SC
    rw [HS.out.1, HS.out.2] at SC
    unfold S7.Au.val S7.Au.cells at SC
    replace kn := Lib.hid kn
    replace km := Lib.hid km
    replace fu := Lib.hid fu
    replace cu := Lib.hid cu
    replace ou := Lib.hid ou
    unfold S7.Au.val S7.Au.cells
    go_wp2_with (fail)
    obtain ⟨P, hP⟩ : ∃ P, P = w2.heap.size := ⟨_, rfl⟩
    rw [← hP] at U5
    rw [← hP]
    clear hP
    generalize (w2.alloc (.cells #[.string u.a, .string u.b, .string u.c, .int .i64 u.ck, .int .i64 u.ti, .int .i64 u.tm] 25)) = w5 at U5 B5 ⊢
    have hwn : IntKind.i64.wrap n = n := by rw [IntKind.wrap_i64]; omega
    refine wp_region_held_drew (S := (fun W => Below w5.heap.size w5 W ∧ AuAt W P u)) (by kernel_rfl) ⟨(Below.refl _ _).drew, U5.out.drew⟩ (fun hS => ?_)
    refine' wpAnyH_take (i := 0) (v := ?v0) rfl (by kernel_rfl) (by kernel_rfl) (by kernel_rfl) (fun _ _ _ h => h) (Or.inl ⟨by kernel_rfl, fun W hW => ?y0⟩) hS ?r0
    case y0 => (obtain ⟨x0, x1, x2, x3, x4, x5⟩ := hW.2; go_simp; first | done | with_reducible rfl | (rw [if_pos (by omega)]))
    refine' wpAnyH_take (i := 1) (v := ?v1) rfl (by kernel_rfl) (by kernel_rfl) (by kernel_rfl) (fun _ _ _ h => h) (Or.inl ⟨by kernel_rfl, fun W hW => ?y1⟩) hS ?r1
    case y1 => (go_simp; first | done | with_reducible rfl | (rw [if_pos (by omega)]))
    refine' wpAnyH_take (i := 2) (v := ?v2) rfl (by kernel_rfl) (by kernel_rfl) (by kernel_rfl) (fun _ _ _ h => h) (Or.inl ⟨by kernel_rfl, fun W hW => ?y2⟩) hS ?r2
    case y2 => (go_simp; first | done | with_reducible rfl | (rw [if_pos (by omega)]))
    refine' wpAnyH_take (i := 3) (v := ?v3) rfl (by kernel_rfl) (by kernel_rfl) (by kernel_rfl) (fun _ _ _ h => h) (Or.inl ⟨by kernel_rfl, fun W hW => ?y3⟩) hS ?r3
    case y3 => (go_simp; first | done | with_reducible rfl | (rw [if_pos (by omega)]))
    refine wpAnyH_ready (rs := [4]) (by kernel_rfl) (by simp) ?_
    refine AllReadyH.cons rfl (fun K hK => ?_) AllReadyH.nil
    go_simp
    refine (session_any _ _ n0 n1).mono ?_
    rintro e w' ⟨rfl, rfl⟩
    go_wp2_with (fail)
    refine hK.out _ _ hS (fun hS2 => ?_)
    clear hK K hS
    refine wpAnyH_ready (rs := [5]) (by kernel_rfl) (by simp) ?_
    refine AllReadyH.cons rfl (fun K hK => ?_) AllReadyH.nil
    go_simp
    refine (SC.out _).mono ?_
    rintro e w6 ⟨A6, n6, c6, rfl, hs6, hb6⟩
    go_wp2_with (fail)
    have hSn := And.intro (below_keep hb6 hS2.1) (hS2.2.keep hb6)
    refine hK.out _ _ hSn (fun hS3 => ?_)
    clear hK K hS2 hSn
    refine' wpAnyH_take (i := 6) (v := ?v6) rfl (by kernel_rfl) (by kernel_rfl) (by kernel_rfl) (fun _ _ _ h => h) (Or.inl ⟨by kernel_rfl, fun W hW => ?y6⟩) hS3 ?r6
    case y6 => (go_simp; first | done | with_reducible rfl | (rw [if_pos (by omega)]))
    refine' wpAnyH_take (i := 7) (v := ?v7) rfl (by kernel_rfl) (by kernel_rfl) (by kernel_rfl) (fun _ _ _ h => h) (Or.inl ⟨by kernel_rfl, fun W hW => ?y7⟩) hS3 ?r7
    case y7 => (go_simp; first | done | with_reducible rfl | (rw [if_pos (by omega)]))
    refine' wpAnyH_take (i := 8) (v := ?v8) rfl (by kernel_rfl) (by kernel_rfl) (by kernel_rfl) (fun _ _ _ h => h) (Or.inl ⟨by kernel_rfl, fun W hW => ?y8⟩) hS3 ?r8
    case y8 => (go_simp; first | done | with_reducible rfl | (rw [if_pos (by omega)]))
    refine' wpAnyH_take (i := 9) (v := ?v9) rfl (by kernel_rfl) (by kernel_rfl) (by kernel_rfl) (fun _ _ _ h => h) (Or.inl ⟨by kernel_rfl, fun W hW => ?y9⟩) hS3 ?r9
    case y9 => (go_simp; first | done | with_reducible rfl | (rw [if_pos (by omega)]))
    refine' wpAnyH_take (i := 10) (v := ?v10) rfl (by kernel_rfl) (by kernel_rfl) (by kernel_rfl) (fun _ _ _ h => h) (Or.inl ⟨by kernel_rfl, fun W hW => ?y10⟩) hS3 ?r10
    case y10 => (go_simp; first | done | with_reducible rfl | (rw [if_pos (by omega)]))
    refine wpAnyH_done (by kernel_rfl) ?_ _
    have U6 := Lib.hid hS3.2
    have B6 := Lib.hid (below_keep hS3.1 B5.out)
    clear hS3 hb6 U5 B5 SC
    have hn6 : n6 ≤ 160 := by have := hs6.len; rw [S4.boxOf_len] at this; have := hlen.out; omega
    replace hs6 := Lib.hid hs6
    by_cases hnm : n = m ∧ little = other
    · obtain ⟨rfl, rfl⟩ := hnm
      have HX := Lib.hid (HG.out.1 ⟨rfl, rfl⟩)
      have OC := Lib.hid (aopen_any little A6 n6 c6 _ (keyOf 2 n) w6 hs6.out (by omega) km0 km1)
      unfold OpnOut7 at OC
      rw [HX.out.1, HX.out.2] at OC
      unfold S7.Au.val S7.Au.cells at OC
      go_wp2_with (first | (go_at_call 18; refine (session_any _ _ n0 n1).mono ?_; rintro e w' ⟨rfl, rfl⟩) | (go_at_call 18; refine (session_any _ _ m0 m1).mono ?_; rintro e w' ⟨rfl, rfl⟩))
      refine OC.out.mono ?_
      rintro e w7 ⟨rfl, hb7⟩
      have hb8 : Below w7.heap.size w7 (w7.alloc (.cells #[.string u.a, .string u.b, .string u.c, .int .i64 u.ck, .int .i64 u.ti, .int .i64 u.tm] 25)) := (Below.refl _ _).alloc (Nat.le_refl _) _
      have V8 := AuAt.new w7 u 25
      unfold S7.Au.cells at V8
      have U8 := Lib.hid ((U6.out.keep hb7).keep hb8)
      have B8 := Lib.hid (below_keep hb8 (below_keep hb7 B6.out))
      replace V8 := Lib.hid V8
      clear hb7 hb8 U6 B6 OC
      obtain ⟨x0, x1, x2, x3, x4, x5⟩ := U8.out
      obtain ⟨z0, z1, z2, z3, z4, z5⟩ := V8.out
      have zl := cell_lt z0
      go_wp2_with (fail)
      all_goals
        go_ret
        exact ⟨ret_bool (by simp), by repeat (first | (with_reducible exact B8.out) | refine Below.alloc ?_ (B8.out.size) _ | refine Below.drew ?_)⟩
    · have hne : ¬ (keyOf 2 n = keyOf 2 m ∧ little = other) := fun h => hnm ⟨by have := h.1; unfold keyOf at this; omega, h.2⟩
      have HX := Lib.hid (HG.out.2 hne)
      clear hne
      by_cases hn : n = m
      · subst hn
        have hlo : (little == other) = false := by
          rcases little <;> rcases other <;> simp at hnm ⊢
        have OC := Lib.hid (aopen_any other A6 n6 c6 _ (keyOf 2 n) w6 hs6.out (by omega) km0 km1)
        unfold OpnOut7 at OC
        rw [HX.out.1, HX.out.2] at OC
        unfold S7.Au.val S7.Au.cells S7.Au.zero at OC
        go_wp2_with (first | (go_at_call 18; refine (session_any _ _ n0 n1).mono ?_; rintro e w' ⟨rfl, rfl⟩) | (go_at_call 18; refine (session_any _ _ m0 m1).mono ?_; rintro e w' ⟨rfl, rfl⟩))
        refine OC.out.mono ?_
        rintro e w7 ⟨rfl, hb7⟩
        have hb8 : Below w7.heap.size w7 (w7.alloc (.cells #[.string ⟨#[]⟩, .string ⟨#[]⟩, .string ⟨#[]⟩, .int .i64 0, .int .i64 0, .int .i64 0] 25)) := (Below.refl _ _).alloc (Nat.le_refl _) _
        have V8 := AuAt.new w7 S7.Au.zero 25
        unfold S7.Au.cells S7.Au.zero at V8
        have U8 := Lib.hid ((U6.out.keep hb7).keep hb8)
        have B8 := Lib.hid (below_keep hb8 (below_keep hb7 B6.out))
        replace V8 := Lib.hid V8
        clear hb7 hb8 U6 B6 OC
        obtain ⟨x0, x1, x2, x3, x4, x5⟩ := U8.out
        obtain ⟨z0, z1, z2, z3, z4, z5⟩ := V8.out
        have zl := cell_lt z0
        go_wp2_with (fail)
        all_goals
          go_ret
          exact ⟨ret_bool (by simp), by repeat (first | (with_reducible exact B8.out) | refine Below.alloc ?_ (B8.out.size) _ | refine Below.drew ?_)⟩
      · have hnb : (n == m) = false := by simpa using hn
        have OC := Lib.hid (aopen_any other A6 n6 c6 _ (keyOf 2 m) w6 hs6.out (by omega) km0 km1)
        unfold OpnOut7 at OC
        rw [HX.out.1, HX.out.2] at OC
        unfold S7.Au.val S7.Au.cells S7.Au.zero at OC
        go_wp2_with (first | (go_at_call 18; refine (session_any _ _ n0 n1).mono ?_; rintro e w' ⟨rfl, rfl⟩) | (go_at_call 18; refine (session_any _ _ m0 m1).mono ?_; rintro e w' ⟨rfl, rfl⟩))
        refine OC.out.mono ?_
        rintro e w7 ⟨rfl, hb7⟩
        have hb8 : Below w7.heap.size w7 (w7.alloc (.cells #[.string ⟨#[]⟩, .string ⟨#[]⟩, .string ⟨#[]⟩, .int .i64 0, .int .i64 0, .int .i64 0] 25)) := (Below.refl _ _).alloc (Nat.le_refl _) _
        have V8 := AuAt.new w7 S7.Au.zero 25
        unfold S7.Au.cells S7.Au.zero at V8
        have U8 := Lib.hid ((U6.out.keep hb7).keep hb8)
        have B8 := Lib.hid (below_keep hb8 (below_keep hb7 B6.out))
        replace V8 := Lib.hid V8
        clear hb7 hb8 U6 B6 OC
        obtain ⟨x0, x1, x2, x3, x4, x5⟩ := U8.out
        obtain ⟨z0, z1, z2, z3, z4, z5⟩ := V8.out
        have zl := cell_lt z0
        go_wp2_with (fail)
        all_goals
          go_ret
          exact ⟨ret_bool (by simp), by repeat (first | (with_reducible exact B8.out) | refine Below.alloc ?_ (B8.out.size) _ | refine Below.drew ?_)⟩

end Go.Proofs.Ytihacmonohjmaaa
