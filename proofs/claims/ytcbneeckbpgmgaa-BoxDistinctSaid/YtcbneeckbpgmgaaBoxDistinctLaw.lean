/-
  The law BoxDistinct: two boxes have the same bytes exactly if kind, key and body are equal.
-/
import Derived.Test.YtcbneeckbpgmgaaBoxS
import Derived.Deep.RegionHeld3
import Derived.IntWalk
namespace Go.Proofs.Ytcbneeckbpgmgaa
open Go.RowKit

/-- What Make returns where there is a box. -/
def MadeOk (X K : Int) (body : List Int) (w : World) (e : Ending) (w' : World) : Prop :=
  ∃ A n cap, e = .returned (.tuple #[.slice A n cap, .int .i64 0]) ∧ Sl w' A n cap (S4.boxOf X K body) ∧ Below w.heap.size w w'

theorem bmake_ok {X K : Int} (A : Option Addr) (n cap : Nat) (body : List Int) (w : World) (h : Sl w A n cap body) (hX : S4.isK X = true) (hK : S3.vk K = true) (k0 : 0 ≤ K) (k1 : K ≤ 18446744073709551615) (hl : (body.length : Int) ≤ 1000) :
    Calls Try.prog 11 #[.int .i64 X, .int .u64 K, .slice A n cap] w (MadeOk X K body w) := by
  have HM := S4.mk_ok (body := body) hX hK hl
  have MK := bmake_any X K _ _ _ _ _ h k0 k1
  unfold MadeB at MK
  rw [HM.1, HM.2] at MK
  exact MK


theorem str_inj {xs ys : List Int} (hx : ∀ n ∈ xs, 0 ≤ n ∧ n ≤ 255) (hy : ∀ n ∈ ys, 0 ≤ n ∧ n ≤ 255) (h : (strOfNums xs).toList = (strOfNums ys).toList) : xs = ys := by
  refine strOfNums_inj hx hy ?_
  rw [ByteArray.toList_eq, ByteArray.toList_eq] at h
  exact ByteArray.ext (Array.ext' h)

/-- When two boxes have the same bytes. -/
theorem distinct_cases {k0 k1 y0 y1 : Int} {ra rb : List Int} (hX0 : S4.isK (1 + k0 % 10) = true) (hX1 : S4.isK (1 + k1 % 10) = true) (j0 : 0 ≤ y0) (i0 : y0 ≤ 255) (j1 : 0 ≤ y1) (i1 : y1 ≤ 255) (hla : (ra.length : Int) ≤ 1000) (hlb : (rb.length : Int) ≤ 1000)
    (hra : ∀ n ∈ ra, 0 ≤ n ∧ n ≤ 255) (hrb : ∀ n ∈ rb, 0 ≤ n ∧ n ≤ 255) :
    (k0 % 10 = k1 % 10 ∧ y0 = y1 ∧ strOfNums ra = strOfNums rb ∧ strOfNums (S4.boxOf (1 + k0 % 10) (keyOf 1 y0) ra) = strOfNums (S4.boxOf (1 + k1 % 10) (keyOf 1 y1) rb)) ∨
    (¬ (strOfNums (S4.boxOf (1 + k0 % 10) (keyOf 1 y0) ra)).toList = (strOfNums (S4.boxOf (1 + k1 % 10) (keyOf 1 y1) rb)).toList ∧ (¬ k0 % 10 = k1 % 10 ∨ k0 % 10 = k1 % 10 ∧ ¬ y0 = y1 ∨ k0 % 10 = k1 % 10 ∧ y0 = y1 ∧ ¬ (strOfNums ra).toList = (strOfNums rb).toList)) := by
  obtain ⟨v0, r0, t0⟩ := keyOf_facts (c := 1) (.inl rfl) j0 i0
  obtain ⟨v1, r1, t1⟩ := keyOf_facts (c := 1) (.inl rfl) j1 i1
  by_cases h : k0 % 10 = k1 % 10 ∧ y0 = y1 ∧ (strOfNums ra).toList = (strOfNums rb).toList
  · obtain ⟨e1, rfl, e3⟩ := h
    have e4 := str_inj hra hrb e3
    subst e4
    rw [e1]
    exact .inl ⟨rfl, rfl, rfl, rfl⟩
  · right
    refine ⟨fun e => h ?_, ?_⟩
    · have e' := str_inj (S4.boxOf_range hX0 hla hra) (S4.boxOf_range hX1 hlb hrb) e
      obtain ⟨e1, e2, e3⟩ := S4.boxOf_inj hX0 v0 r0 t0 hla hX1 v1 r1 t1 hlb e'
      unfold keyOf at e2
      exact ⟨by omega, by omega, by rw [e3]⟩
    · by_cases e1 : k0 % 10 = k1 % 10
      · by_cases e2 : y0 = y1
        · exact .inr (.inr ⟨e1, e2, fun e3 => h ⟨e1, e2, e3⟩⟩)
        · exact .inr (.inl ⟨e1, e2⟩)
      · exact .inl e1

set_option maxRecDepth 100000 in
set_option maxHeartbeats 3200000 in
theorem distinctLaw_walk (A : Option Addr) (an acap : Nat) (ra : List Int) (B : Option Addr) (bn bcap : Nat) (rb : List Int) (k0 k1 y0 y1 : Int) (sm : Bool) (w : World) (hA : Sl w A an acap ra) (hB : Sl w B bn bcap rb)
    (f0 : 0 ≤ k0) (g0 : k0 ≤ 255) (f1 : 0 ≤ k1) (g1 : k1 ≤ 255) (j0 : 0 ≤ y0) (i0 : y0 ≤ 255) (j1 : 0 ≤ y1) (i1 : y1 ≤ 255) :
    Calls Try.prog 7 #[.slice A an acap, .slice B bn bcap, .agg #[.int .u8 k0, .int .u8 k1], .agg #[.int .u8 y0, .int .u8 y1], .bool sm] w fun e w' => e = .returned (.bool true) ∧ Below w.heap.size w w' := by
  have hmaxa := hA.max
  have hmaxb := hB.max
  unfold maxLen at hmaxa hmaxb
  have B0 : Below w.heap.size w ((w.alloc (.cells #[.int .u8 k0, .int .u8 k1] 46)).alloc (.cells #[.int .u8 y0, .int .u8 y1] 46)) := ((Below.refl _ _).alloc (Nat.le_refl _) _).alloc (by simp) _
  have c0 : ((w.alloc (.cells #[.int .u8 k0, .int .u8 k1] 46)).alloc (.cells #[.int .u8 y0, .int .u8 y1] 46)).cell? ⟨w.heap.size, 0, none⟩ = some (.int .u8 k0) := by simp [go_sem]
  have c1 : ((w.alloc (.cells #[.int .u8 k0, .int .u8 k1] 46)).alloc (.cells #[.int .u8 y0, .int .u8 y1] 46)).cell? ⟨w.heap.size, 1, none⟩ = some (.int .u8 k1) := by simp [go_sem]
  have d0 : ((w.alloc (.cells #[.int .u8 k0, .int .u8 k1] 46)).alloc (.cells #[.int .u8 y0, .int .u8 y1] 46)).cell? ⟨w.heap.size + 1, 0, none⟩ = some (.int .u8 y0) := by simp [go_sem]
  have d1 : ((w.alloc (.cells #[.int .u8 k0, .int .u8 k1] 46)).alloc (.cells #[.int .u8 y0, .int .u8 y1] 46)).cell? ⟨w.heap.size + 1, 1, none⟩ = some (.int .u8 y1) := by simp [go_sem]
  by_cases h1 : 900 < (an : Int)
  · go_enter Try.func7, Try.ntmps7
    go_wp2_with (fail)
    refine (awake4_any _).mono ?_
    rintro e w1 ⟨rfl, hb⟩
    have B1 := below_keep hb B0
    go_wp2_with (fail)
    go_ret
    exact ⟨rfl, B1⟩
  · by_cases h2 : 900 < (bn : Int)
    · go_enter Try.func7, Try.ntmps7
      go_wp2_with (fail)
      refine (awake4_any _).mono ?_
      rintro e w1 ⟨rfl, hb⟩
      have B1 := below_keep hb B0
      go_wp2_with (fail)
      go_ret
      exact ⟨rfl, B1⟩
    · have hla := Lib.hid (show (ra.length : Int) ≤ 1000 by have := hA.len; omega)
      have hlb := Lib.hid (show (rb.length : Int) ≤ 1000 by have := hB.len; omega)
      have hX0 := Lib.hid (show S4.isK (1 + k0 % 10) = true by rw [S4.isK_iff]; omega)
      have hX1 := Lib.hid (show S4.isK (1 + k1 % 10) = true by rw [S4.isK_iff]; omega)
      obtain ⟨v0, r0, t0⟩ := keyOf_facts (c := 1) (.inl rfl) j0 i0
      obtain ⟨v1, r1, t1⟩ := keyOf_facts (c := 1) (.inl rfl) j1 i1
      replace v0 := Lib.hid v0
      replace v1 := Lib.hid v1
      cases sm
      · have hcs := Lib.hid (distinct_cases (ra := ra) (rb := rb) hX0.out hX1.out j0 i0 j1 i1 hla.out hlb.out hA.range hB.range)
        go_enter Try.func7, Try.ntmps7
        go_wp2_with (fail)
        refine (awake4_any _).mono ?_
        rintro e w1 ⟨rfl, hb⟩
        have B1 := below_keep hb B0
        replace c0 := cell_keep hb c0
        replace c1 := cell_keep hb c1
        replace d0 := cell_keep hb d0
        replace d1 := cell_keep hb d1
        have hA1 := Lib.hid (hA.keep B1)
        have hB1 := Lib.hid (hB.keep B1)
        go_wp2_with (fail)

        have MK1 := Lib.hid (fun (W : World) (hb : Below w1.heap.size w1 W) => bmake_ok (X := 1 + k0 % 10) (K := keyOf 1 y0) A an acap ra W (hA1.out.keep hb) hX0.out v0.out r0 t0 hla.out)
        have ha1 := IntWalk.i64_in k0 (by omega)
        have hb1 : k0.tmod 10 = k0 % 10 := Int.tmod_eq_emod_of_nonneg (by omega)
        have hc1 := IntWalk.i64_in (k0 % 10) (by omega)
        have hd1 := IntWalk.i64_in (1 + k0 % 10) (by omega)
        have he1 := IntWalk.i64_in y0 (by omega)
        go_region_held3 (fun W => Below w1.heap.size w1 W ∧ W.cell? ⟨w.heap.size, 0, none⟩ = some (.int .u8 k0) ∧ W.cell? ⟨w.heap.size + 1, 0, none⟩ = some (.int .u8 y0)) (first | (go_keep; done) | ((repeat' apply And.intro) <;> first | (go_keep; done) | exact (Below.refl _ _).drew | exact below_keep hb4 (by go_keep) | exact cell_keep hb4 (by go_keep)))
          (first
            | (go_at_call 10; refine (long_any _ _ j0 i0).mono ?_; rintro e w' ⟨rfl, rfl⟩)
            | (go_at_call 11; refine (MK1.out _ ?_).mono ?_; exact And.left ‹Below w1.heap.size w1 _ ∧ _›; rintro e w4 ⟨A4, n4, c4, rfl, hs4, hb4⟩))
        have hS4 := And.left ‹Below w1.heap.size w1 w4 ∧ _›
        clear ha1 hb1 hc1 hd1 he1 MK1
        replace c0 := cell_keep hS4 c0
        replace c1 := cell_keep hS4 c1
        replace d0 := cell_keep hS4 d0
        replace d1 := cell_keep hS4 d1
        have B4 := Lib.hid (below_keep hS4 B1)
        have hA4 := Lib.hid (hA1.out.keep hS4)
        have hB4 := Lib.hid (hB1.out.keep hS4)
        replace hs4 := Lib.hid hs4
        clear hS4 hb4 B1 hA1 hB1
        go_wp2_with (fail)
        have MK2 := Lib.hid (fun (W : World) (hb : Below w4.heap.size w4 W) => bmake_ok (X := 1 + k1 % 10) (K := keyOf 1 y1) B bn bcap rb W (hB4.out.keep hb) hX1.out v1.out r1 t1 hlb.out)
        have ha2 := IntWalk.i64_in k1 (by omega)
        have hb2 : k1.tmod 10 = k1 % 10 := Int.tmod_eq_emod_of_nonneg (by omega)
        have hc2 := IntWalk.i64_in (k1 % 10) (by omega)
        have hd2 := IntWalk.i64_in (1 + k1 % 10) (by omega)
        have he2 := IntWalk.i64_in y1 (by omega)
        go_region_held3 (fun W => Below w4.heap.size w4 W ∧ W.cell? ⟨w.heap.size, 1, none⟩ = some (.int .u8 k1) ∧ W.cell? ⟨w.heap.size + 1, 1, none⟩ = some (.int .u8 y1)) (first | (go_keep; done) | ((repeat' apply And.intro) <;> first | (go_keep; done) | exact (Below.refl _ _).drew | exact below_keep hb5 (by go_keep) | exact cell_keep hb5 (by go_keep)))
          (first
            | (go_at_call 10; refine (long_any _ _ j1 i1).mono ?_; rintro e w' ⟨rfl, rfl⟩)
            | (go_at_call 11; refine (MK2.out _ ?_).mono ?_; exact And.left ‹Below w4.heap.size w4 _ ∧ _›; rintro e w5 ⟨A5, n5, c5, rfl, hs5, hb5⟩))
        have hS5 := And.left ‹Below w4.heap.size w4 w5 ∧ _›
        clear ha2 hb2 hc2 hd2 he2 MK2
        replace c0 := cell_keep hS5 c0
        replace c1 := cell_keep hS5 c1
        replace d0 := cell_keep hS5 d0
        replace d1 := cell_keep hS5 d1
        have B5 := Lib.hid (below_keep hS5 B4.out)
        have g1 := conv_sl (hA4.out.keep hS5)
        have g2 := conv_sl (hB4.out.keep hS5)
        have g3 := conv_sl (hs4.out.keep hS5)
        have g4 := conv_sl hs5
        clear hS5 hb5 hs5 hs4 hA4 hB4 B4
        generalize strOfNums (S4.boxOf (1 + k0 % 10) (keyOf 1 y0) ra) = S0 at *
        generalize strOfNums (S4.boxOf (1 + k1 % 10) (keyOf 1 y1) rb) = S1 at *
        rcases hcs.out with ⟨e1, e2, e3, e4⟩ | ⟨e4, hcs⟩
        · have e5 : Hid (S0 = S1) := e4
          subst e4
          go_wp2_with (fail)
          go_ret
          exact ⟨ret_bool (by simp [*]), B5.out⟩
        · have E4 := Lib.hid e4
          rcases hcs with e1 | ⟨e1, e2⟩ | ⟨e1, e2, e3⟩
          · go_wp2_with (fail)
            go_ret
            exact ⟨ret_bool (by have := E4.out; simp [*]), B5.out⟩
          · go_wp2_with (fail)
            go_ret
            exact ⟨ret_bool (by have := E4.out; simp [*]), B5.out⟩
          · have E3 := Lib.hid e3
            go_wp2_with (fail)
            go_ret
            have b4 : (S0.toList == S1.toList) = false := beq_eq_false_iff_ne.2 E4.out
            have b3 : ((strOfNums ra).toList == (strOfNums rb).toList) = false := beq_eq_false_iff_ne.2 E3.out
            exact ⟨ret_bool (by first | rw [b4, b3]; rfl | (simp; rw [b4, b3])), B5.out⟩
      · have hcs := Lib.hid (distinct_cases (ra := ra) (rb := ra) hX0.out hX1.out j0 i0 j1 i1 hla.out hla.out hA.range hA.range)
        go_enter Try.func7, Try.ntmps7
        go_wp2_with (fail)
        refine (awake4_any _).mono ?_
        rintro e w1 ⟨rfl, hb⟩
        have B1 := below_keep hb B0
        replace c0 := cell_keep hb c0
        replace c1 := cell_keep hb c1
        replace d0 := cell_keep hb d0
        replace d1 := cell_keep hb d1
        have hA1 := Lib.hid (hA.keep B1)
        have hB1 := Lib.hid (hB.keep B1)
        go_wp2_with (fail)

        have MK1 := Lib.hid (fun (W : World) (hb : Below w1.heap.size w1 W) => bmake_ok (X := 1 + k0 % 10) (K := keyOf 1 y0) A an acap ra W (hA1.out.keep hb) hX0.out v0.out r0 t0 hla.out)
        have ha1 := IntWalk.i64_in k0 (by omega)
        have hb1 : k0.tmod 10 = k0 % 10 := Int.tmod_eq_emod_of_nonneg (by omega)
        have hc1 := IntWalk.i64_in (k0 % 10) (by omega)
        have hd1 := IntWalk.i64_in (1 + k0 % 10) (by omega)
        have he1 := IntWalk.i64_in y0 (by omega)
        go_region_held3 (fun W => Below w1.heap.size w1 W ∧ W.cell? ⟨w.heap.size, 0, none⟩ = some (.int .u8 k0) ∧ W.cell? ⟨w.heap.size + 1, 0, none⟩ = some (.int .u8 y0)) (first | (go_keep; done) | ((repeat' apply And.intro) <;> first | (go_keep; done) | exact (Below.refl _ _).drew | exact below_keep hb4 (by go_keep) | exact cell_keep hb4 (by go_keep)))
          (first
            | (go_at_call 10; refine (long_any _ _ j0 i0).mono ?_; rintro e w' ⟨rfl, rfl⟩)
            | (go_at_call 11; refine (MK1.out _ ?_).mono ?_; exact And.left ‹Below w1.heap.size w1 _ ∧ _›; rintro e w4 ⟨A4, n4, c4, rfl, hs4, hb4⟩))
        have hS4 := And.left ‹Below w1.heap.size w1 w4 ∧ _›
        clear ha1 hb1 hc1 hd1 he1 MK1
        replace c0 := cell_keep hS4 c0
        replace c1 := cell_keep hS4 c1
        replace d0 := cell_keep hS4 d0
        replace d1 := cell_keep hS4 d1
        have B4 := Lib.hid (below_keep hS4 B1)
        have hA4 := Lib.hid (hA1.out.keep hS4)
        have hB4 := Lib.hid (hA1.out.keep hS4)
        replace hs4 := Lib.hid hs4
        clear hS4 hb4 B1 hA1 hB1
        go_wp2_with (fail)
        have MK2 := Lib.hid (fun (W : World) (hb : Below w4.heap.size w4 W) => bmake_ok (X := 1 + k1 % 10) (K := keyOf 1 y1) A an acap ra W (hB4.out.keep hb) hX1.out v1.out r1 t1 hla.out)
        have ha2 := IntWalk.i64_in k1 (by omega)
        have hb2 : k1.tmod 10 = k1 % 10 := Int.tmod_eq_emod_of_nonneg (by omega)
        have hc2 := IntWalk.i64_in (k1 % 10) (by omega)
        have hd2 := IntWalk.i64_in (1 + k1 % 10) (by omega)
        have he2 := IntWalk.i64_in y1 (by omega)
        go_region_held3 (fun W => Below w4.heap.size w4 W ∧ W.cell? ⟨w.heap.size, 1, none⟩ = some (.int .u8 k1) ∧ W.cell? ⟨w.heap.size + 1, 1, none⟩ = some (.int .u8 y1)) (first | (go_keep; done) | ((repeat' apply And.intro) <;> first | (go_keep; done) | exact (Below.refl _ _).drew | exact below_keep hb5 (by go_keep) | exact cell_keep hb5 (by go_keep)))
          (first
            | (go_at_call 10; refine (long_any _ _ j1 i1).mono ?_; rintro e w' ⟨rfl, rfl⟩)
            | (go_at_call 11; refine (MK2.out _ ?_).mono ?_; exact And.left ‹Below w4.heap.size w4 _ ∧ _›; rintro e w5 ⟨A5, n5, c5, rfl, hs5, hb5⟩))
        have hS5 := And.left ‹Below w4.heap.size w4 w5 ∧ _›
        clear ha2 hb2 hc2 hd2 he2 MK2
        replace c0 := cell_keep hS5 c0
        replace c1 := cell_keep hS5 c1
        replace d0 := cell_keep hS5 d0
        replace d1 := cell_keep hS5 d1
        have B5 := Lib.hid (below_keep hS5 B4.out)
        have g1 := conv_sl (hA4.out.keep hS5)
        have g2 := conv_sl (hB4.out.keep hS5)
        have g3 := conv_sl (hs4.out.keep hS5)
        have g4 := conv_sl hs5
        clear hS5 hb5 hs5 hs4 hA4 hB4 B4
        generalize strOfNums (S4.boxOf (1 + k0 % 10) (keyOf 1 y0) ra) = S0 at *
        generalize strOfNums (S4.boxOf (1 + k1 % 10) (keyOf 1 y1) ra) = S1 at *
        rcases hcs.out with ⟨e1, e2, e3, e4⟩ | ⟨e4, hcs⟩
        · have e5 : Hid (S0 = S1) := e4
          subst e4
          go_wp2_with (fail)
          go_ret
          exact ⟨ret_bool (by simp [*]), B5.out⟩
        · have E4 := Lib.hid e4
          rcases hcs with e1 | ⟨e1, e2⟩ | ⟨e1, e2, e3⟩
          · go_wp2_with (fail)
            go_ret
            exact ⟨ret_bool (by have := E4.out; simp [*]), B5.out⟩
          · go_wp2_with (fail)
            go_ret
            exact ⟨ret_bool (by have := E4.out; simp [*]), B5.out⟩
          · exact absurd trivial e3

end Go.Proofs.Ytcbneeckbpgmgaa
