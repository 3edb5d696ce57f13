/-
  The law FieldTrip: what was written is read as it was, whatever is in front of it and behind it.
-/
import Derived.Test.YtnipccnfdgdknaaFieldH
import Derived.Test.YtnipccnfdgdknaaDataP
namespace Go.Proofs.Ytnipccnfdgdknaa
open Go.RowKit

/-- The users' names are names. -/
theorem user_names (n m : Int) : (∀ z ∈ nums (userS n), z ≠ 0) ∧ (∀ z ∈ nums (realmS m), z ≠ 0) ∧ (nums (userS n)).length = 3 ∧ (nums (realmS m)).length = 3 ∧ S5.vPr (nums (userS n)) (nums ⟨#[]⟩) (nums (realmS m)) = true ∧ (userS n).size = 3 ∧ (realmS m).size = 3 := by
  rcases user_cases n with h | h | h <;> rcases realm_cases m with g | g | g <;> rw [h, g] <;> exact ⟨by decide, by decide, by decide, by decide, by decide, by decide, by decide⟩

set_option maxRecDepth 100000 in
set_option maxHeartbeats 6400000 in
theorem tripLaw_walk (FA : Option Addr) (fn fcap : Nat) (fs : List Int) (RA : Option Addr) (rn rcap : Nat) (rs : List Int) (n m o who : Int) (l : Bool) (w : World) (hF : Sl w FA fn fcap fs) (hR : Sl w RA rn rcap rs)
    (n0 : 0 ≤ n) (n1 : n ≤ 4294967295) (m0 : 0 ≤ m) (m1 : m ≤ 65535) (o0 : 0 ≤ o) (o1 : o ≤ 255) (p0 : 0 ≤ who) (p1 : who ≤ 255) :
    Calls Try.prog 5 #[.slice FA fn fcap, .slice RA rn rcap, .int .u32 n, .int .u16 m, .int .u8 o, .int .u8 who, .bool l] w fun e w' => e = .returned (.bool true) ∧ Below w.heap.size w w' := by
  have hmaxf := hF.max
  have hmaxr := hR.max
  unfold maxLen at hmaxf hmaxr
  by_cases h1 : 200 < (fn : Int) ∨ 200 < (rn : Int)
  · rcases h1 with h1 | h1
    all_goals
      go_enter Try.func5, Try.ntmps5
      go_wp2_with (fail)
      refine (awake5_any _).mono ?_
      rintro e w1 ⟨rfl, B⟩
      go_wp2_with (fail)
      all_goals
        go_ret
        exact ⟨rfl, B⟩
  · have h2 : (fn : Int) ≤ 200 := by omega
    have h3 : (rn : Int) ≤ 200 := by omega
    clear h1
    obtain ⟨ua, uc, ul, rl, uv, us, rz⟩ := user_names who (who / 3)
    have T := S5.trip fs rs (nums (userS who)) (nums ⟨#[]⟩) (nums (realmS (who / 3))) l n m o fn hF.len n0 n1 m0 m1 o0 o1 ua (by decide) uc (by omega) (by decide) (by omega) uv
    obtain ⟨⟨t1, t2, t3⟩, ⟨t4, t5, t6⟩, ⟨t7, t8, t9⟩, ⟨t10, t11, t12, t13, t14⟩⟩ := T
    replace t1 := Lib.hid t1
    replace t2 := Lib.hid t2
    replace t3 := Lib.hid t3
    replace t4 := Lib.hid t4
    replace t5 := Lib.hid t5
    replace t6 := Lib.hid t6
    replace t7 := Lib.hid t7
    replace t8 := Lib.hid t8
    replace t9 := Lib.hid t9
    replace t10 := Lib.hid t10
    replace t11 := Lib.hid t11
    replace t12 := Lib.hid t12
    replace t13 := Lib.hid t13
    replace t14 := Lib.hid t14
    have l4 := Lib.hid (S5.num4_len l n)
    have l2 := Lib.hid (S5.num2_len l m)
    have l3 := Lib.hid (show (S5.three (nums (userS who)) (nums ⟨#[]⟩) (nums (realmS (who / 3)))).length = 9 by simp [S5.three, S5.text, ul, rl]; rfl)
    have hlf := Lib.hid hF.len
    have hlr := Lib.hid hR.len
    clear ua uc ul rl uv
    go_enter Try.func5, Try.ntmps5
    go_wp2_with (fail)
    refine (awake5_any _).mono ?_
    rintro e w1 ⟨rfl, B⟩
    have hF1 := Lib.hid (hF.keep B)
    have hR1 := Lib.hid (hR.keep B)
    replace B := Lib.hid B
    go_wp2_with (fail)
    refine (user_any _ _ p0 p1).mono ?_
    rintro e w2 ⟨rfl, hb2⟩
    have t15 := Lib.hid (show S5.prN (S5.whole fs rs (nums (userS who)) (nums ⟨#[]⟩) (nums (realmS (who / 3))) l n m o) ((fn : Int) + 7) = (fn : Int) + 16 by rw [t14.out, l3.out]; omega)
    clear t14
    generalize userS who = ua at *
    generalize realmS (who / 3) = uc at *
    have Ba : Below w2.heap.size w2 (w2.alloc (.cells #[.string ua, .string ⟨#[]⟩, .string uc] 24)) := (Below.refl _ _).alloc (Nat.le_refl _) _
    have c0 : (w2.alloc (.cells #[.string ua, .string ⟨#[]⟩, .string uc] 24)).cell? ⟨w2.heap.size, 0, none⟩ = some (.string ua) := by simp [go_sem]
    have c1 : (w2.alloc (.cells #[.string ua, .string ⟨#[]⟩, .string uc] 24)).cell? ⟨w2.heap.size, 1, none⟩ = some (.string ⟨#[]⟩) := by simp [go_sem]
    have c2 : (w2.alloc (.cells #[.string ua, .string ⟨#[]⟩, .string uc] 24)).cell? ⟨w2.heap.size, 2, none⟩ = some (.string uc) := by simp [go_sem]
    have hF2 := Lib.hid ((hF1.out.keep hb2).keep Ba)
    have hR2 := Lib.hid ((hR1.out.keep hb2).keep Ba)
    have B2 := Lib.hid (below_keep Ba (below_keep hb2 B.out))
    clear hb2 Ba hF1 hR1 B
    go_wp2_with (fail)
    refine (fputNumber_any _ _ _ fs n l _ hF2.out (by omega)).mono ?_
    rintro e w3 ⟨A3, n3, c3, rfl, hs3, hb3, _⟩
    replace c0 := cell_keep hb3 c0
    replace c1 := cell_keep hb3 c1
    replace c2 := cell_keep hb3 c2
    have hR3 := Lib.hid (hR2.out.keep hb3)
    have B3 := Lib.hid (below_keep hb3 B2.out)
    have e3 := hs3.len
    rw [List.length_append, hlf.out, l4.out] at e3
    replace hs3 := Lib.hid hs3
    clear hb3 hF2 hR2 B2
    go_wp2_with (fail)
    refine (fputShort_any _ _ _ _ m l _ hs3.out (by omega)).mono ?_
    rintro e w4 ⟨A4, n4, c4, rfl, hs4, hb4, _⟩
    replace c0 := cell_keep hb4 c0
    replace c1 := cell_keep hb4 c1
    replace c2 := cell_keep hb4 c2
    have hR4 := Lib.hid (hR3.out.keep hb4)
    have B4 := Lib.hid (below_keep hb4 B3.out)
    have e4 := hs4.len
    rw [List.length_append, hs3.out.len, l2.out] at e4
    replace hs4 := Lib.hid hs4
    clear hb4 hs3 hR3 B3
    go_wp2_with (fail)
    refine (fputOctet_any _ _ _ _ o _ hs4.out (by omega)).mono ?_
    rintro e w5 ⟨A5, n5, c5, rfl, hs5, hb5, _⟩
    replace c0 := cell_keep hb5 c0
    replace c1 := cell_keep hb5 c1
    replace c2 := cell_keep hb5 c2
    have hR5 := Lib.hid (hR4.out.keep hb5)
    have B5 := Lib.hid (below_keep hb5 B4.out)
    have e5 := hs5.len
    rw [List.length_append, hs4.out.len] at e5
    replace e5 : n4 + 1 = n5 := e5
    replace hs5 := Lib.hid hs5
    clear hb5 hs4 hR4 B4
    go_wp2_with (fail)
    refine (fputPrincipal_any _ _ _ _ ua ⟨#[]⟩ uc _ hs5.out (by omega) (by omega) (by decide) (by omega)).mono ?_
    rintro e w6 ⟨A6, n6, c6, rfl, hs6, hb6, _⟩
    replace c0 := cell_keep hb6 c0
    replace c1 := cell_keep hb6 c1
    replace c2 := cell_keep hb6 c2
    have hR6 := Lib.hid (hR5.out.keep hb6)
    have B6 := Lib.hid (below_keep hb6 B5.out)
    have e6 := hs6.len
    rw [List.length_append, hs5.out.len, l3.out] at e6
    have e7 : n6 = fn + 16 := by omega
    clear e3 e4 e5 e6
    subst e7
    replace hs6 := Lib.hid hs6
    clear hb6 hs5 hR5 B5
    have Bb := Lib.hid (fun (x : World) (o : Obj) => (Below.refl x.heap.size x).alloc (Nat.le_refl _) o)
    have hO := Lib.hid (Own.new .u8 5 (w := w6) (Nat.le_refl _) [] (by decide))
    have hrg := Lib.hid (show ∀ z ∈ S5.whole fs rs (nums ua) (nums ⟨#[]⟩) (nums uc) l n m o, 0 ≤ z ∧ z ≤ 255 by
      intro z hz
      unfold S5.whole at hz
      rcases List.mem_append.1 hz with hz | hz
      · exact hs6.out.range z hz
      · exact hR6.out.range z hz)
    go_wp2_with (at_builtin; first
      | (refine wpList_push_row rfl (.tmp 62) (.tmp 63) 22 rfl Try.underlying22 u8_infoB (base := w6.heap.size) (v := .slice (some ⟨w6.heap.size, 0, none⟩) 0 0) (zs := []) (A := A6) (m := fn + 16) (c := c6) rfl rfl hO.out (hs6.out.keep (Bb.out w6 _)).row (by simp; omega) (by decide) (by simp) ?_; intro v7 w7 O7 hg7 _; have B7 := Lib.hid (Own.grown (Bb.out w6 _) hO.out hg7); rw [List.nil_append] at O7; replace O7 := Lib.hid O7; clear hg7)
      | (refine wpList_push_row rfl (.tmp 64) (.tmp 65) 22 rfl Try.underlying22 u8_infoB (base := w6.heap.size) (v := v7) (ys := rs) (A := RA) (m := rn) (c := rcap) rfl rfl O7.out (hR6.out.keep B7.out).row (by rw [hs6.out.len]; omega) (by decide) B7.out.size ?_; intro v8 w8 O8 hg8 _; have B8 := Own.grown B7.out O7.out hg8; clear hg8; replace O8 : Own .u8 5 w8 w6.heap.size v8 (S5.whole fs rs (nums ua) (nums ⟨#[]⟩) (nums uc) l n m o) := O8; obtain ⟨A8, n8, c8, rfl, hs8⟩ := O8.sl hrg.out; replace c0 := cell_keep B8 c0; replace c1 := cell_keep B8 c1; replace c2 := cell_keep B8 c2; replace hs8 := Lib.hid hs8; have B9 := Lib.hid (below_keep B8 B6.out); clear B8))
    have hn8 : n8 ≤ 100000 := by
      have e8 := hs8.out.len
      unfold S5.whole at e8
      rw [List.length_append, hs6.out.len, hlr.out] at e8
      omega
    clear hO hR6 hs6 hrg O7
    refine (fnumber_any _ _ _ _ (fn : Int) l _ hs8.out hn8).mono ?_
    rintro e w9 ⟨rfl, hb9⟩
    rw [t1.out, t2.out, t3.out]
    replace c0 := cell_keep hb9 c0
    replace c1 := cell_keep hb9 c1
    replace c2 := cell_keep hb9 c2
    replace hs8 := Lib.hid (hs8.out.keep hb9)
    replace B9 := Lib.hid (below_keep hb9 B9.out)
    clear hb9
    go_wp2_with (fail)
    refine (fshort_any _ _ _ _ ((fn : Int) + 4) l _ hs8.out hn8).mono ?_
    rintro e w10 ⟨rfl, hb10⟩
    rw [t4.out, t5.out, t6.out]
    replace c0 := cell_keep hb10 c0
    replace c1 := cell_keep hb10 c1
    replace c2 := cell_keep hb10 c2
    replace hs8 := Lib.hid (hs8.out.keep hb10)
    replace B9 := Lib.hid (below_keep hb10 B9.out)
    clear hb10
    go_wp2_with (fail)
    refine (foctet_any _ _ _ _ ((fn : Int) + 6) _ hs8.out hn8).mono ?_
    rintro e w11 ⟨rfl, hb11⟩
    rw [t7.out, t8.out, t9.out]
    replace c0 := cell_keep hb11 c0
    replace c1 := cell_keep hb11 c1
    replace c2 := cell_keep hb11 c2
    replace hs8 := Lib.hid (hs8.out.keep hb11)
    replace B9 := Lib.hid (below_keep hb11 B9.out)
    clear hb11
    go_wp2_with (fail)
    refine (fprincipal_any _ _ _ _ ((fn : Int) + 7) _ hs8.out hn8).mono ?_
    rintro e w12 ⟨rfl, hb12⟩
    rw [t11.out, t12.out, t13.out, t10.out, t15.out, str_nums, str_nums, str_nums]
    replace c0 := cell_keep hb12 c0
    replace c1 := cell_keep hb12 c1
    replace c2 := cell_keep hb12 c2
    have zl := cell_lt c0
    have B12 := below_keep hb12 B9.out
    clear hb12
    go_wp2_with (fail)
    go_ret
    exact ⟨ret_bool (by simp), by first | exact B12.alloc B12.size _ | exact B12⟩

end Go.Proofs.Ytnipccnfdgdknaa
