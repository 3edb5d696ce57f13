/-
  The law KdcErrors: the bytes of any error reply, or the error, that they are decoded as they were, and the text of any code.
-/
import Derived.Test.YtkhkmgblgonfoaaDoorQKdE
import Derived.Deep.DeepCutAuto
namespace Go.Proofs.YtkhkmgblgonfoaaDoor
open Go.RowKit

set_option maxRecDepth 100000 in
set_option maxHeartbeats 6400000 in
theorem errorsLaw9_walk (t : S9e.Er) (who code : Int) (tx : ByteArray) (little : Bool) (w : World) (f : t.Fit) (h0 : 0 ≤ who) (h1 : who ≤ 255) (c0 : -9223372036854775808 ≤ code) (c1 : code ≤ 9223372036854775807) (htx : tx.size ≤ maxLen) (hT : TabAt w) :
    Calls Tryd.prog 3 #[t.val, .int .u8 who, .int .i64 code, .string tx, .bool little] w fun e w' => e = .returned (.bool true) ∧ Below w.heap.size w w' := by
  have TAB := Lib.hid hT
  clear hT
  have Bw := Lib.hid (show Below w.heap.size w (w.alloc (.cells t.cells 26)) from (Below.refl _ _).alloc (Nat.le_refl _) _)
  have R0 := Lib.hid (ErAt.new w t 26)
  unfold S9e.Er.val S9e.Er.cells
  unfold S9e.Er.cells at Bw R0
  go_enter Tryd.func3, Tryd.ntmps3
  go_wp2_with (fail)
  refine (awake9_any _).mono ?_
  rintro e w1 ⟨rfl, hb1⟩
  have R1 := Lib.hid (R0.out.keep hb1)
  have TYc := R1.out
  obtain ⟨x0, x1, x2, x3, x4, x5, x6⟩ := TYc
  have B1 := Lib.hid (below_keep hb1 Bw.out)
  clear hb1 R0
  go_wp2_with (fail)
  clear x0 x1 x2 x3 x4 x5 x6
  refine (long9_any w1.heap.size 5 [t.a, t.b, t.c, t.s, tx] _ rfl (by decide) (by
    intro i s hs
    match i, hs with
    | 0, hs => simp at hs; subst hs; exact ⟨by simp [go_sem], f.a⟩
    | 1, hs => simp at hs; subst hs; exact ⟨by simp [go_sem], f.b⟩
    | 2, hs => simp at hs; subst hs; exact ⟨by simp [go_sem], f.c⟩
    | 3, hs => simp at hs; subst hs; exact ⟨by simp [go_sem], f.s⟩
    | 4, hs => simp at hs; subst hs; exact ⟨by simp [go_sem], htx⟩
    | i + 5, hs => simp at hs)).mono ?_
  rintro e w2 ⟨q, rfl, hb2⟩
  have hba : Below w1.heap.size w1 (w1.alloc (.cells #[.string t.a, .string t.b, .string t.c, .string t.s, .string tx] 9)) := (Below.refl _ _).alloc (Nat.le_refl _) _
  have R2 := Lib.hid ((R1.out.keep hba).keep hb2)
  have B2 := Lib.hid (below_keep hb2 (below_keep hba B1.out))
  clear hb2 hba R1 B1
  rcases q
  · go_wp2_with (fail)
    refine (user_any who _ h0 h1).mono ?_
    rintro e w4 ⟨rfl, hb4⟩
    obtain ⟨m, hm⟩ : ∃ m : S9e.Er, m = ⟨little, userS who, ⟨#[]⟩, realmS (who / 3), who * 1000, 1 + who % 99, tx⟩ := ⟨_, rfl⟩
    have fm : m.Fit := by
      rw [hm]
      exact ⟨userS_size who, (by show (⟨#[]⟩ : ByteArray).size ≤ maxLen; decide), realmS_size (who / 3), by constructor <;> (simp; omega), by constructor <;> (simp; omega), htx⟩
    have e1 : little = m.l := by rw [hm]
    have e2 : userS who = m.a := by rw [hm]
    have e3 : (⟨#[]⟩ : ByteArray) = m.b := by rw [hm]
    have e4 : realmS (who / 3) = m.c := by rw [hm]
    have e5 : who * 1000 = m.tm := by rw [hm]
    have e6 : 1 + who % 99 = m.co := by rw [hm]
    have e7 : tx = m.s := by rw [hm]
    have hMK : Hid ((#[.bool little, .string (userS who), .string ⟨#[]⟩, .string (realmS (who / 3)), .int .i64 (who * 1000), .int .i64 (1 + who % 99), .string tx] : Array Value) = #[.bool m.l, .string m.a, .string m.b, .string m.c, .int .i64 m.tm, .int .i64 m.co, .string m.s]) := Lib.hid (by rw [hm])
    have hb5 : Below w4.heap.size w4 (w4.alloc (.cells #[.bool m.l, .string m.a, .string m.b, .string m.c, .int .i64 m.tm, .int .i64 m.co, .string m.s] 26)) := (Below.refl _ _).alloc (Nat.le_refl _) _
    have U5 := ErAt.new w4 m 26
    unfold S9e.Er.cells at U5
    have R5 := Lib.hid ((R2.out.keep hb4).keep hb5)
    have B5 := Lib.hid (below_keep hb5 (below_keep hb4 B2.out))
    replace U5 := Lib.hid U5
    clear hb4 hb5 R2 B2 e1 e2 e3 e4 e5 e6 e7 hm
    replace fm := Lib.hid fm
    go_upto_region 6 with (fail)
    rw [hMK.out]
    obtain ⟨mg, hmg⟩ : ∃ g, g = w4.heap.size := ⟨_, rfl⟩
    rw [← hmg] at U5
    rw [← hmg]
    clear hmg hMK
    generalize (w4.alloc (.cells #[.bool m.l, .string m.a, .string m.b, .string m.c, .int .i64 m.tm, .int .i64 m.co, .string m.s] 26)) = w5 at U5 R5 B5 ⊢
    have TAB5 := Lib.hid (TAB.out.keep B5.out)
    go_wp2_with (fail)
    go_loopw [12] (fun i wr => ∃ p : Nat, p ≤ 3 ∧ i = .int .i64 p ∧ Below w5.heap.size w5 wr) (fun i _ => 3 - (intOf i).toNat)
    case atStart => exact ⟨0, by omega, rfl, Below.refl _ _⟩
    case round =>
      obtain ⟨p, hp, rfl, Br⟩ := hrel
      by_cases hlt : p < 3
      · have Rr := Lib.hid (R5.out.keep Br)
        have Ur := Lib.hid (U5.out.keep Br)
        have TYc := Rr.out
        obtain ⟨x0, x1, x2, x3, x4, x5, x6⟩ := TYc
        have TYc := Ur.out
        obtain ⟨z0, z1, z2, z3, z4, z5, z6⟩ := TYc
        have rl := cell_lt x0
        have zl := cell_lt z0
        rcases (show p = 0 ∨ p = 1 ∨ p = 2 by omega) with rfl | rfl | rfl
        · have hba : Below wr.heap.size wr (wr.alloc (.cells #[.bool t.l, .string t.a, .string t.b, .string t.c, .int .i64 t.tm, .int .i64 t.co, .string t.s, .bool m.l, .string m.a, .string m.b, .string m.c, .int .i64 m.tm, .int .i64 m.co, .string m.s, .bool m.l, .string m.a, .string m.b, .string m.c, .int .i64 m.tm, .int .i64 m.co, .string m.s] 26)) := (Below.refl _ _).alloc (Nat.le_refl _) _
          have hbb : Below (wr.alloc (.cells #[.bool t.l, .string t.a, .string t.b, .string t.c, .int .i64 t.tm, .int .i64 t.co, .string t.s, .bool m.l, .string m.a, .string m.b, .string m.c, .int .i64 m.tm, .int .i64 m.co, .string m.s, .bool m.l, .string m.a, .string m.b, .string m.c, .int .i64 m.tm, .int .i64 m.co, .string m.s] 26)).heap.size (wr.alloc (.cells #[.bool t.l, .string t.a, .string t.b, .string t.c, .int .i64 t.tm, .int .i64 t.co, .string t.s, .bool m.l, .string m.a, .string m.b, .string m.c, .int .i64 m.tm, .int .i64 m.co, .string m.s, .bool m.l, .string m.a, .string m.b, .string m.c, .int .i64 m.tm, .int .i64 m.co, .string m.s] 26)) ((wr.alloc (.cells #[.bool t.l, .string t.a, .string t.b, .string t.c, .int .i64 t.tm, .int .i64 t.co, .string t.s, .bool m.l, .string m.a, .string m.b, .string m.c, .int .i64 m.tm, .int .i64 m.co, .string m.s, .bool m.l, .string m.a, .string m.b, .string m.c, .int .i64 m.tm, .int .i64 m.co, .string m.s] 26)).alloc (.cells #[.bool t.l, .string t.a, .string t.b, .string t.c, .int .i64 t.tm, .int .i64 t.co, .string t.s] 26)) := (Below.refl _ _).alloc (Nat.le_refl _) _
          have XT := BoxAt.new (wr.alloc (.cells #[.bool t.l, .string t.a, .string t.b, .string t.c, .int .i64 t.tm, .int .i64 t.co, .string t.s, .bool m.l, .string m.a, .string m.b, .string m.c, .int .i64 m.tm, .int .i64 m.co, .string m.s, .bool m.l, .string m.a, .string m.b, .string m.c, .int .i64 m.tm, .int .i64 m.co, .string m.s] 26)) (erL t) 26
          unfold erL at XT
          rw [show (wr.alloc (.cells #[.bool t.l, .string t.a, .string t.b, .string t.c, .int .i64 t.tm, .int .i64 t.co, .string t.s, .bool m.l, .string m.a, .string m.b, .string m.c, .int .i64 m.tm, .int .i64 m.co, .string m.s, .bool m.l, .string m.a, .string m.b, .string m.c, .int .i64 m.tm, .int .i64 m.co, .string m.s] 26)).heap.size = wr.heap.size + 1 by simp] at XT
          have hB := Lib.hid (below_keep hbb (below_keep hba Br))
          have hT1 := Lib.hid (Nat.le_trans Br.size (Nat.le_succ _))
          clear hba hbb
          have TY := ErAt.ofL XT
          replace TY := Lib.hid TY
          go_wp2_with (fail)
          obtain ⟨T, hT⟩ : ∃ T, T = wr.heap.size + 1 := ⟨_, rfl⟩
          rw [← hT] at TY
          rw [← hT]
          clear hT XT hT1
          generalize ((wr.alloc (.cells #[.bool t.l, .string t.a, .string t.b, .string t.c, .int .i64 t.tm, .int .i64 t.co, .string t.s, .bool m.l, .string m.a, .string m.b, .string m.c, .int .i64 m.tm, .int .i64 m.co, .string m.s, .bool m.l, .string m.a, .string m.b, .string m.c, .int .i64 m.tm, .int .i64 m.co, .string m.s] 26)).alloc (.cells #[.bool t.l, .string t.a, .string t.b, .string t.c, .int .i64 t.tm, .int .i64 t.co, .string t.s] 26)) = w20 at TY hB ⊢
          replace TY := TY.out
          have B20 := hB
          clear hB
          clear x0 x1 x2 x3 x4 x5 x6
          clear z0 z1 z2 z3 z4 z5 z6
          clear rl zl
          clear Br Rr Ur
          have EC := Lib.hid (fun W => kerenc_any t f W)
          have EF := Lib.hid (fun W => erencode_any t f W)
          unfold S9e.Er.val S9e.Er.cells at EC EF
          have TYc := TY
          obtain ⟨x0, x1, x2, x3, x4, x5, x6⟩ := TYc
          go_wp2_with (fail)
          refine (EC.out _).mono ?_
          rintro e w21 ⟨A1, n1, c1, rfl, hs1, hb1, _⟩
          clear x0 x1 x2 x3 x4 x5 x6
          replace TY := TY.keep hb1
          have TYc := TY
          obtain ⟨x0, x1, x2, x3, x4, x5, x6⟩ := TYc
          have B21 := Lib.hid (below_keep hb1 B20.out)
          clear hb1 B20
          replace hs1 := Lib.hid hs1
          go_wp2_with (fail)
          refine (EF.out _).mono ?_
          rintro e w22 ⟨A2, n2, c2, rfl, hs2, hb2, _⟩
          clear x0 x1 x2 x3 x4 x5 x6
          replace TY := TY.keep hb2
          have B22 := Lib.hid (below_keep hb2 B21.out)
          replace hs1 := Lib.hid (hs1.out.keep hb2)
          clear hb2 B21 EC EF
          have u1 := conv_sl hs1.out
          have u2 := conv_sl hs2
          clear hs2
          by_cases hc : S9e.chkE t = 0
          · have hne : (S9e.chkE t == 0) = true := by rw [hc]; rfl
            have hd := S9e.dec_enc f hc
            have he : S9e.encB t = S9e.enc t := by unfold S9e.encB; rw [if_pos hc]
            have hn1 : n1 ≤ 100000 := by have := hs1.out.len; have := S9e.encB_len t; omega
            have DC := kerdec_any A1 n1 c1 _ w22 hs1.out hn1
            unfold ErDec at DC
            rw [he, hd.1, hd.2] at DC
            unfold S9e.Er.val S9e.Er.cells at DC
            replace DC := Lib.hid DC
            clear hd he hc
            go_wp2_with (fail)
            refine DC.out.mono ?_
            rintro e w23 ⟨rfl, hb3⟩
            have TY3 := TY.keep hb3
            have TYc := TY3
            obtain ⟨x0, x1, x2, x3, x4, x5, x6⟩ := TYc
            have B23 := Lib.hid (below_keep hb3 B22.out)
            have ty := cell_lt x0
            clear hb3 B22 TY
            go_wp2_with (fail)
            go_roundw
            case rel => exact ⟨1, by omega, rfl, B23.out.alloc B23.out.size _⟩
            case measure => simp [intOf]
          · have hne : (S9e.chkE t == 0) = false := by simpa using hc
            clear hc
            go_wp2_with (fail)
            go_roundw
            case rel => exact ⟨1, by omega, rfl, B22.out⟩
            case measure => simp [intOf]
        · have hba : Below wr.heap.size wr (wr.alloc (.cells #[.bool t.l, .string t.a, .string t.b, .string t.c, .int .i64 t.tm, .int .i64 t.co, .string t.s, .bool m.l, .string m.a, .string m.b, .string m.c, .int .i64 m.tm, .int .i64 m.co, .string m.s, .bool m.l, .string m.a, .string m.b, .string m.c, .int .i64 m.tm, .int .i64 m.co, .string m.s] 26)) := (Below.refl _ _).alloc (Nat.le_refl _) _
          have hbb : Below (wr.alloc (.cells #[.bool t.l, .string t.a, .string t.b, .string t.c, .int .i64 t.tm, .int .i64 t.co, .string t.s, .bool m.l, .string m.a, .string m.b, .string m.c, .int .i64 m.tm, .int .i64 m.co, .string m.s, .bool m.l, .string m.a, .string m.b, .string m.c, .int .i64 m.tm, .int .i64 m.co, .string m.s] 26)).heap.size (wr.alloc (.cells #[.bool t.l, .string t.a, .string t.b, .string t.c, .int .i64 t.tm, .int .i64 t.co, .string t.s, .bool m.l, .string m.a, .string m.b, .string m.c, .int .i64 m.tm, .int .i64 m.co, .string m.s, .bool m.l, .string m.a, .string m.b, .string m.c, .int .i64 m.tm, .int .i64 m.co, .string m.s] 26)) ((wr.alloc (.cells #[.bool t.l, .string t.a, .string t.b, .string t.c, .int .i64 t.tm, .int .i64 t.co, .string t.s, .bool m.l, .string m.a, .string m.b, .string m.c, .int .i64 m.tm, .int .i64 m.co, .string m.s, .bool m.l, .string m.a, .string m.b, .string m.c, .int .i64 m.tm, .int .i64 m.co, .string m.s] 26)).alloc (.cells #[.bool m.l, .string m.a, .string m.b, .string m.c, .int .i64 m.tm, .int .i64 m.co, .string m.s] 26)) := (Below.refl _ _).alloc (Nat.le_refl _) _
          have XT := BoxAt.new (wr.alloc (.cells #[.bool t.l, .string t.a, .string t.b, .string t.c, .int .i64 t.tm, .int .i64 t.co, .string t.s, .bool m.l, .string m.a, .string m.b, .string m.c, .int .i64 m.tm, .int .i64 m.co, .string m.s, .bool m.l, .string m.a, .string m.b, .string m.c, .int .i64 m.tm, .int .i64 m.co, .string m.s] 26)) (erL m) 26
          unfold erL at XT
          rw [show (wr.alloc (.cells #[.bool t.l, .string t.a, .string t.b, .string t.c, .int .i64 t.tm, .int .i64 t.co, .string t.s, .bool m.l, .string m.a, .string m.b, .string m.c, .int .i64 m.tm, .int .i64 m.co, .string m.s, .bool m.l, .string m.a, .string m.b, .string m.c, .int .i64 m.tm, .int .i64 m.co, .string m.s] 26)).heap.size = wr.heap.size + 1 by simp] at XT
          have hB := Lib.hid (below_keep hbb (below_keep hba Br))
          have hT1 := Lib.hid (Nat.le_trans Br.size (Nat.le_succ _))
          clear hba hbb
          have TY := ErAt.ofL XT
          replace TY := Lib.hid TY
          go_wp2_with (fail)
          obtain ⟨T, hT⟩ : ∃ T, T = wr.heap.size + 1 := ⟨_, rfl⟩
          rw [← hT] at TY
          rw [← hT]
          clear hT XT hT1
          generalize ((wr.alloc (.cells #[.bool t.l, .string t.a, .string t.b, .string t.c, .int .i64 t.tm, .int .i64 t.co, .string t.s, .bool m.l, .string m.a, .string m.b, .string m.c, .int .i64 m.tm, .int .i64 m.co, .string m.s, .bool m.l, .string m.a, .string m.b, .string m.c, .int .i64 m.tm, .int .i64 m.co, .string m.s] 26)).alloc (.cells #[.bool m.l, .string m.a, .string m.b, .string m.c, .int .i64 m.tm, .int .i64 m.co, .string m.s] 26)) = w20 at TY hB ⊢
          replace TY := TY.out
          have B20 := hB
          clear hB
          clear x0 x1 x2 x3 x4 x5 x6
          clear z0 z1 z2 z3 z4 z5 z6
          clear rl zl
          clear Br Rr Ur
          have EC := Lib.hid (fun W => kerenc_any m fm.out W)
          have EF := Lib.hid (fun W => erencode_any m fm.out W)
          unfold S9e.Er.val S9e.Er.cells at EC EF
          have TYc := TY
          obtain ⟨x0, x1, x2, x3, x4, x5, x6⟩ := TYc
          go_wp2_with (fail)
          refine (EC.out _).mono ?_
          rintro e w21 ⟨A1, n1, c1, rfl, hs1, hb1, _⟩
          clear x0 x1 x2 x3 x4 x5 x6
          replace TY := TY.keep hb1
          have TYc := TY
          obtain ⟨x0, x1, x2, x3, x4, x5, x6⟩ := TYc
          have B21 := Lib.hid (below_keep hb1 B20.out)
          clear hb1 B20
          replace hs1 := Lib.hid hs1
          go_wp2_with (fail)
          refine (EF.out _).mono ?_
          rintro e w22 ⟨A2, n2, c2, rfl, hs2, hb2, _⟩
          clear x0 x1 x2 x3 x4 x5 x6
          replace TY := TY.keep hb2
          have B22 := Lib.hid (below_keep hb2 B21.out)
          replace hs1 := Lib.hid (hs1.out.keep hb2)
          clear hb2 B21 EC EF
          have u1 := conv_sl hs1.out
          have u2 := conv_sl hs2
          clear hs2
          by_cases hc : S9e.chkE m = 0
          · have hne : (S9e.chkE m == 0) = true := by rw [hc]; rfl
            have hd := S9e.dec_enc fm.out hc
            have he : S9e.encB m = S9e.enc m := by unfold S9e.encB; rw [if_pos hc]
            have hn1 : n1 ≤ 100000 := by have := hs1.out.len; have := S9e.encB_len m; omega
            have DC := kerdec_any A1 n1 c1 _ w22 hs1.out hn1
            unfold ErDec at DC
            rw [he, hd.1, hd.2] at DC
            unfold S9e.Er.val S9e.Er.cells at DC
            replace DC := Lib.hid DC
            clear hd he hc
            go_wp2_with (fail)
            refine DC.out.mono ?_
            rintro e w23 ⟨rfl, hb3⟩
            have TY3 := TY.keep hb3
            have TYc := TY3
            obtain ⟨x0, x1, x2, x3, x4, x5, x6⟩ := TYc
            have B23 := Lib.hid (below_keep hb3 B22.out)
            have ty := cell_lt x0
            clear hb3 B22 TY
            go_wp2_with (fail)
            go_roundw
            case rel => exact ⟨2, by omega, rfl, B23.out.alloc B23.out.size _⟩
            case measure => simp [intOf]
          · have hne : (S9e.chkE m == 0) = false := by simpa using hc
            clear hc
            go_wp2_with (fail)
            go_roundw
            case rel => exact ⟨2, by omega, rfl, B22.out⟩
            case measure => simp [intOf]
        · have hba : Below wr.heap.size wr (wr.alloc (.cells #[.bool t.l, .string t.a, .string t.b, .string t.c, .int .i64 t.tm, .int .i64 t.co, .string t.s, .bool m.l, .string m.a, .string m.b, .string m.c, .int .i64 m.tm, .int .i64 m.co, .string m.s, .bool m.l, .string m.a, .string m.b, .string m.c, .int .i64 m.tm, .int .i64 m.co, .string m.s] 26)) := (Below.refl _ _).alloc (Nat.le_refl _) _
          have hbb : Below (wr.alloc (.cells #[.bool t.l, .string t.a, .string t.b, .string t.c, .int .i64 t.tm, .int .i64 t.co, .string t.s, .bool m.l, .string m.a, .string m.b, .string m.c, .int .i64 m.tm, .int .i64 m.co, .string m.s, .bool m.l, .string m.a, .string m.b, .string m.c, .int .i64 m.tm, .int .i64 m.co, .string m.s] 26)).heap.size (wr.alloc (.cells #[.bool t.l, .string t.a, .string t.b, .string t.c, .int .i64 t.tm, .int .i64 t.co, .string t.s, .bool m.l, .string m.a, .string m.b, .string m.c, .int .i64 m.tm, .int .i64 m.co, .string m.s, .bool m.l, .string m.a, .string m.b, .string m.c, .int .i64 m.tm, .int .i64 m.co, .string m.s] 26)) ((wr.alloc (.cells #[.bool t.l, .string t.a, .string t.b, .string t.c, .int .i64 t.tm, .int .i64 t.co, .string t.s, .bool m.l, .string m.a, .string m.b, .string m.c, .int .i64 m.tm, .int .i64 m.co, .string m.s, .bool m.l, .string m.a, .string m.b, .string m.c, .int .i64 m.tm, .int .i64 m.co, .string m.s] 26)).alloc (.cells #[.bool m.l, .string m.a, .string m.b, .string m.c, .int .i64 m.tm, .int .i64 m.co, .string m.s] 26)) := (Below.refl _ _).alloc (Nat.le_refl _) _
          have XT := BoxAt.new (wr.alloc (.cells #[.bool t.l, .string t.a, .string t.b, .string t.c, .int .i64 t.tm, .int .i64 t.co, .string t.s, .bool m.l, .string m.a, .string m.b, .string m.c, .int .i64 m.tm, .int .i64 m.co, .string m.s, .bool m.l, .string m.a, .string m.b, .string m.c, .int .i64 m.tm, .int .i64 m.co, .string m.s] 26)) (erL m) 26
          unfold erL at XT
          rw [show (wr.alloc (.cells #[.bool t.l, .string t.a, .string t.b, .string t.c, .int .i64 t.tm, .int .i64 t.co, .string t.s, .bool m.l, .string m.a, .string m.b, .string m.c, .int .i64 m.tm, .int .i64 m.co, .string m.s, .bool m.l, .string m.a, .string m.b, .string m.c, .int .i64 m.tm, .int .i64 m.co, .string m.s] 26)).heap.size = wr.heap.size + 1 by simp] at XT
          have hB := Lib.hid (below_keep hbb (below_keep hba Br))
          have hT1 := Lib.hid (Nat.le_trans Br.size (Nat.le_succ _))
          clear hba hbb
          replace XT := Lib.hid XT
          go_wp2_with (fail)
          refine (kmsg_any m.co _ (TAB5.out.keep hB.out)).mono ?_
          rintro e w9 ⟨rfl, hb9⟩
          have X9 := XT.out.keep hb9
          have B9 := below_keep hb9 hB.out
          have q5 := X9.c 5 _ rfl
          have q6 := X9.c 6 _ rfl
          have qf := X9.fz
          have ql := X9.lt
          have X9s := X9.set 6 (.string (msgS m.co)) (by simp)
          have B9s := B9.setCell (p := ⟨wr.heap.size + 1, 6, none⟩) (by simpa using hT1.out) (.string (msgS m.co))
          replace X9s := Lib.hid X9s
          replace B9s := Lib.hid B9s
          clear X9 hb9 hB XT B9
          go_upto_region 12 with (fail)
          obtain ⟨T, hT⟩ : ∃ T, T = wr.heap.size + 1 := ⟨_, rfl⟩
          rw [← hT] at X9s B9s
          rw [← hT]
          clear hT hT1 q5 q6 qf ql
          generalize (w9.setCell ⟨T, 6, none⟩ (.string (msgS m.co))) = w20 at X9s B9s ⊢
          have TY : ErAt w20 T ⟨m.l, m.a, m.b, m.c, m.tm, m.co, msgS m.co⟩ := ErAt.ofL X9s.out
          obtain ⟨y, hy⟩ : ∃ y : S9e.Er, y = ⟨m.l, m.a, m.b, m.c, m.tm, m.co, msgS m.co⟩ := ⟨_, rfl⟩
          have fy : y.Fit := by rw [hy]; exact ⟨fm.out.a, fm.out.b, fm.out.c, fm.out.tm, fm.out.co, msgS_size _⟩
          rw [← hy] at TY
          clear hy X9s
          have B20 := B9s
          clear B9s
          clear x0 x1 x2 x3 x4 x5 x6
          clear z0 z1 z2 z3 z4 z5 z6
          clear rl zl
          clear Br Rr Ur
          have EC := Lib.hid (fun W => kerenc_any y fy W)
          have EF := Lib.hid (fun W => erencode_any y fy W)
          unfold S9e.Er.val S9e.Er.cells at EC EF
          have TYc := TY
          obtain ⟨x0, x1, x2, x3, x4, x5, x6⟩ := TYc
          go_wp2_with (fail)
          refine (EC.out _).mono ?_
          rintro e w21 ⟨A1, n1, c1, rfl, hs1, hb1, _⟩
          clear x0 x1 x2 x3 x4 x5 x6
          replace TY := TY.keep hb1
          have TYc := TY
          obtain ⟨x0, x1, x2, x3, x4, x5, x6⟩ := TYc
          have B21 := Lib.hid (below_keep hb1 B20.out)
          clear hb1 B20
          replace hs1 := Lib.hid hs1
          go_wp2_with (fail)
          refine (EF.out _).mono ?_
          rintro e w22 ⟨A2, n2, c2, rfl, hs2, hb2, _⟩
          clear x0 x1 x2 x3 x4 x5 x6
          replace TY := TY.keep hb2
          have B22 := Lib.hid (below_keep hb2 B21.out)
          replace hs1 := Lib.hid (hs1.out.keep hb2)
          clear hb2 B21 EC EF
          have u1 := conv_sl hs1.out
          have u2 := conv_sl hs2
          clear hs2
          by_cases hc : S9e.chkE y = 0
          · have hne : (S9e.chkE y == 0) = true := by rw [hc]; rfl
            have hd := S9e.dec_enc fy hc
            have he : S9e.encB y = S9e.enc y := by unfold S9e.encB; rw [if_pos hc]
            have hn1 : n1 ≤ 100000 := by have := hs1.out.len; have := S9e.encB_len y; omega
            have DC := kerdec_any A1 n1 c1 _ w22 hs1.out hn1
            unfold ErDec at DC
            rw [he, hd.1, hd.2] at DC
            unfold S9e.Er.val S9e.Er.cells at DC
            replace DC := Lib.hid DC
            clear hd he hc
            go_wp2_with (fail)
            refine DC.out.mono ?_
            rintro e w23 ⟨rfl, hb3⟩
            have TY3 := TY.keep hb3
            have TYc := TY3
            obtain ⟨x0, x1, x2, x3, x4, x5, x6⟩ := TYc
            have B23 := Lib.hid (below_keep hb3 B22.out)
            have ty := cell_lt x0
            clear hb3 B22 TY
            go_wp2_with (fail)
            go_roundw
            case rel => exact ⟨3, by omega, rfl, B23.out.alloc B23.out.size _⟩
            case measure => simp [intOf]
          · have hne : (S9e.chkE y == 0) = false := by simpa using hc
            clear hc
            go_wp2_with (fail)
            go_roundw
            case rel => exact ⟨3, by omega, rfl, B22.out⟩
            case measure => simp [intOf]
      · have B9 := Lib.hid (below_keep Br B5.out)
        have hw14 : IntKind.i64.wrap (who % 14) = who % 14 := by rw [IntKind.wrap_i64]; omega
        go_wp2_with (first
          | (go_at_call 7; refine (kmsg_any _ _ (TAB.out.keep B9.out)).mono ?_; rintro e w' ⟨rfl, hb⟩; replace B9 := Lib.hid (below_keep hb B9.out); clear hb)
          | (go_at_call 11; refine (r9msg_any _ _ (by omega) (by omega)).mono ?_; rintro e w' ⟨rfl, hb⟩; replace B9 := Lib.hid (below_keep hb B9.out); clear hb))
        go_ret
        exact ⟨ret_bool (by simp), B9.out⟩
  · go_wp2_with (fail)
    go_ret
    exact ⟨rfl, B2.out⟩

end Go.Proofs.YtkhkmgblgonfoaaDoor
