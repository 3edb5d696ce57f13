/-
  The law TicketSeals: the sealed form of any ticket, and to what any bytes are opened, or the error.
-/
import Derived.Test.YtjkpbkbgbgckaaaGreatQTkH
import Derived.Test.YtjkpbkbgbgckaaaGreatQSpoil
import Derived.Deep.DeepCutAuto
namespace Go.Proofs.YtjkpbkbgbgckaaaGreat
open Go.RowKit

/-- Some slice of bytes. -/
def SomeSlB (w : World) (v : Value) : Prop := ∃ A n cap zs, v = .slice A n cap ∧ Sl w A n cap zs ∧ n ≤ 1000
theorem sealB_len (t : S6.Tk) (k : Int) : (S6.sealB t k).length ≤ 236 := by
  unfold S6.sealB
  split
  · have := S4.mkB_len 1 k (S6.enc t)
    have := S6.enc_len ‹_›
    omega
  · simp

set_option maxRecDepth 100000 in
set_option maxHeartbeats 6400000 in
theorem sealsLaw_walk (t : S6.Tk) (LA : Option Addr) (ln lcap : Nat) (ls : List Int) (k n : Int) (A : Option Addr) (bn bcap : Nat) (bs : List Int) (how : Int) (w : World) (f : t.Fit) (hL : Sl w LA ln lcap ls) (k0 : 0 ≤ k) (k9 : k ≤ 18446744073709551615) (n0 : 0 ≤ n) (n1 : n ≤ 255) (hB : Sl w A bn bcap bs) (h0 : 0 ≤ how) (h1 : how ≤ 65535) :
    Calls Tryz.prog 3 #[t.val, .slice LA ln lcap, .int .u64 k, .int .u8 n, .slice A bn bcap, .int .u16 how] w fun e w' => e = .returned (.bool true) ∧ Below w.heap.size w w' := by
  have Bw := Lib.hid (show Below w.heap.size w (w.alloc (.cells t.cells 27)) from (Below.refl _ _).alloc (Nat.le_refl _) _)
  have R0 := Lib.hid (TkAt.new w t 27)
  have LG := Lib.hid (fun W => long6_any t f W)
  have hmax := hL.max
  have hmb := hB.max
  unfold maxLen at hmax hmb
  have hL0 := Lib.hid (hL.keep Bw.out)
  unfold S6.Tk.val S6.Tk.cells at LG
  unfold S6.Tk.val S6.Tk.cells
  unfold S6.Tk.cells at Bw R0 hL0
  go_enter Tryz.func3, Tryz.ntmps3
  go_wp2_with (fail)
  refine (awake6_any _).mono ?_
  rintro e w1 ⟨rfl, hb1⟩
  have R1 := Lib.hid (R0.out.keep hb1)
  have TYc := R1.out
  obtain ⟨x0, x1, x2, x3, x4, x5, x6, x7, x8, x9⟩ := TYc
  have B1 := Lib.hid (below_keep hb1 Bw.out)
  clear hb1 R0
  go_wp2_with (fail)
  clear x0 x1 x2 x3 x4 x5 x6 x7 x8 x9
  refine (LG.out _).mono ?_
  rintro e w2 ⟨q, rfl, hb2⟩
  have R2 := Lib.hid (R1.out.keep hb2)
  have B2 := Lib.hid (below_keep hb2 B1.out)
  clear hb2 R1 B1
  have ways : q = true ∨ q = false ∧ 40 < (ln : Int) ∨ q = false ∧ (ln : Int) ≤ 40 ∧ 400 < (bn : Int) ∨ q = false ∧ (ln : Int) ≤ 40 ∧ (bn : Int) ≤ 400 := by
    rcases q
    · rcases Int.lt_or_le 40 (ln : Int) with g | g
      · exact .inr (.inl ⟨rfl, g⟩)
      · rcases Int.lt_or_le 400 (bn : Int) with g2 | g2
        · exact .inr (.inr (.inl ⟨rfl, g, g2⟩))
        · exact .inr (.inr (.inr ⟨rfl, g, g2⟩))
    · exact .inl rfl
  rcases ways with rfl | ⟨rfl, k1⟩ | ⟨rfl, k1, k2⟩ | ⟨rfl, k1, k2⟩
  · go_wp2_with (fail)
    go_ret
    exact ⟨rfl, B2.out⟩
  · go_wp2_with (fail)
    go_ret
    exact ⟨rfl, B2.out⟩
  · go_wp2_with (fail)
    go_ret
    exact ⟨rfl, B2.out⟩
  · have hL2 := Lib.hid (hL.keep B2.out)
    go_wp2_with (fail)
    refine (ticketData_any LA ln lcap ls _ hL2.out (by omega)).mono ?_
    rintro e w3 ⟨u, rfl, fu, _, hb3⟩
    have hb4 : Below w3.heap.size w3 (w3.alloc (.cells #[.bool u.l, .string u.a, .string u.b, .string u.c, .int .i64 u.ad, .int .u64 u.k, .int .i64 u.li, .int .i64 u.is, .string u.s, .string u.i] 27)) := (Below.refl _ _).alloc (Nat.le_refl _) _
    have U4 := TkAt.new w3 u 27
    unfold S6.Tk.cells at U4
    have R4 := Lib.hid ((R2.out.keep hb3).keep hb4)
    have B4 := Lib.hid (below_keep hb4 (below_keep hb3 B2.out))
    replace U4 := Lib.hid U4
    clear hb3 hb4 B2 R2 hL2
    replace fu := Lib.hid fu
    unfold S6.Tk.val S6.Tk.cells
    go_wp2_with (fail)
    obtain ⟨P, hP⟩ : ∃ P, P = w3.heap.size := ⟨_, rfl⟩
    rw [← hP] at U4
    rw [← hP]
    clear hP
    generalize (w3.alloc (.cells #[.bool u.l, .string u.a, .string u.b, .string u.c, .int .i64 u.ad, .int .u64 u.k, .int .i64 u.li, .int .i64 u.is, .string u.s, .string u.i] 27)) = w4 at U4 R4 B4 ⊢
    have hB4 := Lib.hid (hB.keep B4.out)
    go_loopw [14] (fun i wr => ∃ p : Nat, p ≤ 4 ∧ i = .int .i64 p ∧ Below w4.heap.size w4 wr) (fun i _ => 4 - (intOf i).toNat)
    case atStart => exact ⟨0, by omega, rfl, Below.refl _ _⟩
    case round =>
      obtain ⟨p, hp, rfl, Br⟩ := hrel
      by_cases hlt : p < 4
      · have Rr := Lib.hid (R4.out.keep Br)
        have Ur := Lib.hid (U4.out.keep Br)
        go_upto_region 9 with (fail)
        go_cut [15] (fun x wx => ∃ T y, x = .pointer (some ⟨T, 0, none⟩) ∧ y.Fit ∧ TkAt wx T y ∧ Below wr.heap.size wr wx)
        case first =>
          have TYc := Rr.out
          obtain ⟨x0, x1, x2, x3, x4, x5, x6, x7, x8, x9⟩ := TYc
          have TYc := Ur.out
          obtain ⟨z0, z1, z2, z3, z4, z5, z6, z7, z8, z9⟩ := TYc
          have rl := cell_lt x0
          have zl := cell_lt z0
          rcases (show p = 0 ∨ p = 1 ∨ p = 2 ∨ p = 3 by omega) with rfl | rfl | rfl | rfl
          all_goals
            go_wp2_with (fail)
            go_meet
            first
              | (refine ⟨_, t, rfl, f, ?_, ((Below.refl _ _).alloc (Nat.le_refl _) _).alloc (by simp) _⟩; constructor <;> (simp [go_sem]; done))
              | (refine ⟨_, u, rfl, fu.out, ?_, ((Below.refl _ _).alloc (Nat.le_refl _) _).alloc (by simp) _⟩; constructor <;> (simp [go_sem]; done))
        case rest =>
          obtain ⟨T, y, rfl, fy, TY, Bc⟩ := hcut
          obtain ⟨w5, hw5⟩ : ∃ w5, w5 = wc := ⟨_, rfl⟩
          subst hw5
          have B5 := Lib.hid (below_keep Bc Br)
          clear Bc Br Rr Ur
          replace TY := Lib.hid TY
          go_upto_region 10 with (fail)
          go_cut [16] (fun x wx => ∃ k' : Int, x = .int .u64 k' ∧ 0 ≤ k' ∧ k' ≤ 18446744073709551615 ∧ Below w5.heap.size w5 wx)
          case first =>
            have hk3 := (keyOf_facts (c := 1) (n := n) (.inl rfl) n0 n1).2
            rcases (show p = 0 ∨ p = 1 ∨ p = 2 ∨ p = 3 by omega) with rfl | rfl | rfl | rfl
            all_goals
              go_wp2_with (first | (go_at_call 7; refine (long_any _ _ n0 n1).mono ?_; rintro e w' ⟨rfl, rfl⟩))
              go_meet
              first
                | exact ⟨k, rfl, k0, k9, (Below.refl _ _).alloc (Nat.le_refl _) _⟩
                | exact ⟨_, rfl, hk3.1, hk3.2, (Below.refl _ _).alloc (Nat.le_refl _) _⟩
          case rest =>
            obtain ⟨k', rfl, k0', k1', Bc⟩ := hcut
            obtain ⟨w6, hw6⟩ : ∃ w6, w6 = wc := ⟨_, rfl⟩
            subst hw6
            have B6 := Lib.hid (below_keep Bc B5.out)
            have T6 := Lib.hid (TY.out.keep Bc)
            clear Bc B5 TY
            have SC := Lib.hid (fun W => tseal_any y fy k' W k0' k1')
            have SF := Lib.hid (fun W => r6seal_any y fy k' W k0' k1')
            unfold S6.Tk.val S6.Tk.cells at SC SF
            have TYc := T6.out
            obtain ⟨x0, x1, x2, x3, x4, x5, x6, x7, x8, x9⟩ := TYc
            go_wp2_with (fail)
            refine (SC.out _).mono ?_
            rintro e w7 ⟨A7, n7, c7, rfl, hs7, hb7⟩
            clear x0 x1 x2 x3 x4 x5 x6 x7 x8 x9
            have T7 := Lib.hid (T6.out.keep hb7)
            have TYc := T7.out
            obtain ⟨x0, x1, x2, x3, x4, x5, x6, x7, x8, x9⟩ := TYc
            have B7 := Lib.hid (below_keep hb7 B6.out)
            replace hs7 := Lib.hid hs7
            clear hb7 B6 T6
            go_wp2_with (fail)
            refine (SF.out _).mono ?_
            rintro e w8 ⟨A8, n8, c8, rfl, hs8, hb8⟩
            clear x0 x1 x2 x3 x4 x5 x6 x7 x8 x9
            have B8 := Lib.hid (below_keep hb8 B7.out)
            have u1 := conv_sl (hs7.out.keep hb8)
            have u2 := conv_sl hs8
            have hn8 : n8 ≤ 236 := by have := hs8.len; have := sealB_len y k'; omega
            have hs8h := Lib.hid hs8
            clear hb8 B7 T7 hs7 SC SF hs8
            have hB8 := Lib.hid (hB4.out.keep B8.out)
            go_wp2_with (fail)
            clear u1 u2
            obtain ⟨ys, hys⟩ : ∃ ys, ys = S6.sealB y k' := ⟨_, rfl⟩
            rw [← hys] at hs8h
            clear hys
            go_loopw [21] (fun i wr => ∃ q : Nat, q ≤ 3 ∧ i = .int .i64 q ∧ Below w8.heap.size w8 wr) (fun i _ => 3 - (intOf i).toNat)
            case atStart => exact ⟨0, by omega, rfl, Below.refl _ _⟩
            case round =>
              obtain ⟨q, hq, rfl, Bq⟩ := hrel
              by_cases hlq : q < 3
              · have hB9 := Lib.hid (hB8.out.keep Bq)
                have hC9 := Lib.hid (hs8h.out.keep Bq)
                go_upto_region 18 with (fail)
                go_cut [22] (fun x wx => SomeSlB wx x ∧ Below wr.heap.size wr wx)
                case first =>
                  rcases (show q = 0 ∨ q = 1 ∨ q = 2 by omega) with rfl | rfl | rfl
                  all_goals
                    go_wp2_with (fail)
                    refine (spoil_any A8 n8 c8 ys how _ hC9.out (by omega) h0 h1).mono ?_
                    rintro e w17 ⟨AS, nS, cS, yS, rfl, hsS, hnS, hb17, _⟩
                    have hB7 := Lib.hid (hB9.out.keep hb17)
                    have hC7 := Lib.hid (hC9.out.keep hb17)
                    replace hsS := Lib.hid hsS
                    go_wp2_with (fail)
                    go_meet
                    have hb18 := (Below.refl w17.heap.size w17).alloc (Nat.le_refl _) (.cells #[.slice A bn bcap, .slice A8 n8 c8, .slice AS nS cS] 28)
                    exact ⟨by first | exact ⟨_, _, _, _, rfl, hB7.out.keep hb18, by omega⟩ | exact ⟨_, _, _, _, rfl, hC7.out.keep hb18, by omega⟩ | exact ⟨_, _, _, _, rfl, hsS.out.keep hb18, by omega⟩, below_keep hb18 hb17⟩
                case rest =>
                  obtain ⟨⟨XA, xn, xcap, xs, rfl, hX, hxn⟩, Bc⟩ := hcut
                  obtain ⟨w20, hw20⟩ : ∃ w20, w20 = wc := ⟨_, rfl⟩
                  subst hw20
                  have B20 := Lib.hid (below_keep Bc Bq)
                  clear Bc Bq hB9 hC9
                  replace hX := Lib.hid hX
                  have DC := Lib.hid (topen_any XA xn xcap xs k' w20 hX.out (by omega) k0' k1')
                  unfold OpnOut at DC
                  obtain ⟨V, hV⟩ : ∃ V, V = S6.openT xs k' := ⟨_, rfl⟩
                  have hT2 := Lib.hid hV
                  rw [← hV] at DC
                  clear hV
                  unfold S6.Tk.val S6.Tk.cells at DC
                  go_wp2_with (fail)
                  refine DC.out.mono ?_
                  rintro e w21 ⟨rfl, hb21⟩
                  have hb22 : Below w21.heap.size w21 (w21.alloc (.cells #[.bool V.l, .string V.a, .string V.b, .string V.c, .int .i64 V.ad, .int .u64 V.k, .int .i64 V.li, .int .i64 V.is, .string V.s, .string V.i] 27)) := (Below.refl _ _).alloc (Nat.le_refl _) _
                  have DF := r6open_any XA xn xcap xs k' _ ((hX.out.keep hb21).keep hb22) (by omega)
                  unfold OpnOut at DF
                  rw [← hT2.out] at DF
                  unfold S6.Tk.val S6.Tk.cells at DF
                  replace DF := Lib.hid DF
                  have B22 := Lib.hid (below_keep hb22 (below_keep hb21 B20.out))
                  have VT := TkAt.new w21 V 27
                  unfold S6.Tk.cells at VT
                  replace VT := Lib.hid VT
                  clear hb21 hb22 B20
                  go_wp2_with (fail)
                  refine DF.out.mono ?_
                  rintro e w23 ⟨rfl, hb23⟩
                  obtain ⟨x0, x1, x2, x3, x4, x5, x6, x7, x8, x9⟩ := VT.out.keep hb23
                  have vl := cell_lt x0
                  have B23 := Lib.hid (below_keep hb23 B22.out)
                  clear hb23
                  go_wp2_with (fail)
                  go_roundw
                  case rel => exact ⟨q + 1, by omega, by go_num, B23.out.alloc B23.out.size _⟩
                  case measure => simp [intOf]; omega
              · go_wp2_with (fail)
                go_roundw
                case rel => exact ⟨p + 1, by omega, by go_num, below_keep Bq B8.out⟩
                case measure => simp [intOf]; omega
      · go_wp2_with (fail)
        go_ret
        exact ⟨rfl, below_keep Br B4.out⟩

end Go.Proofs.YtjkpbkbgbgckaaaGreat
