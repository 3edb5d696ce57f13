/-
  The law AuthenticatorEncodes: the bytes of any authenticator in both byte orders, or the error, and that they are decoded as they were in their own order alone.
-/
import Derived.Test.YtihacmonohjmaaaQAuL
import Derived.Test.YtihacmonohjmaaaQGrow
import Derived.Deep.RegionHeld3
import Derived.IntWalk
import Derived.Deep.DeepCutAuto
namespace Go.Proofs.Ytihacmonohjmaaa
open Go.RowKit

set_option maxRecDepth 100000 in
set_option maxHeartbeats 6400000 in
theorem encodesLaw7_walk (t : S7.Au) (LA : Option Addr) (ln lcap : Nat) (ls : List Int) (little : Bool) (w : World) (f : t.Fit) (hL : Sl w LA ln lcap ls) :
    Calls Try.prog 4 #[t.val, .slice LA ln lcap, .bool little] w fun e w' => e = .returned (.bool true) ∧ Below w.heap.size w w' := by
  have Bw := Lib.hid (show Below w.heap.size w (w.alloc (.cells t.cells 25)) from (Below.refl _ _).alloc (Nat.le_refl _) _)
  have R0 := Lib.hid (AuAt.new w t 25)
  have LG := Lib.hid (fun W => long7_any t f W)
  have hmax := hL.max
  unfold maxLen at hmax
  have hL0 := Lib.hid (hL.keep Bw.out)
  unfold S7.Au.val S7.Au.cells at LG
  unfold S7.Au.val S7.Au.cells
  unfold S7.Au.cells at Bw R0 hL0
  go_enter Try.func4, Try.ntmps4
  go_wp2_with (fail)
  refine (awake7_any _).mono ?_
  rintro e w1 ⟨rfl, hb1⟩
  have R1 := Lib.hid (R0.out.keep hb1)
  obtain ⟨x0, x1, x2, x3, x4, x5⟩ := R0.out.keep hb1
  have B1 := Lib.hid (below_keep hb1 Bw.out)
  clear hb1 R0
  go_wp2_with (fail)
  clear x0 x1 x2 x3 x4 x5
  refine (LG.out _).mono ?_
  rintro e w2 ⟨q, rfl, hb2⟩
  have R2 := Lib.hid (R1.out.keep hb2)
  have B2 := Lib.hid (below_keep hb2 B1.out)
  clear hb2 R1 B1
  have ways : q = true ∨ q = false ∧ 40 < (ln : Int) ∨ q = false ∧ (ln : Int) ≤ 40 := by
    rcases q
    · rcases Int.lt_or_le 40 (ln : Int) with g | g
      · exact .inr (.inl ⟨rfl, g⟩)
      · exact .inr (.inr ⟨rfl, g⟩)
    · exact .inl rfl
  rcases ways with rfl | ⟨rfl, k1⟩ | ⟨rfl, k1⟩
  · go_wp2_with (fail)
    go_ret
    exact ⟨rfl, B2.out⟩
  · go_wp2_with (fail)
    go_ret
    exact ⟨rfl, B2.out⟩
  · have hL2 := Lib.hid (hL.keep B2.out)
    go_wp2_with (fail)
    go_loopw [7] (fun i wr => ∃ p : Nat, p ≤ 2 ∧ i = .int .i64 p ∧ Below w2.heap.size w2 wr) (fun i _ => 2 - (intOf i).toNat)
    case atStart => exact ⟨0, by omega, rfl, Below.refl _ _⟩
    case round =>
      obtain ⟨p, hp, rfl, Br⟩ := hrel
      have Rr := Lib.hid (R2.out.keep Br)
      have hL1 := Lib.hid (hL2.out.keep Br)
      by_cases hlt : p < 2
      · rcases (show p = 0 ∨ p = 1 by omega) with rfl | rfl
        · go_upto_region 8 with (fail)
          go_cut [8] (fun s6 wx => ∃ T y, s6 = .pointer (some ⟨T, 0, none⟩) ∧ y.Fit ∧ AuAt wx T y ∧ Below wr.heap.size wr wx)
          case first =>
            refine wp_region_held_drew (S := (fun W => Below wr.heap.size wr W ∧ AuAt W w.heap.size t)) (by kernel_rfl) ⟨(Below.refl _ _).drew, Rr.out.drew⟩ (fun hS => ?_)
            generalize wr.drew = w5 at hS ⊢
            refine' wpAnyH_take (i := 0) (v := ?vp00) rfl (by kernel_rfl) (by kernel_rfl) (by kernel_rfl) (fun _ _ _ h => h) (Or.inl ⟨by kernel_rfl, fun W hW => ?yp00⟩) hS ?rp00
            case yp00 => (obtain ⟨x0, x1, x2, x3, x4, x5⟩ := hW.2; go_simp; first | done | with_reducible rfl | (rw [if_pos (by omega)]))
            refine' wpAnyH_take (i := 1) (v := ?vp01) rfl (by kernel_rfl) (by kernel_rfl) (by kernel_rfl) (fun _ _ _ h => h) (Or.inl ⟨by kernel_rfl, fun W hW => ?yp01⟩) hS ?rp01
            case yp01 => (go_simp; first | done | with_reducible rfl | (rw [if_pos (by omega)]))
            refine' wpAnyH_take (i := 4) (v := ?vp04) rfl (by kernel_rfl) (by kernel_rfl) (by kernel_rfl) (fun _ _ _ h => h) (Or.inl ⟨by kernel_rfl, fun W hW => ?yp04⟩) hS ?rp04
            case yp04 => (go_simp; first | done | with_reducible rfl | (rw [if_pos (by omega)]))
            refine wpAnyH_ready (rs := [2, 7]) (by kernel_rfl) (by simp) ?_
            refine AllReadyH.cons rfl (fun K hK => ?_) (AllReadyH.cons rfl (fun K hK => ?_) AllReadyH.nil)
            · go_simp
              refine (authData_any LA ln lcap ls _ (hL1.out.keep hS.1) (by omega)).mono ?_
              rintro e w11 ⟨u, rfl, ou, hb⟩
              have fu := ou.fit
              replace fu := Lib.hid fu
              unfold S7.Au.val S7.Au.cells
              go_wp2_with (fail)
              have hSn := (And.intro (below_keep hb hS.1) (hS.2.keep hb))
              clear hb
              refine hK.out _ _ hSn (fun hS2 => ?_)
              clear hK K hS hSn
              have hS := hS2
              clear hS2
              refine wpAnyH_ready (rs := [3, 7]) (by kernel_rfl) (by simp) ?_
              refine AllReadyH.cons rfl (fun K hK => ?_) (AllReadyH.cons rfl (fun K hK => ?_) AllReadyH.nil)
              · go_simp
                have hb : Below w11.heap.size w11 (w11.alloc (.cells #[.string t.a, .string t.b, .string t.c, .int .i64 t.ck, .int .i64 t.ti, .int .i64 t.tm, .string u.a, .string u.b, .string u.c, .int .i64 u.ck, .int .i64 u.ti, .int .i64 u.tm] 25)) := (Below.refl _ _).alloc (Nat.le_refl _) _
                have XB : BoxAt (w11.alloc (.cells #[.string t.a, .string t.b, .string t.c, .int .i64 t.ck, .int .i64 t.ti, .int .i64 t.tm, .string u.a, .string u.b, .string u.c, .int .i64 u.ck, .int .i64 u.ti, .int .i64 u.tm] 25)) w11.heap.size [.string t.a, .string t.b, .string t.c, .int .i64 t.ck, .int .i64 t.ti, .int .i64 t.tm, .string u.a, .string u.b, .string u.c, .int .i64 u.ck, .int .i64 u.ti, .int .i64 u.tm] := BoxAt.new w11 [.string t.a, .string t.b, .string t.c, .int .i64 t.ck, .int .i64 t.ti, .int .i64 t.tm, .string u.a, .string u.b, .string u.c, .int .i64 u.ck, .int .i64 u.ti, .int .i64 u.tm] 25
                have hSn := (And.intro (below_keep hb hS.1) (hS.2.keep hb))

                obtain ⟨G, hG⟩ : ∃ G, G = w11.heap.size := ⟨_, rfl⟩
                rw [← hG] at XB

                rw [← hG]
                clear hG hb
                generalize (w11.alloc (.cells #[.string t.a, .string t.b, .string t.c, .int .i64 t.ck, .int .i64 t.ti, .int .i64 t.tm, .string u.a, .string u.b, .string u.c, .int .i64 u.ck, .int .i64 u.ti, .int .i64 u.tm] 25)) = w12 at XB hSn ⊢
                refine hK.out _ _ hSn (fun hS2 => ?_)
                clear hK K hS2
                refine held_grow (S' := (fun W => Below wr.heap.size wr W ∧ AuAt W w.heap.size t ∧ BoxAt W G [.string t.a, .string t.b, .string t.c, .int .i64 t.ck, .int .i64 t.ti, .int .i64 t.tm, .string u.a, .string u.b, .string u.c, .int .i64 u.ck, .int .i64 u.ti, .int .i64 u.tm])) (fun W hW => ⟨hW.1, hW.2.1⟩) _ _ _ _ ?_
                replace hS : Below wr.heap.size wr w12 ∧ AuAt w12 w.heap.size t ∧ BoxAt w12 G [.string t.a, .string t.b, .string t.c, .int .i64 t.ck, .int .i64 t.ti, .int .i64 t.tm, .string u.a, .string u.b, .string u.c, .int .i64 u.ck, .int .i64 u.ti, .int .i64 u.tm] := ⟨hSn.1, hSn.2, XB⟩
                clear XB
                refine' wpAnyH_take (i := 5) (v := ?vp01_2_5) rfl (by kernel_rfl) (by kernel_rfl) (by kernel_rfl) (fun _ _ _ h => h) (Or.inl ⟨by kernel_rfl, fun W hW => ?yp01_2_5⟩) hS ?rp01_2_5
                case yp01_2_5 => (go_simp; first | done | with_reducible rfl | (rw [if_pos (by omega)]))
                refine' wpAnyH_take (i := 6) (v := ?vp01_2_6) rfl (by kernel_rfl) (by kernel_rfl) (by kernel_rfl) (fun _ _ _ h => h) (Or.inl ⟨by kernel_rfl, fun W hW => ?yp01_2_6⟩) hS ?rp01_2_6
                case yp01_2_6 => (obtain ⟨_, _, hbs⟩ := hW; have y0 := hbs.c 0 _ rfl; have y1 := hbs.c 1 _ rfl; have y2 := hbs.c 2 _ rfl; have y3 := hbs.c 3 _ rfl; have y4 := hbs.c 4 _ rfl; have y5 := hbs.c 5 _ rfl; go_simp; first | done | with_reducible rfl | (rw [if_pos (by omega)]))
                refine wpAnyH_ready (rs := [7]) (by kernel_rfl) (by simp) ?_
                refine AllReadyH.cons rfl (fun K hK => ?_) AllReadyH.nil
                go_simp
                have hb : Below w12.heap.size w12 (w12.alloc (.cells #[.string ⟨#[]⟩, .string ⟨#[]⟩, .string ⟨#[]⟩, .int .i64 0, .int .i64 0, .int .i64 0] 25)) := (Below.refl _ _).alloc (Nat.le_refl _) _
                have XT : BoxAt (w12.alloc (.cells #[.string ⟨#[]⟩, .string ⟨#[]⟩, .string ⟨#[]⟩, .int .i64 0, .int .i64 0, .int .i64 0] 25)) w12.heap.size zeroA := BoxAt.new w12 zeroA 25
                have hSn := (And.intro (below_keep hb hS.1) (And.intro (hS.2.1.keep hb) (hS.2.2.keep hb)))
                have hTb := hS.1.size
                have hTG := hS.2.2.lt
                obtain ⟨T, hT⟩ : ∃ T, T = w12.heap.size := ⟨_, rfl⟩
                rw [← hT] at XT hTb hTG
                rw [← hT]
                clear hT hb
                generalize (w12.alloc (.cells #[.string ⟨#[]⟩, .string ⟨#[]⟩, .string ⟨#[]⟩, .int .i64 0, .int .i64 0, .int .i64 0] 25)) = w13 at XT hSn ⊢
                replace XT := Lib.hid XT
                refine hK.out _ _ hSn (fun hS2 => ?_)
                clear hK K hS hSn
                have hS := hS2
                clear hS2
                refine wpAnyH_ready (rs := [8]) (by kernel_rfl) (by simp) ?_
                refine AllReadyH.cons rfl (fun K hK => ?_) AllReadyH.nil
                have xf := XT.out.fz
                have xl := XT.out.lt
                have x0 := XT.out.c 0 _ rfl
                have x1 := XT.out.c 1 _ rfl
                have x2 := XT.out.c 2 _ rfl
                have x3 := XT.out.c 3 _ rfl
                have x4 := XT.out.c 4 _ rfl
                have x5 := XT.out.c 5 _ rfl
                go_simp
                have yT : BoxAt ((((((w13.setCell ⟨T, 0, none⟩ (.string t.a)).setCell ⟨T, 1, none⟩ (.string t.b)).setCell ⟨T, 2, none⟩ (.string t.c)).setCell ⟨T, 3, none⟩ (.int .i64 t.ck)).setCell ⟨T, 4, none⟩ (.int .i64 t.ti)).setCell ⟨T, 5, none⟩ (.int .i64 t.tm)) T (aL t) := ((((((XT.out.set 0 (.string t.a) (by simp [zeroA])).set 1 (.string t.b) (by simp [zeroA])).set 2 (.string t.c) (by simp [zeroA])).set 3 (.int .i64 t.ck) (by simp [zeroA])).set 4 (.int .i64 t.ti) (by simp [zeroA])).set 5 (.int .i64 t.tm) (by simp [zeroA]))
                have gT : w13.grownBy ((((((w13.setCell ⟨T, 0, none⟩ (.string t.a)).setCell ⟨T, 1, none⟩ (.string t.b)).setCell ⟨T, 2, none⟩ (.string t.c)).setCell ⟨T, 3, none⟩ (.int .i64 t.ck)).setCell ⟨T, 4, none⟩ (.int .i64 t.ti)).setCell ⟨T, 5, none⟩ (.int .i64 t.tm)) (some T) := ((((((grown_set w13 ⟨T, 0, none⟩ (.string t.a)).trans (grown_set _ ⟨T, 1, none⟩ (.string t.b))).trans (grown_set _ ⟨T, 2, none⟩ (.string t.c))).trans (grown_set _ ⟨T, 3, none⟩ (.int .i64 t.ck))).trans (grown_set _ ⟨T, 4, none⟩ (.int .i64 t.ti))).trans (grown_set _ ⟨T, 5, none⟩ (.int .i64 t.tm)))
                generalize ((((((w13.setCell ⟨T, 0, none⟩ (.string t.a)).setCell ⟨T, 1, none⟩ (.string t.b)).setCell ⟨T, 2, none⟩ (.string t.c)).setCell ⟨T, 3, none⟩ (.int .i64 t.ck)).setCell ⟨T, 4, none⟩ (.int .i64 t.ti)).setCell ⟨T, 5, none⟩ (.int .i64 t.tm)) = w99 at yT gT ⊢
                have rl := cell_lt Rr.out.c0
                have hSn := And.intro (hS.1.grown gT hS.1.size (fun k e => by cases e; exact hTb)) (And.intro (hS.2.1.grown gT (by simp; omega)) (hS.2.2.grown gT (by simp; omega)))
                refine hK.out _ _ hSn (fun hS2 => ?_)
                clear hK K hS
                refine wpAnyH_done (by kernel_rfl) ?_ _
                go_wp2_with (fail)
                go_meet
                exact ⟨T, t, rfl, f, AuAt.ofL yT, hSn.1⟩
              · go_simp
                have hb : Below w11.heap.size w11 (w11.alloc (.cells #[.string ⟨#[]⟩, .string ⟨#[]⟩, .string ⟨#[]⟩, .int .i64 0, .int .i64 0, .int .i64 0] 25)) := (Below.refl _ _).alloc (Nat.le_refl _) _
                have XT : BoxAt (w11.alloc (.cells #[.string ⟨#[]⟩, .string ⟨#[]⟩, .string ⟨#[]⟩, .int .i64 0, .int .i64 0, .int .i64 0] 25)) w11.heap.size zeroA := BoxAt.new w11 zeroA 25
                have hSn := (And.intro (below_keep hb hS.1) (hS.2.keep hb))
                have hTb := hS.1.size

                obtain ⟨T, hT⟩ : ∃ T, T = w11.heap.size := ⟨_, rfl⟩
                rw [← hT] at XT hTb
                rw [← hT]
                clear hT hb
                generalize (w11.alloc (.cells #[.string ⟨#[]⟩, .string ⟨#[]⟩, .string ⟨#[]⟩, .int .i64 0, .int .i64 0, .int .i64 0] 25)) = w15 at XT hSn ⊢
                replace XT := Lib.hid XT
                refine hK.out _ _ hSn (fun hS2 => ?_)
                clear hK K hS hSn
                have hS := hS2
                clear hS2
                refine wpAnyH_ready (rs := [3]) (by kernel_rfl) (by simp) ?_
                refine AllReadyH.cons rfl (fun K hK => ?_) AllReadyH.nil
                go_simp
                have hb : Below w15.heap.size w15 (w15.alloc (.cells #[.string t.a, .string t.b, .string t.c, .int .i64 t.ck, .int .i64 t.ti, .int .i64 t.tm, .string u.a, .string u.b, .string u.c, .int .i64 u.ck, .int .i64 u.ti, .int .i64 u.tm] 25)) := (Below.refl _ _).alloc (Nat.le_refl _) _
                have XB : BoxAt (w15.alloc (.cells #[.string t.a, .string t.b, .string t.c, .int .i64 t.ck, .int .i64 t.ti, .int .i64 t.tm, .string u.a, .string u.b, .string u.c, .int .i64 u.ck, .int .i64 u.ti, .int .i64 u.tm] 25)) w15.heap.size [.string t.a, .string t.b, .string t.c, .int .i64 t.ck, .int .i64 t.ti, .int .i64 t.tm, .string u.a, .string u.b, .string u.c, .int .i64 u.ck, .int .i64 u.ti, .int .i64 u.tm] := BoxAt.new w15 [.string t.a, .string t.b, .string t.c, .int .i64 t.ck, .int .i64 t.ti, .int .i64 t.tm, .string u.a, .string u.b, .string u.c, .int .i64 u.ck, .int .i64 u.ti, .int .i64 u.tm] 25
                have hSn := (And.intro (below_keep hb hS.1) (hS.2.keep hb))
                have hTG := XT.out.lt
                replace XT := Lib.hid (XT.out.keep hb)
                obtain ⟨G, hG⟩ : ∃ G, G = w15.heap.size := ⟨_, rfl⟩
                rw [← hG] at XB
                rw [← hG] at hTG
                rw [← hG]
                clear hG hb
                generalize (w15.alloc (.cells #[.string t.a, .string t.b, .string t.c, .int .i64 t.ck, .int .i64 t.ti, .int .i64 t.tm, .string u.a, .string u.b, .string u.c, .int .i64 u.ck, .int .i64 u.ti, .int .i64 u.tm] 25)) = w16 at XB hSn XT ⊢
                refine hK.out _ _ hSn (fun hS2 => ?_)
                clear hK K hS2
                refine held_grow (S' := (fun W => Below wr.heap.size wr W ∧ AuAt W w.heap.size t ∧ BoxAt W G [.string t.a, .string t.b, .string t.c, .int .i64 t.ck, .int .i64 t.ti, .int .i64 t.tm, .string u.a, .string u.b, .string u.c, .int .i64 u.ck, .int .i64 u.ti, .int .i64 u.tm])) (fun W hW => ⟨hW.1, hW.2.1⟩) _ _ _ _ ?_
                replace hS : Below wr.heap.size wr w16 ∧ AuAt w16 w.heap.size t ∧ BoxAt w16 G [.string t.a, .string t.b, .string t.c, .int .i64 t.ck, .int .i64 t.ti, .int .i64 t.tm, .string u.a, .string u.b, .string u.c, .int .i64 u.ck, .int .i64 u.ti, .int .i64 u.tm] := ⟨hSn.1, hSn.2, XB⟩
                clear XB
                refine' wpAnyH_take (i := 5) (v := ?vp01_5_6_5) rfl (by kernel_rfl) (by kernel_rfl) (by kernel_rfl) (fun _ _ _ h => h) (Or.inl ⟨by kernel_rfl, fun W hW => ?yp01_5_6_5⟩) hS ?rp01_5_6_5
                case yp01_5_6_5 => (go_simp; first | done | with_reducible rfl | (rw [if_pos (by omega)]))
                refine' wpAnyH_take (i := 6) (v := ?vp01_5_6_6) rfl (by kernel_rfl) (by kernel_rfl) (by kernel_rfl) (fun _ _ _ h => h) (Or.inl ⟨by kernel_rfl, fun W hW => ?yp01_5_6_6⟩) hS ?rp01_5_6_6
                case yp01_5_6_6 => (obtain ⟨_, _, hbs⟩ := hW; have y0 := hbs.c 0 _ rfl; have y1 := hbs.c 1 _ rfl; have y2 := hbs.c 2 _ rfl; have y3 := hbs.c 3 _ rfl; have y4 := hbs.c 4 _ rfl; have y5 := hbs.c 5 _ rfl; go_simp; first | done | with_reducible rfl | (rw [if_pos (by omega)]))
                refine wpAnyH_ready (rs := [8]) (by kernel_rfl) (by simp) ?_
                refine AllReadyH.cons rfl (fun K hK => ?_) AllReadyH.nil
                have xf := XT.out.fz
                have xl := XT.out.lt
                have x0 := XT.out.c 0 _ rfl
                have x1 := XT.out.c 1 _ rfl
                have x2 := XT.out.c 2 _ rfl
                have x3 := XT.out.c 3 _ rfl
                have x4 := XT.out.c 4 _ rfl
                have x5 := XT.out.c 5 _ rfl
                go_simp
                have yT : BoxAt ((((((w16.setCell ⟨T, 0, none⟩ (.string t.a)).setCell ⟨T, 1, none⟩ (.string t.b)).setCell ⟨T, 2, none⟩ (.string t.c)).setCell ⟨T, 3, none⟩ (.int .i64 t.ck)).setCell ⟨T, 4, none⟩ (.int .i64 t.ti)).setCell ⟨T, 5, none⟩ (.int .i64 t.tm)) T (aL t) := ((((((XT.out.set 0 (.string t.a) (by simp [zeroA])).set 1 (.string t.b) (by simp [zeroA])).set 2 (.string t.c) (by simp [zeroA])).set 3 (.int .i64 t.ck) (by simp [zeroA])).set 4 (.int .i64 t.ti) (by simp [zeroA])).set 5 (.int .i64 t.tm) (by simp [zeroA]))
                have gT : w16.grownBy ((((((w16.setCell ⟨T, 0, none⟩ (.string t.a)).setCell ⟨T, 1, none⟩ (.string t.b)).setCell ⟨T, 2, none⟩ (.string t.c)).setCell ⟨T, 3, none⟩ (.int .i64 t.ck)).setCell ⟨T, 4, none⟩ (.int .i64 t.ti)).setCell ⟨T, 5, none⟩ (.int .i64 t.tm)) (some T) := ((((((grown_set w16 ⟨T, 0, none⟩ (.string t.a)).trans (grown_set _ ⟨T, 1, none⟩ (.string t.b))).trans (grown_set _ ⟨T, 2, none⟩ (.string t.c))).trans (grown_set _ ⟨T, 3, none⟩ (.int .i64 t.ck))).trans (grown_set _ ⟨T, 4, none⟩ (.int .i64 t.ti))).trans (grown_set _ ⟨T, 5, none⟩ (.int .i64 t.tm)))
                generalize ((((((w16.setCell ⟨T, 0, none⟩ (.string t.a)).setCell ⟨T, 1, none⟩ (.string t.b)).setCell ⟨T, 2, none⟩ (.string t.c)).setCell ⟨T, 3, none⟩ (.int .i64 t.ck)).setCell ⟨T, 4, none⟩ (.int .i64 t.ti)).setCell ⟨T, 5, none⟩ (.int .i64 t.tm)) = w99 at yT gT ⊢
                have rl := cell_lt Rr.out.c0
                have hSn := And.intro (hS.1.grown gT hS.1.size (fun k e => by cases e; exact hTb)) (And.intro (hS.2.1.grown gT (by simp; omega)) (hS.2.2.grown gT (by simp; omega)))
                refine hK.out _ _ hSn (fun hS2 => ?_)
                clear hK K hS
                refine wpAnyH_done (by kernel_rfl) ?_ _
                go_wp2_with (fail)
                go_meet
                exact ⟨T, t, rfl, f, AuAt.ofL yT, hSn.1⟩
            · go_simp
              have hb : Below w5.heap.size w5 (w5.alloc (.cells #[.string ⟨#[]⟩, .string ⟨#[]⟩, .string ⟨#[]⟩, .int .i64 0, .int .i64 0, .int .i64 0] 25)) := (Below.refl _ _).alloc (Nat.le_refl _) _
              have XT : BoxAt (w5.alloc (.cells #[.string ⟨#[]⟩, .string ⟨#[]⟩, .string ⟨#[]⟩, .int .i64 0, .int .i64 0, .int .i64 0] 25)) w5.heap.size zeroA := BoxAt.new w5 zeroA 25
              have hSn := (And.intro (below_keep hb hS.1) (hS.2.keep hb))
              have hTb := hS.1.size

              obtain ⟨T, hT⟩ : ∃ T, T = w5.heap.size := ⟨_, rfl⟩
              rw [← hT] at XT hTb
              rw [← hT]
              clear hT hb
              generalize (w5.alloc (.cells #[.string ⟨#[]⟩, .string ⟨#[]⟩, .string ⟨#[]⟩, .int .i64 0, .int .i64 0, .int .i64 0] 25)) = w18 at XT hSn ⊢
              replace XT := Lib.hid XT
              refine hK.out _ _ hSn (fun hS2 => ?_)
              clear hK K hS hSn
              have hS := hS2
              clear hS2
              refine wpAnyH_ready (rs := [2]) (by kernel_rfl) (by simp) ?_
              refine AllReadyH.cons rfl (fun K hK => ?_) AllReadyH.nil
              go_simp
              refine (authData_any LA ln lcap ls _ (hL1.out.keep hS.1) (by omega)).mono ?_
              rintro e w19 ⟨u, rfl, ou, hb⟩
              have fu := ou.fit
              replace fu := Lib.hid fu
              unfold S7.Au.val S7.Au.cells
              go_wp2_with (fail)
              have hSn := (And.intro (below_keep hb hS.1) (hS.2.keep hb))
              replace XT := Lib.hid (XT.out.keep hb)
              clear hb
              refine hK.out _ _ hSn (fun hS2 => ?_)
              clear hK K hS hSn
              have hS := hS2
              clear hS2
              refine wpAnyH_ready (rs := [3]) (by kernel_rfl) (by simp) ?_
              refine AllReadyH.cons rfl (fun K hK => ?_) AllReadyH.nil
              go_simp
              have hb : Below w19.heap.size w19 (w19.alloc (.cells #[.string t.a, .string t.b, .string t.c, .int .i64 t.ck, .int .i64 t.ti, .int .i64 t.tm, .string u.a, .string u.b, .string u.c, .int .i64 u.ck, .int .i64 u.ti, .int .i64 u.tm] 25)) := (Below.refl _ _).alloc (Nat.le_refl _) _
              have XB : BoxAt (w19.alloc (.cells #[.string t.a, .string t.b, .string t.c, .int .i64 t.ck, .int .i64 t.ti, .int .i64 t.tm, .string u.a, .string u.b, .string u.c, .int .i64 u.ck, .int .i64 u.ti, .int .i64 u.tm] 25)) w19.heap.size [.string t.a, .string t.b, .string t.c, .int .i64 t.ck, .int .i64 t.ti, .int .i64 t.tm, .string u.a, .string u.b, .string u.c, .int .i64 u.ck, .int .i64 u.ti, .int .i64 u.tm] := BoxAt.new w19 [.string t.a, .string t.b, .string t.c, .int .i64 t.ck, .int .i64 t.ti, .int .i64 t.tm, .string u.a, .string u.b, .string u.c, .int .i64 u.ck, .int .i64 u.ti, .int .i64 u.tm] 25
              have hSn := (And.intro (below_keep hb hS.1) (hS.2.keep hb))
              have hTG := XT.out.lt
              replace XT := Lib.hid (XT.out.keep hb)
              obtain ⟨G, hG⟩ : ∃ G, G = w19.heap.size := ⟨_, rfl⟩
              rw [← hG] at XB
              rw [← hG] at hTG
              rw [← hG]
              clear hG hb
              generalize (w19.alloc (.cells #[.string t.a, .string t.b, .string t.c, .int .i64 t.ck, .int .i64 t.ti, .int .i64 t.tm, .string u.a, .string u.b, .string u.c, .int .i64 u.ck, .int .i64 u.ti, .int .i64 u.tm] 25)) = w20 at XB hSn XT ⊢
              refine hK.out _ _ hSn (fun hS2 => ?_)
              clear hK K hS2
              refine held_grow (S' := (fun W => Below wr.heap.size wr W ∧ AuAt W w.heap.size t ∧ BoxAt W G [.string t.a, .string t.b, .string t.c, .int .i64 t.ck, .int .i64 t.ti, .int .i64 t.tm, .string u.a, .string u.b, .string u.c, .int .i64 u.ck, .int .i64 u.ti, .int .i64 u.tm])) (fun W hW => ⟨hW.1, hW.2.1⟩) _ _ _ _ ?_
              replace hS : Below wr.heap.size wr w20 ∧ AuAt w20 w.heap.size t ∧ BoxAt w20 G [.string t.a, .string t.b, .string t.c, .int .i64 t.ck, .int .i64 t.ti, .int .i64 t.tm, .string u.a, .string u.b, .string u.c, .int .i64 u.ck, .int .i64 u.ti, .int .i64 u.tm] := ⟨hSn.1, hSn.2, XB⟩
              clear XB
              refine' wpAnyH_take (i := 5) (v := ?vp08_9_10_5) rfl (by kernel_rfl) (by kernel_rfl) (by kernel_rfl) (fun _ _ _ h => h) (Or.inl ⟨by kernel_rfl, fun W hW => ?yp08_9_10_5⟩) hS ?rp08_9_10_5
              case yp08_9_10_5 => (go_simp; first | done | with_reducible rfl | (rw [if_pos (by omega)]))
              refine' wpAnyH_take (i := 6) (v := ?vp08_9_10_6) rfl (by kernel_rfl) (by kernel_rfl) (by kernel_rfl) (fun _ _ _ h => h) (Or.inl ⟨by kernel_rfl, fun W hW => ?yp08_9_10_6⟩) hS ?rp08_9_10_6
              case yp08_9_10_6 => (obtain ⟨_, _, hbs⟩ := hW; have y0 := hbs.c 0 _ rfl; have y1 := hbs.c 1 _ rfl; have y2 := hbs.c 2 _ rfl; have y3 := hbs.c 3 _ rfl; have y4 := hbs.c 4 _ rfl; have y5 := hbs.c 5 _ rfl; go_simp; first | done | with_reducible rfl | (rw [if_pos (by omega)]))
              refine wpAnyH_ready (rs := [8]) (by kernel_rfl) (by simp) ?_
              refine AllReadyH.cons rfl (fun K hK => ?_) AllReadyH.nil
              have xf := XT.out.fz
              have xl := XT.out.lt
              have x0 := XT.out.c 0 _ rfl
              have x1 := XT.out.c 1 _ rfl
              have x2 := XT.out.c 2 _ rfl
              have x3 := XT.out.c 3 _ rfl
              have x4 := XT.out.c 4 _ rfl
              have x5 := XT.out.c 5 _ rfl
              go_simp
              have yT : BoxAt ((((((w20.setCell ⟨T, 0, none⟩ (.string t.a)).setCell ⟨T, 1, none⟩ (.string t.b)).setCell ⟨T, 2, none⟩ (.string t.c)).setCell ⟨T, 3, none⟩ (.int .i64 t.ck)).setCell ⟨T, 4, none⟩ (.int .i64 t.ti)).setCell ⟨T, 5, none⟩ (.int .i64 t.tm)) T (aL t) := ((((((XT.out.set 0 (.string t.a) (by simp [zeroA])).set 1 (.string t.b) (by simp [zeroA])).set 2 (.string t.c) (by simp [zeroA])).set 3 (.int .i64 t.ck) (by simp [zeroA])).set 4 (.int .i64 t.ti) (by simp [zeroA])).set 5 (.int .i64 t.tm) (by simp [zeroA]))
              have gT : w20.grownBy ((((((w20.setCell ⟨T, 0, none⟩ (.string t.a)).setCell ⟨T, 1, none⟩ (.string t.b)).setCell ⟨T, 2, none⟩ (.string t.c)).setCell ⟨T, 3, none⟩ (.int .i64 t.ck)).setCell ⟨T, 4, none⟩ (.int .i64 t.ti)).setCell ⟨T, 5, none⟩ (.int .i64 t.tm)) (some T) := ((((((grown_set w20 ⟨T, 0, none⟩ (.string t.a)).trans (grown_set _ ⟨T, 1, none⟩ (.string t.b))).trans (grown_set _ ⟨T, 2, none⟩ (.string t.c))).trans (grown_set _ ⟨T, 3, none⟩ (.int .i64 t.ck))).trans (grown_set _ ⟨T, 4, none⟩ (.int .i64 t.ti))).trans (grown_set _ ⟨T, 5, none⟩ (.int .i64 t.tm)))
              generalize ((((((w20.setCell ⟨T, 0, none⟩ (.string t.a)).setCell ⟨T, 1, none⟩ (.string t.b)).setCell ⟨T, 2, none⟩ (.string t.c)).setCell ⟨T, 3, none⟩ (.int .i64 t.ck)).setCell ⟨T, 4, none⟩ (.int .i64 t.ti)).setCell ⟨T, 5, none⟩ (.int .i64 t.tm)) = w99 at yT gT ⊢
              have rl := cell_lt Rr.out.c0
              have hSn := And.intro (hS.1.grown gT hS.1.size (fun k e => by cases e; exact hTb)) (And.intro (hS.2.1.grown gT (by simp; omega)) (hS.2.2.grown gT (by simp; omega)))
              refine hK.out _ _ hSn (fun hS2 => ?_)
              clear hK K hS
              refine wpAnyH_done (by kernel_rfl) ?_ _
              go_wp2_with (fail)
              go_meet
              exact ⟨T, t, rfl, f, AuAt.ofL yT, hSn.1⟩
          case rest =>
            obtain ⟨T, y, rfl, fy, TY, Bc⟩ := hcut
            obtain ⟨w20, hw20⟩ : ∃ w20, w20 = wc := ⟨_, rfl⟩
            subst hw20
            have B20 := Lib.hid (below_keep Bc Br)
            clear Bc Br Rr hL1
            have EC := Lib.hid (fun W => aencode_any little y fy W)
            have EF := Lib.hid (fun W => r7encode_any little y fy W)
            unfold S7.Au.val S7.Au.cells at EC EF
            have TYc := TY
            obtain ⟨x0, x1, x2, x3, x4, x5⟩ := TYc
            go_wp2_with (fail)
            refine (EC.out _).mono ?_
            rintro e w21 ⟨A1, n1, c1, rfl, hs1, hb1, _⟩
            clear x0 x1 x2 x3 x4 x5
            replace TY := TY.keep hb1
            have TYc := TY
            obtain ⟨x0, x1, x2, x3, x4, x5⟩ := TYc
            have B21 := Lib.hid (below_keep hb1 B20.out)
            clear hb1 B20
            replace hs1 := Lib.hid hs1
            go_wp2_with (fail)
            refine (EF.out _).mono ?_
            rintro e w22 ⟨A2, n2, c2, rfl, hs2, hb2, _⟩
            clear x0 x1 x2 x3 x4 x5
            replace TY := TY.keep hb2
            have B22 := Lib.hid (below_keep hb2 B21.out)
            replace hs1 := Lib.hid (hs1.out.keep hb2)
            clear hb2 B21 EC EF
            have u1 := conv_sl hs1.out
            have u2 := conv_sl hs2
            clear hs2
            by_cases hc : S7.chkE y = 0
            · have hne : (S7.chkE y == 0) = true := by rw [hc]; rfl
              have hd := S7.dec_enc (l := little) hc
              have he : S7.encB little y = S7.enc little y := by unfold S7.encB; rw [if_pos hc]
              have hq := S7.dec_other (l := little) (m := !little) (t := y) (by cases little <;> decide)
              have hn1 : n1 ≤ 100000 := by have := hs1.out.len; have := S7.encB_len little y; omega
              have DC := adecode_any little A1 n1 c1 _ w22 hs1.out hn1
              unfold DecOut7 at DC
              rw [he, hd.1, hd.2] at DC
              unfold S7.Au.val S7.Au.cells at DC
              replace DC := Lib.hid DC
              have DD := Lib.hid (fun W (h : Sl W A1 n1 c1 (S7.encB little y)) => adecode_any (!little) A1 n1 c1 _ W h hn1)
              unfold DecOut7 at DD
              rw [he, hq.1, hq.2] at DD
              rw [he] at hs1
              unfold S7.Au.val S7.Au.cells S7.Au.zero at DD
              clear hd he hc hq
              go_wp2_with (fail)
              refine DC.out.mono ?_
              rintro e w23 ⟨rfl, hb3⟩
              have hb4 : Below w23.heap.size w23 (w23.alloc (.cells #[.string y.a, .string y.b, .string y.c, .int .i64 y.ck, .int .i64 y.ti, .int .i64 y.tm] 25)) := (Below.refl _ _).alloc (Nat.le_refl _) _
              have V4 := AuAt.new w23 y 25
              unfold S7.Au.cells at V4
              have T4 := Lib.hid ((TY.keep hb3).keep hb4)
              have hs4 := Lib.hid ((hs1.out.keep hb3).keep hb4)
              have B24 := Lib.hid (below_keep hb4 (below_keep hb3 B22.out))
              replace V4 := Lib.hid V4
              clear hb3 hb4 B22 TY
              go_wp2_with (fail)
              refine (DD.out _ hs4.out).mono ?_
              rintro e w25 ⟨rfl, hb5⟩
              have V5 := V4.out.keep hb5
              have T5 := T4.out.keep hb5
              obtain ⟨x0, x1, x2, x3, x4, x5⟩ := T5
              obtain ⟨z0, z1, z2, z3, z4, z5⟩ := V5
              have ty := cell_lt x0
              have tz := cell_lt z0
              have B25 := Lib.hid (below_keep hb5 B24.out)
              clear hb5 B24
              go_wp2_with (fail)
              go_roundw
              case rel => exact ⟨1, by omega, rfl, B25.out.alloc B25.out.size _⟩
              case measure => simp [intOf]
            · have hne : (S7.chkE y == 0) = false := by simpa using hc
              clear hc
              go_wp2_with (fail)
              go_roundw
              case rel => exact ⟨1, by omega, rfl, B22.out⟩
              case measure => simp [intOf]
        · go_upto_region 8 with (fail)
          go_cut [8] (fun s6 wx => ∃ T y, s6 = .pointer (some ⟨T, 0, none⟩) ∧ y.Fit ∧ AuAt wx T y ∧ Below wr.heap.size wr wx)
          case first =>
            refine wp_region_held_drew (S := (fun W => Below wr.heap.size wr W ∧ AuAt W w.heap.size t)) (by kernel_rfl) ⟨(Below.refl _ _).drew, Rr.out.drew⟩ (fun hS => ?_)
            generalize wr.drew = w5 at hS ⊢
            refine' wpAnyH_take (i := 0) (v := ?vp10) rfl (by kernel_rfl) (by kernel_rfl) (by kernel_rfl) (fun _ _ _ h => h) (Or.inl ⟨by kernel_rfl, fun W hW => ?yp10⟩) hS ?rp10
            case yp10 => (obtain ⟨x0, x1, x2, x3, x4, x5⟩ := hW.2; go_simp; first | done | with_reducible rfl | (rw [if_pos (by omega)]))
            refine' wpAnyH_take (i := 1) (v := ?vp11) rfl (by kernel_rfl) (by kernel_rfl) (by kernel_rfl) (fun _ _ _ h => h) (Or.inl ⟨by kernel_rfl, fun W hW => ?yp11⟩) hS ?rp11
            case yp11 => (go_simp; first | done | with_reducible rfl | (rw [if_pos (by omega)]))
            refine' wpAnyH_take (i := 4) (v := ?vp14) rfl (by kernel_rfl) (by kernel_rfl) (by kernel_rfl) (fun _ _ _ h => h) (Or.inl ⟨by kernel_rfl, fun W hW => ?yp14⟩) hS ?rp14
            case yp14 => (go_simp; first | done | with_reducible rfl | (rw [if_pos (by omega)]))
            refine wpAnyH_ready (rs := [2, 7]) (by kernel_rfl) (by simp) ?_
            refine AllReadyH.cons rfl (fun K hK => ?_) (AllReadyH.cons rfl (fun K hK => ?_) AllReadyH.nil)
            · go_simp
              refine (authData_any LA ln lcap ls _ (hL1.out.keep hS.1) (by omega)).mono ?_
              rintro e w22 ⟨u, rfl, ou, hb⟩
              have fu := ou.fit
              replace fu := Lib.hid fu
              unfold S7.Au.val S7.Au.cells
              go_wp2_with (fail)
              have hSn := (And.intro (below_keep hb hS.1) (hS.2.keep hb))
              clear hb
              refine hK.out _ _ hSn (fun hS2 => ?_)
              clear hK K hS hSn
              have hS := hS2
              clear hS2
              refine wpAnyH_ready (rs := [3, 7]) (by kernel_rfl) (by simp) ?_
              refine AllReadyH.cons rfl (fun K hK => ?_) (AllReadyH.cons rfl (fun K hK => ?_) AllReadyH.nil)
              · go_simp
                have hb : Below w22.heap.size w22 (w22.alloc (.cells #[.string t.a, .string t.b, .string t.c, .int .i64 t.ck, .int .i64 t.ti, .int .i64 t.tm, .string u.a, .string u.b, .string u.c, .int .i64 u.ck, .int .i64 u.ti, .int .i64 u.tm] 25)) := (Below.refl _ _).alloc (Nat.le_refl _) _
                have XB : BoxAt (w22.alloc (.cells #[.string t.a, .string t.b, .string t.c, .int .i64 t.ck, .int .i64 t.ti, .int .i64 t.tm, .string u.a, .string u.b, .string u.c, .int .i64 u.ck, .int .i64 u.ti, .int .i64 u.tm] 25)) w22.heap.size [.string t.a, .string t.b, .string t.c, .int .i64 t.ck, .int .i64 t.ti, .int .i64 t.tm, .string u.a, .string u.b, .string u.c, .int .i64 u.ck, .int .i64 u.ti, .int .i64 u.tm] := BoxAt.new w22 [.string t.a, .string t.b, .string t.c, .int .i64 t.ck, .int .i64 t.ti, .int .i64 t.tm, .string u.a, .string u.b, .string u.c, .int .i64 u.ck, .int .i64 u.ti, .int .i64 u.tm] 25
                have hSn := (And.intro (below_keep hb hS.1) (hS.2.keep hb))

                obtain ⟨G, hG⟩ : ∃ G, G = w22.heap.size := ⟨_, rfl⟩
                rw [← hG] at XB

                rw [← hG]
                clear hG hb
                generalize (w22.alloc (.cells #[.string t.a, .string t.b, .string t.c, .int .i64 t.ck, .int .i64 t.ti, .int .i64 t.tm, .string u.a, .string u.b, .string u.c, .int .i64 u.ck, .int .i64 u.ti, .int .i64 u.tm] 25)) = w23 at XB hSn ⊢
                refine hK.out _ _ hSn (fun hS2 => ?_)
                clear hK K hS2
                refine held_grow (S' := (fun W => Below wr.heap.size wr W ∧ AuAt W w.heap.size t ∧ BoxAt W G [.string t.a, .string t.b, .string t.c, .int .i64 t.ck, .int .i64 t.ti, .int .i64 t.tm, .string u.a, .string u.b, .string u.c, .int .i64 u.ck, .int .i64 u.ti, .int .i64 u.tm])) (fun W hW => ⟨hW.1, hW.2.1⟩) _ _ _ _ ?_
                replace hS : Below wr.heap.size wr w23 ∧ AuAt w23 w.heap.size t ∧ BoxAt w23 G [.string t.a, .string t.b, .string t.c, .int .i64 t.ck, .int .i64 t.ti, .int .i64 t.tm, .string u.a, .string u.b, .string u.c, .int .i64 u.ck, .int .i64 u.ti, .int .i64 u.tm] := ⟨hSn.1, hSn.2, XB⟩
                clear XB
                refine' wpAnyH_take (i := 5) (v := ?vp112_13_5) rfl (by kernel_rfl) (by kernel_rfl) (by kernel_rfl) (fun _ _ _ h => h) (Or.inl ⟨by kernel_rfl, fun W hW => ?yp112_13_5⟩) hS ?rp112_13_5
                case yp112_13_5 => (go_simp; first | done | with_reducible rfl | (rw [if_pos (by omega)]))
                refine' wpAnyH_take (i := 6) (v := ?vp112_13_6) rfl (by kernel_rfl) (by kernel_rfl) (by kernel_rfl) (fun _ _ _ h => h) (Or.inl ⟨by kernel_rfl, fun W hW => ?yp112_13_6⟩) hS ?rp112_13_6
                case yp112_13_6 => (obtain ⟨_, _, hbs⟩ := hW; have y0 := hbs.c 6 _ rfl; have y1 := hbs.c 7 _ rfl; have y2 := hbs.c 8 _ rfl; have y3 := hbs.c 9 _ rfl; have y4 := hbs.c 10 _ rfl; have y5 := hbs.c 11 _ rfl; go_simp; first | done | with_reducible rfl | (rw [if_pos (by omega)]))
                refine wpAnyH_ready (rs := [7]) (by kernel_rfl) (by simp) ?_
                refine AllReadyH.cons rfl (fun K hK => ?_) AllReadyH.nil
                go_simp
                have hb : Below w23.heap.size w23 (w23.alloc (.cells #[.string ⟨#[]⟩, .string ⟨#[]⟩, .string ⟨#[]⟩, .int .i64 0, .int .i64 0, .int .i64 0] 25)) := (Below.refl _ _).alloc (Nat.le_refl _) _
                have XT : BoxAt (w23.alloc (.cells #[.string ⟨#[]⟩, .string ⟨#[]⟩, .string ⟨#[]⟩, .int .i64 0, .int .i64 0, .int .i64 0] 25)) w23.heap.size zeroA := BoxAt.new w23 zeroA 25
                have hSn := (And.intro (below_keep hb hS.1) (And.intro (hS.2.1.keep hb) (hS.2.2.keep hb)))
                have hTb := hS.1.size
                have hTG := hS.2.2.lt
                obtain ⟨T, hT⟩ : ∃ T, T = w23.heap.size := ⟨_, rfl⟩
                rw [← hT] at XT hTb hTG
                rw [← hT]
                clear hT hb
                generalize (w23.alloc (.cells #[.string ⟨#[]⟩, .string ⟨#[]⟩, .string ⟨#[]⟩, .int .i64 0, .int .i64 0, .int .i64 0] 25)) = w24 at XT hSn ⊢
                replace XT := Lib.hid XT
                refine hK.out _ _ hSn (fun hS2 => ?_)
                clear hK K hS hSn
                have hS := hS2
                clear hS2
                refine wpAnyH_ready (rs := [8]) (by kernel_rfl) (by simp) ?_
                refine AllReadyH.cons rfl (fun K hK => ?_) AllReadyH.nil
                have xf := XT.out.fz
                have xl := XT.out.lt
                have x0 := XT.out.c 0 _ rfl
                have x1 := XT.out.c 1 _ rfl
                have x2 := XT.out.c 2 _ rfl
                have x3 := XT.out.c 3 _ rfl
                have x4 := XT.out.c 4 _ rfl
                have x5 := XT.out.c 5 _ rfl
                go_simp
                have yT : BoxAt ((((((w24.setCell ⟨T, 0, none⟩ (.string u.a)).setCell ⟨T, 1, none⟩ (.string u.b)).setCell ⟨T, 2, none⟩ (.string u.c)).setCell ⟨T, 3, none⟩ (.int .i64 u.ck)).setCell ⟨T, 4, none⟩ (.int .i64 u.ti)).setCell ⟨T, 5, none⟩ (.int .i64 u.tm)) T (aL u) := ((((((XT.out.set 0 (.string u.a) (by simp [zeroA])).set 1 (.string u.b) (by simp [zeroA])).set 2 (.string u.c) (by simp [zeroA])).set 3 (.int .i64 u.ck) (by simp [zeroA])).set 4 (.int .i64 u.ti) (by simp [zeroA])).set 5 (.int .i64 u.tm) (by simp [zeroA]))
                have gT : w24.grownBy ((((((w24.setCell ⟨T, 0, none⟩ (.string u.a)).setCell ⟨T, 1, none⟩ (.string u.b)).setCell ⟨T, 2, none⟩ (.string u.c)).setCell ⟨T, 3, none⟩ (.int .i64 u.ck)).setCell ⟨T, 4, none⟩ (.int .i64 u.ti)).setCell ⟨T, 5, none⟩ (.int .i64 u.tm)) (some T) := ((((((grown_set w24 ⟨T, 0, none⟩ (.string u.a)).trans (grown_set _ ⟨T, 1, none⟩ (.string u.b))).trans (grown_set _ ⟨T, 2, none⟩ (.string u.c))).trans (grown_set _ ⟨T, 3, none⟩ (.int .i64 u.ck))).trans (grown_set _ ⟨T, 4, none⟩ (.int .i64 u.ti))).trans (grown_set _ ⟨T, 5, none⟩ (.int .i64 u.tm)))
                generalize ((((((w24.setCell ⟨T, 0, none⟩ (.string u.a)).setCell ⟨T, 1, none⟩ (.string u.b)).setCell ⟨T, 2, none⟩ (.string u.c)).setCell ⟨T, 3, none⟩ (.int .i64 u.ck)).setCell ⟨T, 4, none⟩ (.int .i64 u.ti)).setCell ⟨T, 5, none⟩ (.int .i64 u.tm)) = w99 at yT gT ⊢
                have rl := cell_lt Rr.out.c0
                have hSn := And.intro (hS.1.grown gT hS.1.size (fun k e => by cases e; exact hTb)) (And.intro (hS.2.1.grown gT (by simp; omega)) (hS.2.2.grown gT (by simp; omega)))
                refine hK.out _ _ hSn (fun hS2 => ?_)
                clear hK K hS
                refine wpAnyH_done (by kernel_rfl) ?_ _
                go_wp2_with (fail)
                go_meet
                exact ⟨T, u, rfl, fu.out, AuAt.ofL yT, hSn.1⟩
              · go_simp
                have hb : Below w22.heap.size w22 (w22.alloc (.cells #[.string ⟨#[]⟩, .string ⟨#[]⟩, .string ⟨#[]⟩, .int .i64 0, .int .i64 0, .int .i64 0] 25)) := (Below.refl _ _).alloc (Nat.le_refl _) _
                have XT : BoxAt (w22.alloc (.cells #[.string ⟨#[]⟩, .string ⟨#[]⟩, .string ⟨#[]⟩, .int .i64 0, .int .i64 0, .int .i64 0] 25)) w22.heap.size zeroA := BoxAt.new w22 zeroA 25
                have hSn := (And.intro (below_keep hb hS.1) (hS.2.keep hb))
                have hTb := hS.1.size

                obtain ⟨T, hT⟩ : ∃ T, T = w22.heap.size := ⟨_, rfl⟩
                rw [← hT] at XT hTb
                rw [← hT]
                clear hT hb
                generalize (w22.alloc (.cells #[.string ⟨#[]⟩, .string ⟨#[]⟩, .string ⟨#[]⟩, .int .i64 0, .int .i64 0, .int .i64 0] 25)) = w26 at XT hSn ⊢
                replace XT := Lib.hid XT
                refine hK.out _ _ hSn (fun hS2 => ?_)
                clear hK K hS hSn
                have hS := hS2
                clear hS2
                refine wpAnyH_ready (rs := [3]) (by kernel_rfl) (by simp) ?_
                refine AllReadyH.cons rfl (fun K hK => ?_) AllReadyH.nil
                go_simp
                have hb : Below w26.heap.size w26 (w26.alloc (.cells #[.string t.a, .string t.b, .string t.c, .int .i64 t.ck, .int .i64 t.ti, .int .i64 t.tm, .string u.a, .string u.b, .string u.c, .int .i64 u.ck, .int .i64 u.ti, .int .i64 u.tm] 25)) := (Below.refl _ _).alloc (Nat.le_refl _) _
                have XB : BoxAt (w26.alloc (.cells #[.string t.a, .string t.b, .string t.c, .int .i64 t.ck, .int .i64 t.ti, .int .i64 t.tm, .string u.a, .string u.b, .string u.c, .int .i64 u.ck, .int .i64 u.ti, .int .i64 u.tm] 25)) w26.heap.size [.string t.a, .string t.b, .string t.c, .int .i64 t.ck, .int .i64 t.ti, .int .i64 t.tm, .string u.a, .string u.b, .string u.c, .int .i64 u.ck, .int .i64 u.ti, .int .i64 u.tm] := BoxAt.new w26 [.string t.a, .string t.b, .string t.c, .int .i64 t.ck, .int .i64 t.ti, .int .i64 t.tm, .string u.a, .string u.b, .string u.c, .int .i64 u.ck, .int .i64 u.ti, .int .i64 u.tm] 25
                have hSn := (And.intro (below_keep hb hS.1) (hS.2.keep hb))
                have hTG := XT.out.lt
                replace XT := Lib.hid (XT.out.keep hb)
                obtain ⟨G, hG⟩ : ∃ G, G = w26.heap.size := ⟨_, rfl⟩
                rw [← hG] at XB
                rw [← hG] at hTG
                rw [← hG]
                clear hG hb
                generalize (w26.alloc (.cells #[.string t.a, .string t.b, .string t.c, .int .i64 t.ck, .int .i64 t.ti, .int .i64 t.tm, .string u.a, .string u.b, .string u.c, .int .i64 u.ck, .int .i64 u.ti, .int .i64 u.tm] 25)) = w27 at XB hSn XT ⊢
                refine hK.out _ _ hSn (fun hS2 => ?_)
                clear hK K hS2
                refine held_grow (S' := (fun W => Below wr.heap.size wr W ∧ AuAt W w.heap.size t ∧ BoxAt W G [.string t.a, .string t.b, .string t.c, .int .i64 t.ck, .int .i64 t.ti, .int .i64 t.tm, .string u.a, .string u.b, .string u.c, .int .i64 u.ck, .int .i64 u.ti, .int .i64 u.tm])) (fun W hW => ⟨hW.1, hW.2.1⟩) _ _ _ _ ?_
                replace hS : Below wr.heap.size wr w27 ∧ AuAt w27 w.heap.size t ∧ BoxAt w27 G [.string t.a, .string t.b, .string t.c, .int .i64 t.ck, .int .i64 t.ti, .int .i64 t.tm, .string u.a, .string u.b, .string u.c, .int .i64 u.ck, .int .i64 u.ti, .int .i64 u.tm] := ⟨hSn.1, hSn.2, XB⟩
                clear XB
                refine' wpAnyH_take (i := 5) (v := ?vp112_16_17_5) rfl (by kernel_rfl) (by kernel_rfl) (by kernel_rfl) (fun _ _ _ h => h) (Or.inl ⟨by kernel_rfl, fun W hW => ?yp112_16_17_5⟩) hS ?rp112_16_17_5
                case yp112_16_17_5 => (go_simp; first | done | with_reducible rfl | (rw [if_pos (by omega)]))
                refine' wpAnyH_take (i := 6) (v := ?vp112_16_17_6) rfl (by kernel_rfl) (by kernel_rfl) (by kernel_rfl) (fun _ _ _ h => h) (Or.inl ⟨by kernel_rfl, fun W hW => ?yp112_16_17_6⟩) hS ?rp112_16_17_6
                case yp112_16_17_6 => (obtain ⟨_, _, hbs⟩ := hW; have y0 := hbs.c 6 _ rfl; have y1 := hbs.c 7 _ rfl; have y2 := hbs.c 8 _ rfl; have y3 := hbs.c 9 _ rfl; have y4 := hbs.c 10 _ rfl; have y5 := hbs.c 11 _ rfl; go_simp; first | done | with_reducible rfl | (rw [if_pos (by omega)]))
                refine wpAnyH_ready (rs := [8]) (by kernel_rfl) (by simp) ?_
                refine AllReadyH.cons rfl (fun K hK => ?_) AllReadyH.nil
                have xf := XT.out.fz
                have xl := XT.out.lt
                have x0 := XT.out.c 0 _ rfl
                have x1 := XT.out.c 1 _ rfl
                have x2 := XT.out.c 2 _ rfl
                have x3 := XT.out.c 3 _ rfl
                have x4 := XT.out.c 4 _ rfl
                have x5 := XT.out.c 5 _ rfl
                go_simp
                have yT : BoxAt ((((((w27.setCell ⟨T, 0, none⟩ (.string u.a)).setCell ⟨T, 1, none⟩ (.string u.b)).setCell ⟨T, 2, none⟩ (.string u.c)).setCell ⟨T, 3, none⟩ (.int .i64 u.ck)).setCell ⟨T, 4, none⟩ (.int .i64 u.ti)).setCell ⟨T, 5, none⟩ (.int .i64 u.tm)) T (aL u) := ((((((XT.out.set 0 (.string u.a) (by simp [zeroA])).set 1 (.string u.b) (by simp [zeroA])).set 2 (.string u.c) (by simp [zeroA])).set 3 (.int .i64 u.ck) (by simp [zeroA])).set 4 (.int .i64 u.ti) (by simp [zeroA])).set 5 (.int .i64 u.tm) (by simp [zeroA]))
                have gT : w27.grownBy ((((((w27.setCell ⟨T, 0, none⟩ (.string u.a)).setCell ⟨T, 1, none⟩ (.string u.b)).setCell ⟨T, 2, none⟩ (.string u.c)).setCell ⟨T, 3, none⟩ (.int .i64 u.ck)).setCell ⟨T, 4, none⟩ (.int .i64 u.ti)).setCell ⟨T, 5, none⟩ (.int .i64 u.tm)) (some T) := ((((((grown_set w27 ⟨T, 0, none⟩ (.string u.a)).trans (grown_set _ ⟨T, 1, none⟩ (.string u.b))).trans (grown_set _ ⟨T, 2, none⟩ (.string u.c))).trans (grown_set _ ⟨T, 3, none⟩ (.int .i64 u.ck))).trans (grown_set _ ⟨T, 4, none⟩ (.int .i64 u.ti))).trans (grown_set _ ⟨T, 5, none⟩ (.int .i64 u.tm)))
                generalize ((((((w27.setCell ⟨T, 0, none⟩ (.string u.a)).setCell ⟨T, 1, none⟩ (.string u.b)).setCell ⟨T, 2, none⟩ (.string u.c)).setCell ⟨T, 3, none⟩ (.int .i64 u.ck)).setCell ⟨T, 4, none⟩ (.int .i64 u.ti)).setCell ⟨T, 5, none⟩ (.int .i64 u.tm)) = w99 at yT gT ⊢
                have rl := cell_lt Rr.out.c0
                have hSn := And.intro (hS.1.grown gT hS.1.size (fun k e => by cases e; exact hTb)) (And.intro (hS.2.1.grown gT (by simp; omega)) (hS.2.2.grown gT (by simp; omega)))
                refine hK.out _ _ hSn (fun hS2 => ?_)
                clear hK K hS
                refine wpAnyH_done (by kernel_rfl) ?_ _
                go_wp2_with (fail)
                go_meet
                exact ⟨T, u, rfl, fu.out, AuAt.ofL yT, hSn.1⟩
            · go_simp
              have hb : Below w5.heap.size w5 (w5.alloc (.cells #[.string ⟨#[]⟩, .string ⟨#[]⟩, .string ⟨#[]⟩, .int .i64 0, .int .i64 0, .int .i64 0] 25)) := (Below.refl _ _).alloc (Nat.le_refl _) _
              have XT : BoxAt (w5.alloc (.cells #[.string ⟨#[]⟩, .string ⟨#[]⟩, .string ⟨#[]⟩, .int .i64 0, .int .i64 0, .int .i64 0] 25)) w5.heap.size zeroA := BoxAt.new w5 zeroA 25
              have hSn := (And.intro (below_keep hb hS.1) (hS.2.keep hb))
              have hTb := hS.1.size

              obtain ⟨T, hT⟩ : ∃ T, T = w5.heap.size := ⟨_, rfl⟩
              rw [← hT] at XT hTb
              rw [← hT]
              clear hT hb
              generalize (w5.alloc (.cells #[.string ⟨#[]⟩, .string ⟨#[]⟩, .string ⟨#[]⟩, .int .i64 0, .int .i64 0, .int .i64 0] 25)) = w29 at XT hSn ⊢
              replace XT := Lib.hid XT
              refine hK.out _ _ hSn (fun hS2 => ?_)
              clear hK K hS hSn
              have hS := hS2
              clear hS2
              refine wpAnyH_ready (rs := [2]) (by kernel_rfl) (by simp) ?_
              refine AllReadyH.cons rfl (fun K hK => ?_) AllReadyH.nil
              go_simp
              refine (authData_any LA ln lcap ls _ (hL1.out.keep hS.1) (by omega)).mono ?_
              rintro e w30 ⟨u, rfl, ou, hb⟩
              have fu := ou.fit
              replace fu := Lib.hid fu
              unfold S7.Au.val S7.Au.cells
              go_wp2_with (fail)
              have hSn := (And.intro (below_keep hb hS.1) (hS.2.keep hb))
              replace XT := Lib.hid (XT.out.keep hb)
              clear hb
              refine hK.out _ _ hSn (fun hS2 => ?_)
              clear hK K hS hSn
              have hS := hS2
              clear hS2
              refine wpAnyH_ready (rs := [3]) (by kernel_rfl) (by simp) ?_
              refine AllReadyH.cons rfl (fun K hK => ?_) AllReadyH.nil
              go_simp
              have hb : Below w30.heap.size w30 (w30.alloc (.cells #[.string t.a, .string t.b, .string t.c, .int .i64 t.ck, .int .i64 t.ti, .int .i64 t.tm, .string u.a, .string u.b, .string u.c, .int .i64 u.ck, .int .i64 u.ti, .int .i64 u.tm] 25)) := (Below.refl _ _).alloc (Nat.le_refl _) _
              have XB : BoxAt (w30.alloc (.cells #[.string t.a, .string t.b, .string t.c, .int .i64 t.ck, .int .i64 t.ti, .int .i64 t.tm, .string u.a, .string u.b, .string u.c, .int .i64 u.ck, .int .i64 u.ti, .int .i64 u.tm] 25)) w30.heap.size [.string t.a, .string t.b, .string t.c, .int .i64 t.ck, .int .i64 t.ti, .int .i64 t.tm, .string u.a, .string u.b, .string u.c, .int .i64 u.ck, .int .i64 u.ti, .int .i64 u.tm] := BoxAt.new w30 [.string t.a, .string t.b, .string t.c, .int .i64 t.ck, .int .i64 t.ti, .int .i64 t.tm, .string u.a, .string u.b, .string u.c, .int .i64 u.ck, .int .i64 u.ti, .int .i64 u.tm] 25
              have hSn := (And.intro (below_keep hb hS.1) (hS.2.keep hb))
              have hTG := XT.out.lt
              replace XT := Lib.hid (XT.out.keep hb)
              obtain ⟨G, hG⟩ : ∃ G, G = w30.heap.size := ⟨_, rfl⟩
              rw [← hG] at XB
              rw [← hG] at hTG
              rw [← hG]
              clear hG hb
              generalize (w30.alloc (.cells #[.string t.a, .string t.b, .string t.c, .int .i64 t.ck, .int .i64 t.ti, .int .i64 t.tm, .string u.a, .string u.b, .string u.c, .int .i64 u.ck, .int .i64 u.ti, .int .i64 u.tm] 25)) = w31 at XB hSn XT ⊢
              refine hK.out _ _ hSn (fun hS2 => ?_)
              clear hK K hS2
              refine held_grow (S' := (fun W => Below wr.heap.size wr W ∧ AuAt W w.heap.size t ∧ BoxAt W G [.string t.a, .string t.b, .string t.c, .int .i64 t.ck, .int .i64 t.ti, .int .i64 t.tm, .string u.a, .string u.b, .string u.c, .int .i64 u.ck, .int .i64 u.ti, .int .i64 u.tm])) (fun W hW => ⟨hW.1, hW.2.1⟩) _ _ _ _ ?_
              replace hS : Below wr.heap.size wr w31 ∧ AuAt w31 w.heap.size t ∧ BoxAt w31 G [.string t.a, .string t.b, .string t.c, .int .i64 t.ck, .int .i64 t.ti, .int .i64 t.tm, .string u.a, .string u.b, .string u.c, .int .i64 u.ck, .int .i64 u.ti, .int .i64 u.tm] := ⟨hSn.1, hSn.2, XB⟩
              clear XB
              refine' wpAnyH_take (i := 5) (v := ?vp119_20_21_5) rfl (by kernel_rfl) (by kernel_rfl) (by kernel_rfl) (fun _ _ _ h => h) (Or.inl ⟨by kernel_rfl, fun W hW => ?yp119_20_21_5⟩) hS ?rp119_20_21_5
              case yp119_20_21_5 => (go_simp; first | done | with_reducible rfl | (rw [if_pos (by omega)]))
              refine' wpAnyH_take (i := 6) (v := ?vp119_20_21_6) rfl (by kernel_rfl) (by kernel_rfl) (by kernel_rfl) (fun _ _ _ h => h) (Or.inl ⟨by kernel_rfl, fun W hW => ?yp119_20_21_6⟩) hS ?rp119_20_21_6
              case yp119_20_21_6 => (obtain ⟨_, _, hbs⟩ := hW; have y0 := hbs.c 6 _ rfl; have y1 := hbs.c 7 _ rfl; have y2 := hbs.c 8 _ rfl; have y3 := hbs.c 9 _ rfl; have y4 := hbs.c 10 _ rfl; have y5 := hbs.c 11 _ rfl; go_simp; first | done | with_reducible rfl | (rw [if_pos (by omega)]))
              refine wpAnyH_ready (rs := [8]) (by kernel_rfl) (by simp) ?_
              refine AllReadyH.cons rfl (fun K hK => ?_) AllReadyH.nil
              have xf := XT.out.fz
              have xl := XT.out.lt
              have x0 := XT.out.c 0 _ rfl
              have x1 := XT.out.c 1 _ rfl
              have x2 := XT.out.c 2 _ rfl
              have x3 := XT.out.c 3 _ rfl
              have x4 := XT.out.c 4 _ rfl
              have x5 := XT.out.c 5 _ rfl
              go_simp
              have yT : BoxAt ((((((w31.setCell ⟨T, 0, none⟩ (.string u.a)).setCell ⟨T, 1, none⟩ (.string u.b)).setCell ⟨T, 2, none⟩ (.string u.c)).setCell ⟨T, 3, none⟩ (.int .i64 u.ck)).setCell ⟨T, 4, none⟩ (.int .i64 u.ti)).setCell ⟨T, 5, none⟩ (.int .i64 u.tm)) T (aL u) := ((((((XT.out.set 0 (.string u.a) (by simp [zeroA])).set 1 (.string u.b) (by simp [zeroA])).set 2 (.string u.c) (by simp [zeroA])).set 3 (.int .i64 u.ck) (by simp [zeroA])).set 4 (.int .i64 u.ti) (by simp [zeroA])).set 5 (.int .i64 u.tm) (by simp [zeroA]))
              have gT : w31.grownBy ((((((w31.setCell ⟨T, 0, none⟩ (.string u.a)).setCell ⟨T, 1, none⟩ (.string u.b)).setCell ⟨T, 2, none⟩ (.string u.c)).setCell ⟨T, 3, none⟩ (.int .i64 u.ck)).setCell ⟨T, 4, none⟩ (.int .i64 u.ti)).setCell ⟨T, 5, none⟩ (.int .i64 u.tm)) (some T) := ((((((grown_set w31 ⟨T, 0, none⟩ (.string u.a)).trans (grown_set _ ⟨T, 1, none⟩ (.string u.b))).trans (grown_set _ ⟨T, 2, none⟩ (.string u.c))).trans (grown_set _ ⟨T, 3, none⟩ (.int .i64 u.ck))).trans (grown_set _ ⟨T, 4, none⟩ (.int .i64 u.ti))).trans (grown_set _ ⟨T, 5, none⟩ (.int .i64 u.tm)))
              generalize ((((((w31.setCell ⟨T, 0, none⟩ (.string u.a)).setCell ⟨T, 1, none⟩ (.string u.b)).setCell ⟨T, 2, none⟩ (.string u.c)).setCell ⟨T, 3, none⟩ (.int .i64 u.ck)).setCell ⟨T, 4, none⟩ (.int .i64 u.ti)).setCell ⟨T, 5, none⟩ (.int .i64 u.tm)) = w99 at yT gT ⊢
              have rl := cell_lt Rr.out.c0
              have hSn := And.intro (hS.1.grown gT hS.1.size (fun k e => by cases e; exact hTb)) (And.intro (hS.2.1.grown gT (by simp; omega)) (hS.2.2.grown gT (by simp; omega)))
              refine hK.out _ _ hSn (fun hS2 => ?_)
              clear hK K hS
              refine wpAnyH_done (by kernel_rfl) ?_ _
              go_wp2_with (fail)
              go_meet
              exact ⟨T, u, rfl, fu.out, AuAt.ofL yT, hSn.1⟩
          case rest =>
            obtain ⟨T, y, rfl, fy, TY, Bc⟩ := hcut
            obtain ⟨w20, hw20⟩ : ∃ w20, w20 = wc := ⟨_, rfl⟩
            subst hw20
            have B20 := Lib.hid (below_keep Bc Br)
            clear Bc Br Rr hL1
            have EC := Lib.hid (fun W => aencode_any little y fy W)
            have EF := Lib.hid (fun W => r7encode_any little y fy W)
            unfold S7.Au.val S7.Au.cells at EC EF
            have TYc := TY
            obtain ⟨x0, x1, x2, x3, x4, x5⟩ := TYc
            go_wp2_with (fail)
            refine (EC.out _).mono ?_
            rintro e w21 ⟨A1, n1, c1, rfl, hs1, hb1, _⟩
            clear x0 x1 x2 x3 x4 x5
            replace TY := TY.keep hb1
            have TYc := TY
            obtain ⟨x0, x1, x2, x3, x4, x5⟩ := TYc
            have B21 := Lib.hid (below_keep hb1 B20.out)
            clear hb1 B20
            replace hs1 := Lib.hid hs1
            go_wp2_with (fail)
            refine (EF.out _).mono ?_
            rintro e w22 ⟨A2, n2, c2, rfl, hs2, hb2, _⟩
            clear x0 x1 x2 x3 x4 x5
            replace TY := TY.keep hb2
            have B22 := Lib.hid (below_keep hb2 B21.out)
            replace hs1 := Lib.hid (hs1.out.keep hb2)
            clear hb2 B21 EC EF
            have u1 := conv_sl hs1.out
            have u2 := conv_sl hs2
            clear hs2
            by_cases hc : S7.chkE y = 0
            · have hne : (S7.chkE y == 0) = true := by rw [hc]; rfl
              have hd := S7.dec_enc (l := little) hc
              have he : S7.encB little y = S7.enc little y := by unfold S7.encB; rw [if_pos hc]
              have hq := S7.dec_other (l := little) (m := !little) (t := y) (by cases little <;> decide)
              have hn1 : n1 ≤ 100000 := by have := hs1.out.len; have := S7.encB_len little y; omega
              have DC := adecode_any little A1 n1 c1 _ w22 hs1.out hn1
              unfold DecOut7 at DC
              rw [he, hd.1, hd.2] at DC
              unfold S7.Au.val S7.Au.cells at DC
              replace DC := Lib.hid DC
              have DD := Lib.hid (fun W (h : Sl W A1 n1 c1 (S7.encB little y)) => adecode_any (!little) A1 n1 c1 _ W h hn1)
              unfold DecOut7 at DD
              rw [he, hq.1, hq.2] at DD
              rw [he] at hs1
              unfold S7.Au.val S7.Au.cells S7.Au.zero at DD
              clear hd he hc hq
              go_wp2_with (fail)
              refine DC.out.mono ?_
              rintro e w23 ⟨rfl, hb3⟩
              have hb4 : Below w23.heap.size w23 (w23.alloc (.cells #[.string y.a, .string y.b, .string y.c, .int .i64 y.ck, .int .i64 y.ti, .int .i64 y.tm] 25)) := (Below.refl _ _).alloc (Nat.le_refl _) _
              have V4 := AuAt.new w23 y 25
              unfold S7.Au.cells at V4
              have T4 := Lib.hid ((TY.keep hb3).keep hb4)
              have hs4 := Lib.hid ((hs1.out.keep hb3).keep hb4)
              have B24 := Lib.hid (below_keep hb4 (below_keep hb3 B22.out))
              replace V4 := Lib.hid V4
              clear hb3 hb4 B22 TY
              go_wp2_with (fail)
              refine (DD.out _ hs4.out).mono ?_
              rintro e w25 ⟨rfl, hb5⟩
              have V5 := V4.out.keep hb5
              have T5 := T4.out.keep hb5
              obtain ⟨x0, x1, x2, x3, x4, x5⟩ := T5
              obtain ⟨z0, z1, z2, z3, z4, z5⟩ := V5
              have ty := cell_lt x0
              have tz := cell_lt z0
              have B25 := Lib.hid (below_keep hb5 B24.out)
              clear hb5 B24
              go_wp2_with (fail)
              go_roundw
              case rel => exact ⟨2, by omega, rfl, B25.out.alloc B25.out.size _⟩
              case measure => simp [intOf]
            · have hne : (S7.chkE y == 0) = false := by simpa using hc
              clear hc
              go_wp2_with (fail)
              go_roundw
              case rel => exact ⟨2, by omega, rfl, B22.out⟩
              case measure => simp [intOf]
      · go_wp2_with (fail)
        go_ret
        exact ⟨rfl, below_keep Br B2.out⟩

end Go.Proofs.Ytihacmonohjmaaa
