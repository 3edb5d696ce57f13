/-
  The law KdcRequests: the bytes of any request, or the error, and that they are decoded as they were.
-/
import Derived.Test.YtkhkmgblgonfoaaQKdA
import Derived.Test.YtkhkmgblgonfoaaQGrow
import Derived.Deep.RegionHeld3
import Derived.IntWalk
import Derived.Deep.DeepCutAuto
namespace Go.Proofs.Ytkhkmgblgonfoaa
open Go.RowKit

set_option maxRecDepth 100000 in
set_option maxHeartbeats 6400000 in
theorem requestsLaw9_walk (t : S9q.Rq) (LA : Option Addr) (ln lcap : Nat) (ls : List Int) (little : Bool) (w : World) (f : t.Fit) (hL : Sl w LA ln lcap ls) :
    Calls Try.prog 3 #[t.val, .slice LA ln lcap, .bool little] w fun e w' => e = .returned (.bool true) ∧ Below w.heap.size w w' := by
  have Bw := Lib.hid (show Below w.heap.size w (w.alloc (.cells t.cells 25)) from (Below.refl _ _).alloc (Nat.le_refl _) _)
  have R0 := Lib.hid (RqAt.new w t 25)
  have hmax := hL.max
  unfold maxLen at hmax
  have hL0 := Lib.hid (hL.keep Bw.out)
  unfold S9q.Rq.val S9q.Rq.cells
  unfold S9q.Rq.cells at Bw R0 hL0
  go_enter Try.func3, Try.ntmps3
  go_wp2_with (fail)
  refine (awake9_any _).mono ?_
  rintro e w1 ⟨rfl, hb1⟩
  have R1 := Lib.hid (R0.out.keep hb1)
  obtain ⟨x0, x1, x2, x3, x4, x5, x6, x7⟩ := R0.out.keep hb1
  have B1 := Lib.hid (below_keep hb1 Bw.out)
  clear hb1 R0
  go_wp2_with (fail)
  clear x0 x1 x2 x3 x4 x5 x6 x7
  refine (long9_any w1.heap.size 5 [t.a, t.b, t.c, t.s, t.i] _ rfl (by decide) (by
    intro i s hs
    match i, hs with
    | 0, hs => simp at hs; subst hs; exact ⟨by simp [go_sem], f.a⟩
    | 1, hs => simp at hs; subst hs; exact ⟨by simp [go_sem], f.b⟩
    | 2, hs => simp at hs; subst hs; exact ⟨by simp [go_sem], f.c⟩
    | 3, hs => simp at hs; subst hs; exact ⟨by simp [go_sem], f.s⟩
    | 4, hs => simp at hs; subst hs; exact ⟨by simp [go_sem], f.i⟩
    | i + 5, hs => simp at hs)).mono ?_
  rintro e w2 ⟨q, rfl, hb2⟩
  have hba : Below w1.heap.size w1 (w1.alloc (.cells #[.string t.a, .string t.b, .string t.c, .string t.s, .string t.i] 9)) := (Below.refl _ _).alloc (Nat.le_refl _) _
  have R2 := Lib.hid ((R1.out.keep hba).keep hb2)
  have B2 := Lib.hid (below_keep hb2 (below_keep hba B1.out))
  clear hb2 hba R1 B1
  have ways : q = true ∨ q = false ∧ 40 < (ln : Int) ∨ q = false ∧ (ln : Int) ≤ 40 := by
    rcases q
    · rcases Int.lt_or_le 40 (ln : Int) with g | g
      · exact .inr (.inl ⟨rfl, g⟩)
      · exact .inr (.inr ⟨rfl, g⟩)
    · exact .inl rfl
  rcases ways with rfl | ⟨rfl, k1⟩ | ⟨rfl, k1⟩
  · go_wp2_with (fail)
    go_ret
    exact ⟨rfl, B2.out⟩
  · go_wp2_with (fail)
    go_ret
    exact ⟨rfl, B2.out⟩
  · have hL2 := Lib.hid (hL.keep B2.out)
    go_wp2_with (fail)
    go_loopw [7] (fun i wr => ∃ p : Nat, p ≤ 2 ∧ i = .int .i64 p ∧ Below w2.heap.size w2 wr) (fun i _ => 2 - (intOf i).toNat)
    case atStart => exact ⟨0, by omega, rfl, Below.refl _ _⟩
    case round =>
      obtain ⟨p, hp, rfl, Br⟩ := hrel
      have Rr := Lib.hid (R2.out.keep Br)
      have hL1 := Lib.hid (hL2.out.keep Br)
      by_cases hlt : p < 2
      · rcases (show p = 0 ∨ p = 1 by omega) with rfl | rfl
        · go_upto_region 8 with (fail)
          go_cut [8] (fun s6 wx => ∃ T y, s6 = .pointer (some ⟨T, 0, none⟩) ∧ y.Fit ∧ RqAt wx T y ∧ Below wr.heap.size wr wx)
          case first =>
            refine wp_region_held_drew (S := (fun W => Below wr.heap.size wr W ∧ RqAt W w.heap.size t)) (by kernel_rfl) ⟨(Below.refl _ _).drew, Rr.out.drew⟩ (fun hS => ?_)
            generalize wr.drew = w5 at hS ⊢
            refine' wpAnyH_take (i := 0) (v := ?vp00) rfl (by kernel_rfl) (by kernel_rfl) (by kernel_rfl) (fun _ _ _ h => h) (Or.inl ⟨by kernel_rfl, fun W hW => ?yp00⟩) hS ?rp00
            case yp00 => (obtain ⟨x0, x1, x2, x3, x4, x5, x6, x7⟩ := hW.2; go_simp; first | done | with_reducible rfl | (rw [if_pos (by omega)]))
            refine' wpAnyH_take (i := 1) (v := ?vp01) rfl (by kernel_rfl) (by kernel_rfl) (by kernel_rfl) (fun _ _ _ h => h) (Or.inl ⟨by kernel_rfl, fun W hW => ?yp01⟩) hS ?rp01
            case yp01 => (go_simp; first | done | with_reducible rfl | (rw [if_pos (by omega)]))
            refine' wpAnyH_take (i := 2) (v := ?vp02) rfl (by kernel_rfl) (by kernel_rfl) (by kernel_rfl) (fun _ _ _ h => h) (Or.inl ⟨by kernel_rfl, fun W hW => ?yp02⟩) hS ?rp02
            case yp02 => (go_simp; first | done | with_reducible rfl | (rw [if_pos (by omega)]))
            refine' wpAnyH_take (i := 5) (v := ?vp05) rfl (by kernel_rfl) (by kernel_rfl) (by kernel_rfl) (fun _ _ _ h => h) (Or.inl ⟨by kernel_rfl, fun W hW => ?yp05⟩) hS ?rp05
            case yp05 => (go_simp; first | done | with_reducible rfl | (rw [if_pos (by omega)]))
            refine wpAnyH_ready (rs := [3, 8]) (by kernel_rfl) (by simp) ?_
            refine AllReadyH.cons rfl (fun K hK => ?_) (AllReadyH.cons rfl (fun K hK => ?_) AllReadyH.nil)
            · go_simp
              refine (request9_any LA ln lcap ls little _ (hL1.out.keep hS.1) (by omega)).mono ?_
              rintro e w11 ⟨u, rfl, fu, _, hb⟩
              replace fu := Lib.hid fu
              unfold S9q.Rq.val S9q.Rq.cells
              go_wp2_with (fail)
              have hSn := (And.intro (below_keep hb hS.1) (hS.2.keep hb))
              clear hb
              refine hK.out _ _ hSn (fun hS2 => ?_)
              clear hK K hS hSn
              have hS := hS2
              clear hS2
              refine wpAnyH_ready (rs := [4, 8]) (by kernel_rfl) (by simp) ?_
              refine AllReadyH.cons rfl (fun K hK => ?_) (AllReadyH.cons rfl (fun K hK => ?_) AllReadyH.nil)
              · go_simp
                have hb : Below w11.heap.size w11 (w11.alloc (.cells #[.bool t.l, .string t.a, .string t.b, .string t.c, .int .i64 t.tm, .int .i64 t.li, .string t.s, .string t.i, .bool u.l, .string u.a, .string u.b, .string u.c, .int .i64 u.tm, .int .i64 u.li, .string u.s, .string u.i] 25)) := (Below.refl _ _).alloc (Nat.le_refl _) _
                have XB : BoxAt (w11.alloc (.cells #[.bool t.l, .string t.a, .string t.b, .string t.c, .int .i64 t.tm, .int .i64 t.li, .string t.s, .string t.i, .bool u.l, .string u.a, .string u.b, .string u.c, .int .i64 u.tm, .int .i64 u.li, .string u.s, .string u.i] 25)) w11.heap.size [.bool t.l, .string t.a, .string t.b, .string t.c, .int .i64 t.tm, .int .i64 t.li, .string t.s, .string t.i, .bool u.l, .string u.a, .string u.b, .string u.c, .int .i64 u.tm, .int .i64 u.li, .string u.s, .string u.i] := BoxAt.new w11 [.bool t.l, .string t.a, .string t.b, .string t.c, .int .i64 t.tm, .int .i64 t.li, .string t.s, .string t.i, .bool u.l, .string u.a, .string u.b, .string u.c, .int .i64 u.tm, .int .i64 u.li, .string u.s, .string u.i] 25
                have hSn := (And.intro (below_keep hb hS.1) (hS.2.keep hb))

                obtain ⟨G, hG⟩ : ∃ G, G = w11.heap.size := ⟨_, rfl⟩
                rw [← hG] at XB

                rw [← hG]
                clear hG hb
                generalize (w11.alloc (.cells #[.bool t.l, .string t.a, .string t.b, .string t.c, .int .i64 t.tm, .int .i64 t.li, .string t.s, .string t.i, .bool u.l, .string u.a, .string u.b, .string u.c, .int .i64 u.tm, .int .i64 u.li, .string u.s, .string u.i] 25)) = w12 at XB hSn ⊢
                refine hK.out _ _ hSn (fun hS2 => ?_)
                clear hK K hS2
                refine held_grow (S' := (fun W => Below wr.heap.size wr W ∧ RqAt W w.heap.size t ∧ BoxAt W G [.bool t.l, .string t.a, .string t.b, .string t.c, .int .i64 t.tm, .int .i64 t.li, .string t.s, .string t.i, .bool u.l, .string u.a, .string u.b, .string u.c, .int .i64 u.tm, .int .i64 u.li, .string u.s, .string u.i])) (fun W hW => ⟨hW.1, hW.2.1⟩) _ _ _ _ ?_
                replace hS : Below wr.heap.size wr w12 ∧ RqAt w12 w.heap.size t ∧ BoxAt w12 G [.bool t.l, .string t.a, .string t.b, .string t.c, .int .i64 t.tm, .int .i64 t.li, .string t.s, .string t.i, .bool u.l, .string u.a, .string u.b, .string u.c, .int .i64 u.tm, .int .i64 u.li, .string u.s, .string u.i] := ⟨hSn.1, hSn.2, XB⟩
                clear XB
                refine' wpAnyH_take (i := 6) (v := ?vp01_2_6) rfl (by kernel_rfl) (by kernel_rfl) (by kernel_rfl) (fun _ _ _ h => h) (Or.inl ⟨by kernel_rfl, fun W hW => ?yp01_2_6⟩) hS ?rp01_2_6
                case yp01_2_6 => (go_simp; first | done | with_reducible rfl | (rw [if_pos (by omega)]))
                refine' wpAnyH_take (i := 7) (v := ?vp01_2_7) rfl (by kernel_rfl) (by kernel_rfl) (by kernel_rfl) (fun _ _ _ h => h) (Or.inl ⟨by kernel_rfl, fun W hW => ?yp01_2_7⟩) hS ?rp01_2_7
                case yp01_2_7 => (obtain ⟨_, _, hbs⟩ := hW; have y0 := hbs.c 0 _ rfl; have y1 := hbs.c 1 _ rfl; have y2 := hbs.c 2 _ rfl; have y3 := hbs.c 3 _ rfl; have y4 := hbs.c 4 _ rfl; have y5 := hbs.c 5 _ rfl; have y6 := hbs.c 6 _ rfl; have y7 := hbs.c 7 _ rfl; go_simp; first | done | with_reducible rfl | (rw [if_pos (by omega)]))
                refine wpAnyH_ready (rs := [8]) (by kernel_rfl) (by simp) ?_
                refine AllReadyH.cons rfl (fun K hK => ?_) AllReadyH.nil
                go_simp
                have hb : Below w12.heap.size w12 (w12.alloc (.cells #[.bool false, .string ⟨#[]⟩, .string ⟨#[]⟩, .string ⟨#[]⟩, .int .i64 0, .int .i64 0, .string ⟨#[]⟩, .string ⟨#[]⟩] 25)) := (Below.refl _ _).alloc (Nat.le_refl _) _
                have XT : BoxAt (w12.alloc (.cells #[.bool false, .string ⟨#[]⟩, .string ⟨#[]⟩, .string ⟨#[]⟩, .int .i64 0, .int .i64 0, .string ⟨#[]⟩, .string ⟨#[]⟩] 25)) w12.heap.size zeroRq := BoxAt.new w12 zeroRq 25
                have hSn := (And.intro (below_keep hb hS.1) (And.intro (hS.2.1.keep hb) (hS.2.2.keep hb)))
                have hTb := hS.1.size
                have hTG := hS.2.2.lt
                obtain ⟨T, hT⟩ : ∃ T, T = w12.heap.size := ⟨_, rfl⟩
                rw [← hT] at XT hTb hTG
                rw [← hT]
                clear hT hb
                generalize (w12.alloc (.cells #[.bool false, .string ⟨#[]⟩, .string ⟨#[]⟩, .string ⟨#[]⟩, .int .i64 0, .int .i64 0, .string ⟨#[]⟩, .string ⟨#[]⟩] 25)) = w13 at XT hSn ⊢
                replace XT := Lib.hid XT
                refine hK.out _ _ hSn (fun hS2 => ?_)
                clear hK K hS hSn
                have hS := hS2
                clear hS2
                refine wpAnyH_ready (rs := [9]) (by kernel_rfl) (by simp) ?_
                refine AllReadyH.cons rfl (fun K hK => ?_) AllReadyH.nil
                have xf := XT.out.fz
                have xl := XT.out.lt
                have x0 := XT.out.c 0 _ rfl
                have x1 := XT.out.c 1 _ rfl
                have x2 := XT.out.c 2 _ rfl
                have x3 := XT.out.c 3 _ rfl
                have x4 := XT.out.c 4 _ rfl
                have x5 := XT.out.c 5 _ rfl
                have x6 := XT.out.c 6 _ rfl
                have x7 := XT.out.c 7 _ rfl
                go_simp
                have yT : BoxAt ((((((((w13.setCell ⟨T, 0, none⟩ (.bool t.l)).setCell ⟨T, 1, none⟩ (.string t.a)).setCell ⟨T, 2, none⟩ (.string t.b)).setCell ⟨T, 3, none⟩ (.string t.c)).setCell ⟨T, 4, none⟩ (.int .i64 t.tm)).setCell ⟨T, 5, none⟩ (.int .i64 t.li)).setCell ⟨T, 6, none⟩ (.string t.s)).setCell ⟨T, 7, none⟩ (.string t.i)) T (rqL t) := ((((((((XT.out.set 0 (.bool t.l) (by simp [zeroRq])).set 1 (.string t.a) (by simp [zeroRq])).set 2 (.string t.b) (by simp [zeroRq])).set 3 (.string t.c) (by simp [zeroRq])).set 4 (.int .i64 t.tm) (by simp [zeroRq])).set 5 (.int .i64 t.li) (by simp [zeroRq])).set 6 (.string t.s) (by simp [zeroRq])).set 7 (.string t.i) (by simp [zeroRq]))
                have gT : w13.grownBy ((((((((w13.setCell ⟨T, 0, none⟩ (.bool t.l)).setCell ⟨T, 1, none⟩ (.string t.a)).setCell ⟨T, 2, none⟩ (.string t.b)).setCell ⟨T, 3, none⟩ (.string t.c)).setCell ⟨T, 4, none⟩ (.int .i64 t.tm)).setCell ⟨T, 5, none⟩ (.int .i64 t.li)).setCell ⟨T, 6, none⟩ (.string t.s)).setCell ⟨T, 7, none⟩ (.string t.i)) (some T) := ((((((((grown_set w13 ⟨T, 0, none⟩ (.bool t.l)).trans (grown_set _ ⟨T, 1, none⟩ (.string t.a))).trans (grown_set _ ⟨T, 2, none⟩ (.string t.b))).trans (grown_set _ ⟨T, 3, none⟩ (.string t.c))).trans (grown_set _ ⟨T, 4, none⟩ (.int .i64 t.tm))).trans (grown_set _ ⟨T, 5, none⟩ (.int .i64 t.li))).trans (grown_set _ ⟨T, 6, none⟩ (.string t.s))).trans (grown_set _ ⟨T, 7, none⟩ (.string t.i)))
                generalize ((((((((w13.setCell ⟨T, 0, none⟩ (.bool t.l)).setCell ⟨T, 1, none⟩ (.string t.a)).setCell ⟨T, 2, none⟩ (.string t.b)).setCell ⟨T, 3, none⟩ (.string t.c)).setCell ⟨T, 4, none⟩ (.int .i64 t.tm)).setCell ⟨T, 5, none⟩ (.int .i64 t.li)).setCell ⟨T, 6, none⟩ (.string t.s)).setCell ⟨T, 7, none⟩ (.string t.i)) = w99 at yT gT ⊢
                have rl := cell_lt Rr.out.c0
                have hSn := And.intro (hS.1.grown gT hS.1.size (fun k e => by cases e; exact hTb)) (And.intro (hS.2.1.grown gT (by simp; omega)) (hS.2.2.grown gT (by simp; omega)))
                refine hK.out _ _ hSn (fun hS2 => ?_)
                clear hK K hS
                refine wpAnyH_done (by kernel_rfl) ?_ _
                go_wp2_with (fail)
                go_meet
                exact ⟨T, t, rfl, f, RqAt.ofL yT, hSn.1⟩
              · go_simp
                have hb : Below w11.heap.size w11 (w11.alloc (.cells #[.bool false, .string ⟨#[]⟩, .string ⟨#[]⟩, .string ⟨#[]⟩, .int .i64 0, .int .i64 0, .string ⟨#[]⟩, .string ⟨#[]⟩] 25)) := (Below.refl _ _).alloc (Nat.le_refl _) _
                have XT : BoxAt (w11.alloc (.cells #[.bool false, .string ⟨#[]⟩, .string ⟨#[]⟩, .string ⟨#[]⟩, .int .i64 0, .int .i64 0, .string ⟨#[]⟩, .string ⟨#[]⟩] 25)) w11.heap.size zeroRq := BoxAt.new w11 zeroRq 25
                have hSn := (And.intro (below_keep hb hS.1) (hS.2.keep hb))
                have hTb := hS.1.size

                obtain ⟨T, hT⟩ : ∃ T, T = w11.heap.size := ⟨_, rfl⟩
                rw [← hT] at XT hTb
                rw [← hT]
                clear hT hb
                generalize (w11.alloc (.cells #[.bool false, .string ⟨#[]⟩, .string ⟨#[]⟩, .string ⟨#[]⟩, .int .i64 0, .int .i64 0, .string ⟨#[]⟩, .string ⟨#[]⟩] 25)) = w15 at XT hSn ⊢
                replace XT := Lib.hid XT
                refine hK.out _ _ hSn (fun hS2 => ?_)
                clear hK K hS hSn
                have hS := hS2
                clear hS2
                refine wpAnyH_ready (rs := [4]) (by kernel_rfl) (by simp) ?_
                refine AllReadyH.cons rfl (fun K hK => ?_) AllReadyH.nil
                go_simp
                have hb : Below w15.heap.size w15 (w15.alloc (.cells #[.bool t.l, .string t.a, .string t.b, .string t.c, .int .i64 t.tm, .int .i64 t.li, .string t.s, .string t.i, .bool u.l, .string u.a, .string u.b, .string u.c, .int .i64 u.tm, .int .i64 u.li, .string u.s, .string u.i] 25)) := (Below.refl _ _).alloc (Nat.le_refl _) _
                have XB : BoxAt (w15.alloc (.cells #[.bool t.l, .string t.a, .string t.b, .string t.c, .int .i64 t.tm, .int .i64 t.li, .string t.s, .string t.i, .bool u.l, .string u.a, .string u.b, .string u.c, .int .i64 u.tm, .int .i64 u.li, .string u.s, .string u.i] 25)) w15.heap.size [.bool t.l, .string t.a, .string t.b, .string t.c, .int .i64 t.tm, .int .i64 t.li, .string t.s, .string t.i, .bool u.l, .string u.a, .string u.b, .string u.c, .int .i64 u.tm, .int .i64 u.li, .string u.s, .string u.i] := BoxAt.new w15 [.bool t.l, .string t.a, .string t.b, .string t.c, .int .i64 t.tm, .int .i64 t.li, .string t.s, .string t.i, .bool u.l, .string u.a, .string u.b, .string u.c, .int .i64 u.tm, .int .i64 u.li, .string u.s, .string u.i] 25
                have hSn := (And.intro (below_keep hb hS.1) (hS.2.keep hb))
                have hTG := XT.out.lt
                replace XT := Lib.hid (XT.out.keep hb)
                obtain ⟨G, hG⟩ : ∃ G, G = w15.heap.size := ⟨_, rfl⟩
                rw [← hG] at XB
                rw [← hG] at hTG
                rw [← hG]
                clear hG hb
                generalize (w15.alloc (.cells #[.bool t.l, .string t.a, .string t.b, .string t.c, .int .i64 t.tm, .int .i64 t.li, .string t.s, .string t.i, .bool u.l, .string u.a, .string u.b, .string u.c, .int .i64 u.tm, .int .i64 u.li, .string u.s, .string u.i] 25)) = w16 at XB hSn XT ⊢
                refine hK.out _ _ hSn (fun hS2 => ?_)
                clear hK K hS2
                refine held_grow (S' := (fun W => Below wr.heap.size wr W ∧ RqAt W w.heap.size t ∧ BoxAt W G [.bool t.l, .string t.a, .string t.b, .string t.c, .int .i64 t.tm, .int .i64 t.li, .string t.s, .string t.i, .bool u.l, .string u.a, .string u.b, .string u.c, .int .i64 u.tm, .int .i64 u.li, .string u.s, .string u.i])) (fun W hW => ⟨hW.1, hW.2.1⟩) _ _ _ _ ?_
                replace hS : Below wr.heap.size wr w16 ∧ RqAt w16 w.heap.size t ∧ BoxAt w16 G [.bool t.l, .string t.a, .string t.b, .string t.c, .int .i64 t.tm, .int .i64 t.li, .string t.s, .string t.i, .bool u.l, .string u.a, .string u.b, .string u.c, .int .i64 u.tm, .int .i64 u.li, .string u.s, .string u.i] := ⟨hSn.1, hSn.2, XB⟩
                clear XB
                refine' wpAnyH_take (i := 6) (v := ?vp01_5_6_6) rfl (by kernel_rfl) (by kernel_rfl) (by kernel_rfl) (fun _ _ _ h => h) (Or.inl ⟨by kernel_rfl, fun W hW => ?yp01_5_6_6⟩) hS ?rp01_5_6_6
                case yp01_5_6_6 => (go_simp; first | done | with_reducible rfl | (rw [if_pos (by omega)]))
                refine' wpAnyH_take (i := 7) (v := ?vp01_5_6_7) rfl (by kernel_rfl) (by kernel_rfl) (by kernel_rfl) (fun _ _ _ h => h) (Or.inl ⟨by kernel_rfl, fun W hW => ?yp01_5_6_7⟩) hS ?rp01_5_6_7
                case yp01_5_6_7 => (obtain ⟨_, _, hbs⟩ := hW; have y0 := hbs.c 0 _ rfl; have y1 := hbs.c 1 _ rfl; have y2 := hbs.c 2 _ rfl; have y3 := hbs.c 3 _ rfl; have y4 := hbs.c 4 _ rfl; have y5 := hbs.c 5 _ rfl; have y6 := hbs.c 6 _ rfl; have y7 := hbs.c 7 _ rfl; go_simp; first | done | with_reducible rfl | (rw [if_pos (by omega)]))
                refine wpAnyH_ready (rs := [9]) (by kernel_rfl) (by simp) ?_
                refine AllReadyH.cons rfl (fun K hK => ?_) AllReadyH.nil
                have xf := XT.out.fz
                have xl := XT.out.lt
                have x0 := XT.out.c 0 _ rfl
                have x1 := XT.out.c 1 _ rfl
                have x2 := XT.out.c 2 _ rfl
                have x3 := XT.out.c 3 _ rfl
                have x4 := XT.out.c 4 _ rfl
                have x5 := XT.out.c 5 _ rfl
                have x6 := XT.out.c 6 _ rfl
                have x7 := XT.out.c 7 _ rfl
                go_simp
                have yT : BoxAt ((((((((w16.setCell ⟨T, 0, none⟩ (.bool t.l)).setCell ⟨T, 1, none⟩ (.string t.a)).setCell ⟨T, 2, none⟩ (.string t.b)).setCell ⟨T, 3, none⟩ (.string t.c)).setCell ⟨T, 4, none⟩ (.int .i64 t.tm)).setCell ⟨T, 5, none⟩ (.int .i64 t.li)).setCell ⟨T, 6, none⟩ (.string t.s)).setCell ⟨T, 7, none⟩ (.string t.i)) T (rqL t) := ((((((((XT.out.set 0 (.bool t.l) (by simp [zeroRq])).set 1 (.string t.a) (by simp [zeroRq])).set 2 (.string t.b) (by simp [zeroRq])).set 3 (.string t.c) (by simp [zeroRq])).set 4 (.int .i64 t.tm) (by simp [zeroRq])).set 5 (.int .i64 t.li) (by simp [zeroRq])).set 6 (.string t.s) (by simp [zeroRq])).set 7 (.string t.i) (by simp [zeroRq]))
                have gT : w16.grownBy ((((((((w16.setCell ⟨T, 0, none⟩ (.bool t.l)).setCell ⟨T, 1, none⟩ (.string t.a)).setCell ⟨T, 2, none⟩ (.string t.b)).setCell ⟨T, 3, none⟩ (.string t.c)).setCell ⟨T, 4, none⟩ (.int .i64 t.tm)).setCell ⟨T, 5, none⟩ (.int .i64 t.li)).setCell ⟨T, 6, none⟩ (.string t.s)).setCell ⟨T, 7, none⟩ (.string t.i)) (some T) := ((((((((grown_set w16 ⟨T, 0, none⟩ (.bool t.l)).trans (grown_set _ ⟨T, 1, none⟩ (.string t.a))).trans (grown_set _ ⟨T, 2, none⟩ (.string t.b))).trans (grown_set _ ⟨T, 3, none⟩ (.string t.c))).trans (grown_set _ ⟨T, 4, none⟩ (.int .i64 t.tm))).trans (grown_set _ ⟨T, 5, none⟩ (.int .i64 t.li))).trans (grown_set _ ⟨T, 6, none⟩ (.string t.s))).trans (grown_set _ ⟨T, 7, none⟩ (.string t.i)))
                generalize ((((((((w16.setCell ⟨T, 0, none⟩ (.bool t.l)).setCell ⟨T, 1, none⟩ (.string t.a)).setCell ⟨T, 2, none⟩ (.string t.b)).setCell ⟨T, 3, none⟩ (.string t.c)).setCell ⟨T, 4, none⟩ (.int .i64 t.tm)).setCell ⟨T, 5, none⟩ (.int .i64 t.li)).setCell ⟨T, 6, none⟩ (.string t.s)).setCell ⟨T, 7, none⟩ (.string t.i)) = w99 at yT gT ⊢
                have rl := cell_lt Rr.out.c0
                have hSn := And.intro (hS.1.grown gT hS.1.size (fun k e => by cases e; exact hTb)) (And.intro (hS.2.1.grown gT (by simp; omega)) (hS.2.2.grown gT (by simp; omega)))
                refine hK.out _ _ hSn (fun hS2 => ?_)
                clear hK K hS
                refine wpAnyH_done (by kernel_rfl) ?_ _
                go_wp2_with (fail)
                go_meet
                exact ⟨T, t, rfl, f, RqAt.ofL yT, hSn.1⟩
            · go_simp
              have hb : Below w5.heap.size w5 (w5.alloc (.cells #[.bool false, .string ⟨#[]⟩, .string ⟨#[]⟩, .string ⟨#[]⟩, .int .i64 0, .int .i64 0, .string ⟨#[]⟩, .string ⟨#[]⟩] 25)) := (Below.refl _ _).alloc (Nat.le_refl _) _
              have XT : BoxAt (w5.alloc (.cells #[.bool false, .string ⟨#[]⟩, .string ⟨#[]⟩, .string ⟨#[]⟩, .int .i64 0, .int .i64 0, .string ⟨#[]⟩, .string ⟨#[]⟩] 25)) w5.heap.size zeroRq := BoxAt.new w5 zeroRq 25
              have hSn := (And.intro (below_keep hb hS.1) (hS.2.keep hb))
              have hTb := hS.1.size

              obtain ⟨T, hT⟩ : ∃ T, T = w5.heap.size := ⟨_, rfl⟩
              rw [← hT] at XT hTb
              rw [← hT]
              clear hT hb
              generalize (w5.alloc (.cells #[.bool false, .string ⟨#[]⟩, .string ⟨#[]⟩, .string ⟨#[]⟩, .int .i64 0, .int .i64 0, .string ⟨#[]⟩, .string ⟨#[]⟩] 25)) = w18 at XT hSn ⊢
              replace XT := Lib.hid XT
              refine hK.out _ _ hSn (fun hS2 => ?_)
              clear hK K hS hSn
              have hS := hS2
              clear hS2
              refine wpAnyH_ready (rs := [3]) (by kernel_rfl) (by simp) ?_
              refine AllReadyH.cons rfl (fun K hK => ?_) AllReadyH.nil
              go_simp
              refine (request9_any LA ln lcap ls little _ (hL1.out.keep hS.1) (by omega)).mono ?_
              rintro e w19 ⟨u, rfl, fu, _, hb⟩
              replace fu := Lib.hid fu
              unfold S9q.Rq.val S9q.Rq.cells
              go_wp2_with (fail)
              have hSn := (And.intro (below_keep hb hS.1) (hS.2.keep hb))
              replace XT := Lib.hid (XT.out.keep hb)
              clear hb
              refine hK.out _ _ hSn (fun hS2 => ?_)
              clear hK K hS hSn
              have hS := hS2
              clear hS2
              refine wpAnyH_ready (rs := [4]) (by kernel_rfl) (by simp) ?_
              refine AllReadyH.cons rfl (fun K hK => ?_) AllReadyH.nil
              go_simp
              have hb : Below w19.heap.size w19 (w19.alloc (.cells #[.bool t.l, .string t.a, .string t.b, .string t.c, .int .i64 t.tm, .int .i64 t.li, .string t.s, .string t.i, .bool u.l, .string u.a, .string u.b, .string u.c, .int .i64 u.tm, .int .i64 u.li, .string u.s, .string u.i] 25)) := (Below.refl _ _).alloc (Nat.le_refl _) _
              have XB : BoxAt (w19.alloc (.cells #[.bool t.l, .string t.a, .string t.b, .string t.c, .int .i64 t.tm, .int .i64 t.li, .string t.s, .string t.i, .bool u.l, .string u.a, .string u.b, .string u.c, .int .i64 u.tm, .int .i64 u.li, .string u.s, .string u.i] 25)) w19.heap.size [.bool t.l, .string t.a, .string t.b, .string t.c, .int .i64 t.tm, .int .i64 t.li, .string t.s, .string t.i, .bool u.l, .string u.a, .string u.b, .string u.c, .int .i64 u.tm, .int .i64 u.li, .string u.s, .string u.i] := BoxAt.new w19 [.bool t.l, .string t.a, .string t.b, .string t.c, .int .i64 t.tm, .int .i64 t.li, .string t.s, .string t.i, .bool u.l, .string u.a, .string u.b, .string u.c, .int .i64 u.tm, .int .i64 u.li, .string u.s, .string u.i] 25
              have hSn := (And.intro (below_keep hb hS.1) (hS.2.keep hb))
              have hTG := XT.out.lt
              replace XT := Lib.hid (XT.out.keep hb)
              obtain ⟨G, hG⟩ : ∃ G, G = w19.heap.size := ⟨_, rfl⟩
              rw [← hG] at XB
              rw [← hG] at hTG
              rw [← hG]
              clear hG hb
              generalize (w19.alloc (.cells #[.bool t.l, .string t.a, .string t.b, .string t.c, .int .i64 t.tm, .int .i64 t.li, .string t.s, .string t.i, .bool u.l, .string u.a, .string u.b, .string u.c, .int .i64 u.tm, .int .i64 u.li, .string u.s, .string u.i] 25)) = w20 at XB hSn XT ⊢
              refine hK.out _ _ hSn (fun hS2 => ?_)
              clear hK K hS2
              refine held_grow (S' := (fun W => Below wr.heap.size wr W ∧ RqAt W w.heap.size t ∧ BoxAt W G [.bool t.l, .string t.a, .string t.b, .string t.c, .int .i64 t.tm, .int .i64 t.li, .string t.s, .string t.i, .bool u.l, .string u.a, .string u.b, .string u.c, .int .i64 u.tm, .int .i64 u.li, .string u.s, .string u.i])) (fun W hW => ⟨hW.1, hW.2.1⟩) _ _ _ _ ?_
              replace hS : Below wr.heap.size wr w20 ∧ RqAt w20 w.heap.size t ∧ BoxAt w20 G [.bool t.l, .string t.a, .string t.b, .string t.c, .int .i64 t.tm, .int .i64 t.li, .string t.s, .string t.i, .bool u.l, .string u.a, .string u.b, .string u.c, .int .i64 u.tm, .int .i64 u.li, .string u.s, .string u.i] := ⟨hSn.1, hSn.2, XB⟩
              clear XB
              refine' wpAnyH_take (i := 6) (v := ?vp08_9_10_6) rfl (by kernel_rfl) (by kernel_rfl) (by kernel_rfl) (fun _ _ _ h => h) (Or.inl ⟨by kernel_rfl, fun W hW => ?yp08_9_10_6⟩) hS ?rp08_9_10_6
              case yp08_9_10_6 => (go_simp; first | done | with_reducible rfl | (rw [if_pos (by omega)]))
              refine' wpAnyH_take (i := 7) (v := ?vp08_9_10_7) rfl (by kernel_rfl) (by kernel_rfl) (by kernel_rfl) (fun _ _ _ h => h) (Or.inl ⟨by kernel_rfl, fun W hW => ?yp08_9_10_7⟩) hS ?rp08_9_10_7
              case yp08_9_10_7 => (obtain ⟨_, _, hbs⟩ := hW; have y0 := hbs.c 0 _ rfl; have y1 := hbs.c 1 _ rfl; have y2 := hbs.c 2 _ rfl; have y3 := hbs.c 3 _ rfl; have y4 := hbs.c 4 _ rfl; have y5 := hbs.c 5 _ rfl; have y6 := hbs.c 6 _ rfl; have y7 := hbs.c 7 _ rfl; go_simp; first | done | with_reducible rfl | (rw [if_pos (by omega)]))
              refine wpAnyH_ready (rs := [9]) (by kernel_rfl) (by simp) ?_
              refine AllReadyH.cons rfl (fun K hK => ?_) AllReadyH.nil
              have xf := XT.out.fz
              have xl := XT.out.lt
              have x0 := XT.out.c 0 _ rfl
              have x1 := XT.out.c 1 _ rfl
              have x2 := XT.out.c 2 _ rfl
              have x3 := XT.out.c 3 _ rfl
              have x4 := XT.out.c 4 _ rfl
              have x5 := XT.out.c 5 _ rfl
              have x6 := XT.out.c 6 _ rfl
              have x7 := XT.out.c 7 _ rfl
              go_simp
              have yT : BoxAt ((((((((w20.setCell ⟨T, 0, none⟩ (.bool t.l)).setCell ⟨T, 1, none⟩ (.string t.a)).setCell ⟨T, 2, none⟩ (.string t.b)).setCell ⟨T, 3, none⟩ (.string t.c)).setCell ⟨T, 4, none⟩ (.int .i64 t.tm)).setCell ⟨T, 5, none⟩ (.int .i64 t.li)).setCell ⟨T, 6, none⟩ (.string t.s)).setCell ⟨T, 7, none⟩ (.string t.i)) T (rqL t) := ((((((((XT.out.set 0 (.bool t.l) (by simp [zeroRq])).set 1 (.string t.a) (by simp [zeroRq])).set 2 (.string t.b) (by simp [zeroRq])).set 3 (.string t.c) (by simp [zeroRq])).set 4 (.int .i64 t.tm) (by simp [zeroRq])).set 5 (.int .i64 t.li) (by simp [zeroRq])).set 6 (.string t.s) (by simp [zeroRq])).set 7 (.string t.i) (by simp [zeroRq]))
              have gT : w20.grownBy ((((((((w20.setCell ⟨T, 0, none⟩ (.bool t.l)).setCell ⟨T, 1, none⟩ (.string t.a)).setCell ⟨T, 2, none⟩ (.string t.b)).setCell ⟨T, 3, none⟩ (.string t.c)).setCell ⟨T, 4, none⟩ (.int .i64 t.tm)).setCell ⟨T, 5, none⟩ (.int .i64 t.li)).setCell ⟨T, 6, none⟩ (.string t.s)).setCell ⟨T, 7, none⟩ (.string t.i)) (some T) := ((((((((grown_set w20 ⟨T, 0, none⟩ (.bool t.l)).trans (grown_set _ ⟨T, 1, none⟩ (.string t.a))).trans (grown_set _ ⟨T, 2, none⟩ (.string t.b))).trans (grown_set _ ⟨T, 3, none⟩ (.string t.c))).trans (grown_set _ ⟨T, 4, none⟩ (.int .i64 t.tm))).trans (grown_set _ ⟨T, 5, none⟩ (.int .i64 t.li))).trans (grown_set _ ⟨T, 6, none⟩ (.string t.s))).trans (grown_set _ ⟨T, 7, none⟩ (.string t.i)))
              generalize ((((((((w20.setCell ⟨T, 0, none⟩ (.bool t.l)).setCell ⟨T, 1, none⟩ (.string t.a)).setCell ⟨T, 2, none⟩ (.string t.b)).setCell ⟨T, 3, none⟩ (.string t.c)).setCell ⟨T, 4, none⟩ (.int .i64 t.tm)).setCell ⟨T, 5, none⟩ (.int .i64 t.li)).setCell ⟨T, 6, none⟩ (.string t.s)).setCell ⟨T, 7, none⟩ (.string t.i)) = w99 at yT gT ⊢
              have rl := cell_lt Rr.out.c0
              have hSn := And.intro (hS.1.grown gT hS.1.size (fun k e => by cases e; exact hTb)) (And.intro (hS.2.1.grown gT (by simp; omega)) (hS.2.2.grown gT (by simp; omega)))
              refine hK.out _ _ hSn (fun hS2 => ?_)
              clear hK K hS
              refine wpAnyH_done (by kernel_rfl) ?_ _
              go_wp2_with (fail)
              go_meet
              exact ⟨T, t, rfl, f, RqAt.ofL yT, hSn.1⟩
          case rest =>
            obtain ⟨T, y, rfl, fy, TY, Bc⟩ := hcut
            obtain ⟨w20, hw20⟩ : ∃ w20, w20 = wc := ⟨_, rfl⟩
            subst hw20
            have B20 := Lib.hid (below_keep Bc Br)
            clear Bc Br Rr hL1
            have EC := Lib.hid (fun W => krqenc_any y fy W)
            have EF := Lib.hid (fun W => rqencode_any y fy W)
            unfold S9q.Rq.val S9q.Rq.cells at EC EF
            have TYc := TY
            obtain ⟨x0, x1, x2, x3, x4, x5, x6, x7⟩ := TYc
            go_wp2_with (fail)
            refine (EC.out _).mono ?_
            rintro e w21 ⟨A1, n1, c1, rfl, hs1, hb1, _⟩
            clear x0 x1 x2 x3 x4 x5 x6 x7
            replace TY := TY.keep hb1
            have TYc := TY
            obtain ⟨x0, x1, x2, x3, x4, x5, x6, x7⟩ := TYc
            have B21 := Lib.hid (below_keep hb1 B20.out)
            clear hb1 B20
            replace hs1 := Lib.hid hs1
            go_wp2_with (fail)
            refine (EF.out _).mono ?_
            rintro e w22 ⟨A2, n2, c2, rfl, hs2, hb2, _⟩
            clear x0 x1 x2 x3 x4 x5 x6 x7
            replace TY := TY.keep hb2
            have B22 := Lib.hid (below_keep hb2 B21.out)
            replace hs1 := Lib.hid (hs1.out.keep hb2)
            clear hb2 B21 EC EF
            have u1 := conv_sl hs1.out
            have u2 := conv_sl hs2
            clear hs2
            by_cases hc : S9q.chkE y = 0
            · have hne : (S9q.chkE y == 0) = true := by rw [hc]; rfl
              have hd := S9q.dec_enc fy hc
              have he : S9q.encB y = S9q.enc y := by unfold S9q.encB; rw [if_pos hc]
              have hn1 : n1 ≤ 100000 := by have := hs1.out.len; have := S9q.encB_len y; omega
              have DC := krqdec_any A1 n1 c1 _ w22 hs1.out hn1
              unfold RqDec at DC
              rw [he, hd.1, hd.2] at DC
              unfold S9q.Rq.val S9q.Rq.cells at DC
              replace DC := Lib.hid DC
              clear hd he hc
              go_wp2_with (fail)
              refine DC.out.mono ?_
              rintro e w23 ⟨rfl, hb3⟩
              have TY3 := TY.keep hb3
              have TYc := TY3
              obtain ⟨x0, x1, x2, x3, x4, x5, x6, x7⟩ := TYc
              have B23 := Lib.hid (below_keep hb3 B22.out)
              have ty := cell_lt x0
              clear hb3 B22 TY
              go_wp2_with (fail)
              go_roundw
              case rel => exact ⟨1, by omega, rfl, B23.out.alloc B23.out.size _⟩
              case measure => simp [intOf]
            · have hne : (S9q.chkE y == 0) = false := by simpa using hc
              clear hc
              go_wp2_with (fail)
              go_roundw
              case rel => exact ⟨1, by omega, rfl, B22.out⟩
              case measure => simp [intOf]
        · go_upto_region 8 with (fail)
          go_cut [8] (fun s6 wx => ∃ T y, s6 = .pointer (some ⟨T, 0, none⟩) ∧ y.Fit ∧ RqAt wx T y ∧ Below wr.heap.size wr wx)
          case first =>
            refine wp_region_held_drew (S := (fun W => Below wr.heap.size wr W ∧ RqAt W w.heap.size t)) (by kernel_rfl) ⟨(Below.refl _ _).drew, Rr.out.drew⟩ (fun hS => ?_)
            generalize wr.drew = w5 at hS ⊢
            refine' wpAnyH_take (i := 0) (v := ?vp10) rfl (by kernel_rfl) (by kernel_rfl) (by kernel_rfl) (fun _ _ _ h => h) (Or.inl ⟨by kernel_rfl, fun W hW => ?yp10⟩) hS ?rp10
            case yp10 => (obtain ⟨x0, x1, x2, x3, x4, x5, x6, x7⟩ := hW.2; go_simp; first | done | with_reducible rfl | (rw [if_pos (by omega)]))
            refine' wpAnyH_take (i := 1) (v := ?vp11) rfl (by kernel_rfl) (by kernel_rfl) (by kernel_rfl) (fun _ _ _ h => h) (Or.inl ⟨by kernel_rfl, fun W hW => ?yp11⟩) hS ?rp11
            case yp11 => (go_simp; first | done | with_reducible rfl | (rw [if_pos (by omega)]))
            refine' wpAnyH_take (i := 2) (v := ?vp12) rfl (by kernel_rfl) (by kernel_rfl) (by kernel_rfl) (fun _ _ _ h => h) (Or.inl ⟨by kernel_rfl, fun W hW => ?yp12⟩) hS ?rp12
            case yp12 => (go_simp; first | done | with_reducible rfl | (rw [if_pos (by omega)]))
            refine' wpAnyH_take (i := 5) (v := ?vp15) rfl (by kernel_rfl) (by kernel_rfl) (by kernel_rfl) (fun _ _ _ h => h) (Or.inl ⟨by kernel_rfl, fun W hW => ?yp15⟩) hS ?rp15
            case yp15 => (go_simp; first | done | with_reducible rfl | (rw [if_pos (by omega)]))
            refine wpAnyH_ready (rs := [3, 8]) (by kernel_rfl) (by simp) ?_
            refine AllReadyH.cons rfl (fun K hK => ?_) (AllReadyH.cons rfl (fun K hK => ?_) AllReadyH.nil)
            · go_simp
              refine (request9_any LA ln lcap ls little _ (hL1.out.keep hS.1) (by omega)).mono ?_
              rintro e w22 ⟨u, rfl, fu, _, hb⟩
              replace fu := Lib.hid fu
              unfold S9q.Rq.val S9q.Rq.cells
              go_wp2_with (fail)
              have hSn := (And.intro (below_keep hb hS.1) (hS.2.keep hb))
              clear hb
              refine hK.out _ _ hSn (fun hS2 => ?_)
              clear hK K hS hSn
              have hS := hS2
              clear hS2
              refine wpAnyH_ready (rs := [4, 8]) (by kernel_rfl) (by simp) ?_
              refine AllReadyH.cons rfl (fun K hK => ?_) (AllReadyH.cons rfl (fun K hK => ?_) AllReadyH.nil)
              · go_simp
                have hb : Below w22.heap.size w22 (w22.alloc (.cells #[.bool t.l, .string t.a, .string t.b, .string t.c, .int .i64 t.tm, .int .i64 t.li, .string t.s, .string t.i, .bool u.l, .string u.a, .string u.b, .string u.c, .int .i64 u.tm, .int .i64 u.li, .string u.s, .string u.i] 25)) := (Below.refl _ _).alloc (Nat.le_refl _) _
                have XB : BoxAt (w22.alloc (.cells #[.bool t.l, .string t.a, .string t.b, .string t.c, .int .i64 t.tm, .int .i64 t.li, .string t.s, .string t.i, .bool u.l, .string u.a, .string u.b, .string u.c, .int .i64 u.tm, .int .i64 u.li, .string u.s, .string u.i] 25)) w22.heap.size [.bool t.l, .string t.a, .string t.b, .string t.c, .int .i64 t.tm, .int .i64 t.li, .string t.s, .string t.i, .bool u.l, .string u.a, .string u.b, .string u.c, .int .i64 u.tm, .int .i64 u.li, .string u.s, .string u.i] := BoxAt.new w22 [.bool t.l, .string t.a, .string t.b, .string t.c, .int .i64 t.tm, .int .i64 t.li, .string t.s, .string t.i, .bool u.l, .string u.a, .string u.b, .string u.c, .int .i64 u.tm, .int .i64 u.li, .string u.s, .string u.i] 25
                have hSn := (And.intro (below_keep hb hS.1) (hS.2.keep hb))

                obtain ⟨G, hG⟩ : ∃ G, G = w22.heap.size := ⟨_, rfl⟩
                rw [← hG] at XB

                rw [← hG]
                clear hG hb
                generalize (w22.alloc (.cells #[.bool t.l, .string t.a, .string t.b, .string t.c, .int .i64 t.tm, .int .i64 t.li, .string t.s, .string t.i, .bool u.l, .string u.a, .string u.b, .string u.c, .int .i64 u.tm, .int .i64 u.li, .string u.s, .string u.i] 25)) = w23 at XB hSn ⊢
                refine hK.out _ _ hSn (fun hS2 => ?_)
                clear hK K hS2
                refine held_grow (S' := (fun W => Below wr.heap.size wr W ∧ RqAt W w.heap.size t ∧ BoxAt W G [.bool t.l, .string t.a, .string t.b, .string t.c, .int .i64 t.tm, .int .i64 t.li, .string t.s, .string t.i, .bool u.l, .string u.a, .string u.b, .string u.c, .int .i64 u.tm, .int .i64 u.li, .string u.s, .string u.i])) (fun W hW => ⟨hW.1, hW.2.1⟩) _ _ _ _ ?_
                replace hS : Below wr.heap.size wr w23 ∧ RqAt w23 w.heap.size t ∧ BoxAt w23 G [.bool t.l, .string t.a, .string t.b, .string t.c, .int .i64 t.tm, .int .i64 t.li, .string t.s, .string t.i, .bool u.l, .string u.a, .string u.b, .string u.c, .int .i64 u.tm, .int .i64 u.li, .string u.s, .string u.i] := ⟨hSn.1, hSn.2, XB⟩
                clear XB
                refine' wpAnyH_take (i := 6) (v := ?vp112_13_6) rfl (by kernel_rfl) (by kernel_rfl) (by kernel_rfl) (fun _ _ _ h => h) (Or.inl ⟨by kernel_rfl, fun W hW => ?yp112_13_6⟩) hS ?rp112_13_6
                case yp112_13_6 => (go_simp; first | done | with_reducible rfl | (rw [if_pos (by omega)]))
                refine' wpAnyH_take (i := 7) (v := ?vp112_13_7) rfl (by kernel_rfl) (by kernel_rfl) (by kernel_rfl) (fun _ _ _ h => h) (Or.inl ⟨by kernel_rfl, fun W hW => ?yp112_13_7⟩) hS ?rp112_13_7
                case yp112_13_7 => (obtain ⟨_, _, hbs⟩ := hW; have y0 := hbs.c 8 _ rfl; have y1 := hbs.c 9 _ rfl; have y2 := hbs.c 10 _ rfl; have y3 := hbs.c 11 _ rfl; have y4 := hbs.c 12 _ rfl; have y5 := hbs.c 13 _ rfl; have y6 := hbs.c 14 _ rfl; have y7 := hbs.c 15 _ rfl; go_simp; first | done | with_reducible rfl | (rw [if_pos (by omega)]))
                refine wpAnyH_ready (rs := [8]) (by kernel_rfl) (by simp) ?_
                refine AllReadyH.cons rfl (fun K hK => ?_) AllReadyH.nil
                go_simp
                have hb : Below w23.heap.size w23 (w23.alloc (.cells #[.bool false, .string ⟨#[]⟩, .string ⟨#[]⟩, .string ⟨#[]⟩, .int .i64 0, .int .i64 0, .string ⟨#[]⟩, .string ⟨#[]⟩] 25)) := (Below.refl _ _).alloc (Nat.le_refl _) _
                have XT : BoxAt (w23.alloc (.cells #[.bool false, .string ⟨#[]⟩, .string ⟨#[]⟩, .string ⟨#[]⟩, .int .i64 0, .int .i64 0, .string ⟨#[]⟩, .string ⟨#[]⟩] 25)) w23.heap.size zeroRq := BoxAt.new w23 zeroRq 25
                have hSn := (And.intro (below_keep hb hS.1) (And.intro (hS.2.1.keep hb) (hS.2.2.keep hb)))
                have hTb := hS.1.size
                have hTG := hS.2.2.lt
                obtain ⟨T, hT⟩ : ∃ T, T = w23.heap.size := ⟨_, rfl⟩
                rw [← hT] at XT hTb hTG
                rw [← hT]
                clear hT hb
                generalize (w23.alloc (.cells #[.bool false, .string ⟨#[]⟩, .string ⟨#[]⟩, .string ⟨#[]⟩, .int .i64 0, .int .i64 0, .string ⟨#[]⟩, .string ⟨#[]⟩] 25)) = w24 at XT hSn ⊢
                replace XT := Lib.hid XT
                refine hK.out _ _ hSn (fun hS2 => ?_)
                clear hK K hS hSn
                have hS := hS2
                clear hS2
                refine wpAnyH_ready (rs := [9]) (by kernel_rfl) (by simp) ?_
                refine AllReadyH.cons rfl (fun K hK => ?_) AllReadyH.nil
                have xf := XT.out.fz
                have xl := XT.out.lt
                have x0 := XT.out.c 0 _ rfl
                have x1 := XT.out.c 1 _ rfl
                have x2 := XT.out.c 2 _ rfl
                have x3 := XT.out.c 3 _ rfl
                have x4 := XT.out.c 4 _ rfl
                have x5 := XT.out.c 5 _ rfl
                have x6 := XT.out.c 6 _ rfl
                have x7 := XT.out.c 7 _ rfl
                go_simp
                have yT : BoxAt ((((((((w24.setCell ⟨T, 0, none⟩ (.bool u.l)).setCell ⟨T, 1, none⟩ (.string u.a)).setCell ⟨T, 2, none⟩ (.string u.b)).setCell ⟨T, 3, none⟩ (.string u.c)).setCell ⟨T, 4, none⟩ (.int .i64 u.tm)).setCell ⟨T, 5, none⟩ (.int .i64 u.li)).setCell ⟨T, 6, none⟩ (.string u.s)).setCell ⟨T, 7, none⟩ (.string u.i)) T (rqL u) := ((((((((XT.out.set 0 (.bool u.l) (by simp [zeroRq])).set 1 (.string u.a) (by simp [zeroRq])).set 2 (.string u.b) (by simp [zeroRq])).set 3 (.string u.c) (by simp [zeroRq])).set 4 (.int .i64 u.tm) (by simp [zeroRq])).set 5 (.int .i64 u.li) (by simp [zeroRq])).set 6 (.string u.s) (by simp [zeroRq])).set 7 (.string u.i) (by simp [zeroRq]))
                have gT : w24.grownBy ((((((((w24.setCell ⟨T, 0, none⟩ (.bool u.l)).setCell ⟨T, 1, none⟩ (.string u.a)).setCell ⟨T, 2, none⟩ (.string u.b)).setCell ⟨T, 3, none⟩ (.string u.c)).setCell ⟨T, 4, none⟩ (.int .i64 u.tm)).setCell ⟨T, 5, none⟩ (.int .i64 u.li)).setCell ⟨T, 6, none⟩ (.string u.s)).setCell ⟨T, 7, none⟩ (.string u.i)) (some T) := ((((((((grown_set w24 ⟨T, 0, none⟩ (.bool u.l)).trans (grown_set _ ⟨T, 1, none⟩ (.string u.a))).trans (grown_set _ ⟨T, 2, none⟩ (.string u.b))).trans (grown_set _ ⟨T, 3, none⟩ (.string u.c))).trans (grown_set _ ⟨T, 4, none⟩ (.int .i64 u.tm))).trans (grown_set _ ⟨T, 5, none⟩ (.int .i64 u.li))).trans (grown_set _ ⟨T, 6, none⟩ (.string u.s))).trans (grown_set _ ⟨T, 7, none⟩ (.string u.i)))
                generalize ((((((((w24.setCell ⟨T, 0, none⟩ (.bool u.l)).setCell ⟨T, 1, none⟩ (.string u.a)).setCell ⟨T, 2, none⟩ (.string u.b)).setCell ⟨T, 3, none⟩ (.string u.c)).setCell ⟨T, 4, none⟩ (.int .i64 u.tm)).setCell ⟨T, 5, none⟩ (.int .i64 u.li)).setCell ⟨T, 6, none⟩ (.string u.s)).setCell ⟨T, 7, none⟩ (.string u.i)) = w99 at yT gT ⊢
                have rl := cell_lt Rr.out.c0
                have hSn := And.intro (hS.1.grown gT hS.1.size (fun k e => by cases e; exact hTb)) (And.intro (hS.2.1.grown gT (by simp; omega)) (hS.2.2.grown gT (by simp; omega)))
                refine hK.out _ _ hSn (fun hS2 => ?_)
                clear hK K hS
                refine wpAnyH_done (by kernel_rfl) ?_ _
                go_wp2_with (fail)
                go_meet
                exact ⟨T, u, rfl, fu.out, RqAt.ofL yT, hSn.1⟩
              · go_simp
                have hb : Below w22.heap.size w22 (w22.alloc (.cells #[.bool false, .string ⟨#[]⟩, .string ⟨#[]⟩, .string ⟨#[]⟩, .int .i64 0, .int .i64 0, .string ⟨#[]⟩, .string ⟨#[]⟩] 25)) := (Below.refl _ _).alloc (Nat.le_refl _) _
                have XT : BoxAt (w22.alloc (.cells #[.bool false, .string ⟨#[]⟩, .string ⟨#[]⟩, .string ⟨#[]⟩, .int .i64 0, .int .i64 0, .string ⟨#[]⟩, .string ⟨#[]⟩] 25)) w22.heap.size zeroRq := BoxAt.new w22 zeroRq 25
                have hSn := (And.intro (below_keep hb hS.1) (hS.2.keep hb))
                have hTb := hS.1.size

                obtain ⟨T, hT⟩ : ∃ T, T = w22.heap.size := ⟨_, rfl⟩
                rw [← hT] at XT hTb
                rw [← hT]
                clear hT hb
                generalize (w22.alloc (.cells #[.bool false, .string ⟨#[]⟩, .string ⟨#[]⟩, .string ⟨#[]⟩, .int .i64 0, .int .i64 0, .string ⟨#[]⟩, .string ⟨#[]⟩] 25)) = w26 at XT hSn ⊢
                replace XT := Lib.hid XT
                refine hK.out _ _ hSn (fun hS2 => ?_)
                clear hK K hS hSn
                have hS := hS2
                clear hS2
                refine wpAnyH_ready (rs := [4]) (by kernel_rfl) (by simp) ?_
                refine AllReadyH.cons rfl (fun K hK => ?_) AllReadyH.nil
                go_simp
                have hb : Below w26.heap.size w26 (w26.alloc (.cells #[.bool t.l, .string t.a, .string t.b, .string t.c, .int .i64 t.tm, .int .i64 t.li, .string t.s, .string t.i, .bool u.l, .string u.a, .string u.b, .string u.c, .int .i64 u.tm, .int .i64 u.li, .string u.s, .string u.i] 25)) := (Below.refl _ _).alloc (Nat.le_refl _) _
                have XB : BoxAt (w26.alloc (.cells #[.bool t.l, .string t.a, .string t.b, .string t.c, .int .i64 t.tm, .int .i64 t.li, .string t.s, .string t.i, .bool u.l, .string u.a, .string u.b, .string u.c, .int .i64 u.tm, .int .i64 u.li, .string u.s, .string u.i] 25)) w26.heap.size [.bool t.l, .string t.a, .string t.b, .string t.c, .int .i64 t.tm, .int .i64 t.li, .string t.s, .string t.i, .bool u.l, .string u.a, .string u.b, .string u.c, .int .i64 u.tm, .int .i64 u.li, .string u.s, .string u.i] := BoxAt.new w26 [.bool t.l, .string t.a, .string t.b, .string t.c, .int .i64 t.tm, .int .i64 t.li, .string t.s, .string t.i, .bool u.l, .string u.a, .string u.b, .string u.c, .int .i64 u.tm, .int .i64 u.li, .string u.s, .string u.i] 25
                have hSn := (And.intro (below_keep hb hS.1) (hS.2.keep hb))
                have hTG := XT.out.lt
                replace XT := Lib.hid (XT.out.keep hb)
                obtain ⟨G, hG⟩ : ∃ G, G = w26.heap.size := ⟨_, rfl⟩
                rw [← hG] at XB
                rw [← hG] at hTG
                rw [← hG]
                clear hG hb
                generalize (w26.alloc (.cells #[.bool t.l, .string t.a, .string t.b, .string t.c, .int .i64 t.tm, .int .i64 t.li, .string t.s, .string t.i, .bool u.l, .string u.a, .string u.b, .string u.c, .int .i64 u.tm, .int .i64 u.li, .string u.s, .string u.i] 25)) = w27 at XB hSn XT ⊢
                refine hK.out _ _ hSn (fun hS2 => ?_)
                clear hK K hS2
                refine held_grow (S' := (fun W => Below wr.heap.size wr W ∧ RqAt W w.heap.size t ∧ BoxAt W G [.bool t.l, .string t.a, .string t.b, .string t.c, .int .i64 t.tm, .int .i64 t.li, .string t.s, .string t.i, .bool u.l, .string u.a, .string u.b, .string u.c, .int .i64 u.tm, .int .i64 u.li, .string u.s, .string u.i])) (fun W hW => ⟨hW.1, hW.2.1⟩) _ _ _ _ ?_
                replace hS : Below wr.heap.size wr w27 ∧ RqAt w27 w.heap.size t ∧ BoxAt w27 G [.bool t.l, .string t.a, .string t.b, .string t.c, .int .i64 t.tm, .int .i64 t.li, .string t.s, .string t.i, .bool u.l, .string u.a, .string u.b, .string u.c, .int .i64 u.tm, .int .i64 u.li, .string u.s, .string u.i] := ⟨hSn.1, hSn.2, XB⟩
                clear XB
                refine' wpAnyH_take (i := 6) (v := ?vp112_16_17_6) rfl (by kernel_rfl) (by kernel_rfl) (by kernel_rfl) (fun _ _ _ h => h) (Or.inl ⟨by kernel_rfl, fun W hW => ?yp112_16_17_6⟩) hS ?rp112_16_17_6
                case yp112_16_17_6 => (go_simp; first | done | with_reducible rfl | (rw [if_pos (by omega)]))
                refine' wpAnyH_take (i := 7) (v := ?vp112_16_17_7) rfl (by kernel_rfl) (by kernel_rfl) (by kernel_rfl) (fun _ _ _ h => h) (Or.inl ⟨by kernel_rfl, fun W hW => ?yp112_16_17_7⟩) hS ?rp112_16_17_7
                case yp112_16_17_7 => (obtain ⟨_, _, hbs⟩ := hW; have y0 := hbs.c 8 _ rfl; have y1 := hbs.c 9 _ rfl; have y2 := hbs.c 10 _ rfl; have y3 := hbs.c 11 _ rfl; have y4 := hbs.c 12 _ rfl; have y5 := hbs.c 13 _ rfl; have y6 := hbs.c 14 _ rfl; have y7 := hbs.c 15 _ rfl; go_simp; first | done | with_reducible rfl | (rw [if_pos (by omega)]))
                refine wpAnyH_ready (rs := [9]) (by kernel_rfl) (by simp) ?_
                refine AllReadyH.cons rfl (fun K hK => ?_) AllReadyH.nil
                have xf := XT.out.fz
                have xl := XT.out.lt
                have x0 := XT.out.c 0 _ rfl
                have x1 := XT.out.c 1 _ rfl
                have x2 := XT.out.c 2 _ rfl
                have x3 := XT.out.c 3 _ rfl
                have x4 := XT.out.c 4 _ rfl
                have x5 := XT.out.c 5 _ rfl
                have x6 := XT.out.c 6 _ rfl
                have x7 := XT.out.c 7 _ rfl
                go_simp
                have yT : BoxAt ((((((((w27.setCell ⟨T, 0, none⟩ (.bool u.l)).setCell ⟨T, 1, none⟩ (.string u.a)).setCell ⟨T, 2, none⟩ (.string u.b)).setCell ⟨T, 3, none⟩ (.string u.c)).setCell ⟨T, 4, none⟩ (.int .i64 u.tm)).setCell ⟨T, 5, none⟩ (.int .i64 u.li)).setCell ⟨T, 6, none⟩ (.string u.s)).setCell ⟨T, 7, none⟩ (.string u.i)) T (rqL u) := ((((((((XT.out.set 0 (.bool u.l) (by simp [zeroRq])).set 1 (.string u.a) (by simp [zeroRq])).set 2 (.string u.b) (by simp [zeroRq])).set 3 (.string u.c) (by simp [zeroRq])).set 4 (.int .i64 u.tm) (by simp [zeroRq])).set 5 (.int .i64 u.li) (by simp [zeroRq])).set 6 (.string u.s) (by simp [zeroRq])).set 7 (.string u.i) (by simp [zeroRq]))
                have gT : w27.grownBy ((((((((w27.setCell ⟨T, 0, none⟩ (.bool u.l)).setCell ⟨T, 1, none⟩ (.string u.a)).setCell ⟨T, 2, none⟩ (.string u.b)).setCell ⟨T, 3, none⟩ (.string u.c)).setCell ⟨T, 4, none⟩ (.int .i64 u.tm)).setCell ⟨T, 5, none⟩ (.int .i64 u.li)).setCell ⟨T, 6, none⟩ (.string u.s)).setCell ⟨T, 7, none⟩ (.string u.i)) (some T) := ((((((((grown_set w27 ⟨T, 0, none⟩ (.bool u.l)).trans (grown_set _ ⟨T, 1, none⟩ (.string u.a))).trans (grown_set _ ⟨T, 2, none⟩ (.string u.b))).trans (grown_set _ ⟨T, 3, none⟩ (.string u.c))).trans (grown_set _ ⟨T, 4, none⟩ (.int .i64 u.tm))).trans (grown_set _ ⟨T, 5, none⟩ (.int .i64 u.li))).trans (grown_set _ ⟨T, 6, none⟩ (.string u.s))).trans (grown_set _ ⟨T, 7, none⟩ (.string u.i)))
                generalize ((((((((w27.setCell ⟨T, 0, none⟩ (.bool u.l)).setCell ⟨T, 1, none⟩ (.string u.a)).setCell ⟨T, 2, none⟩ (.string u.b)).setCell ⟨T, 3, none⟩ (.string u.c)).setCell ⟨T, 4, none⟩ (.int .i64 u.tm)).setCell ⟨T, 5, none⟩ (.int .i64 u.li)).setCell ⟨T, 6, none⟩ (.string u.s)).setCell ⟨T, 7, none⟩ (.string u.i)) = w99 at yT gT ⊢
                have rl := cell_lt Rr.out.c0
                have hSn := And.intro (hS.1.grown gT hS.1.size (fun k e => by cases e; exact hTb)) (And.intro (hS.2.1.grown gT (by simp; omega)) (hS.2.2.grown gT (by simp; omega)))
                refine hK.out _ _ hSn (fun hS2 => ?_)
                clear hK K hS
                refine wpAnyH_done (by kernel_rfl) ?_ _
                go_wp2_with (fail)
                go_meet
                exact ⟨T, u, rfl, fu.out, RqAt.ofL yT, hSn.1⟩
            · go_simp
              have hb : Below w5.heap.size w5 (w5.alloc (.cells #[.bool false, .string ⟨#[]⟩, .string ⟨#[]⟩, .string ⟨#[]⟩, .int .i64 0, .int .i64 0, .string ⟨#[]⟩, .string ⟨#[]⟩] 25)) := (Below.refl _ _).alloc (Nat.le_refl _) _
              have XT : BoxAt (w5.alloc (.cells #[.bool false, .string ⟨#[]⟩, .string ⟨#[]⟩, .string ⟨#[]⟩, .int .i64 0, .int .i64 0, .string ⟨#[]⟩, .string ⟨#[]⟩] 25)) w5.heap.size zeroRq := BoxAt.new w5 zeroRq 25
              have hSn := (And.intro (below_keep hb hS.1) (hS.2.keep hb))
              have hTb := hS.1.size

              obtain ⟨T, hT⟩ : ∃ T, T = w5.heap.size := ⟨_, rfl⟩
              rw [← hT] at XT hTb
              rw [← hT]
              clear hT hb
              generalize (w5.alloc (.cells #[.bool false, .string ⟨#[]⟩, .string ⟨#[]⟩, .string ⟨#[]⟩, .int .i64 0, .int .i64 0, .string ⟨#[]⟩, .string ⟨#[]⟩] 25)) = w29 at XT hSn ⊢
              replace XT := Lib.hid XT
              refine hK.out _ _ hSn (fun hS2 => ?_)
              clear hK K hS hSn
              have hS := hS2
              clear hS2
              refine wpAnyH_ready (rs := [3]) (by kernel_rfl) (by simp) ?_
              refine AllReadyH.cons rfl (fun K hK => ?_) AllReadyH.nil
              go_simp
              refine (request9_any LA ln lcap ls little _ (hL1.out.keep hS.1) (by omega)).mono ?_
              rintro e w30 ⟨u, rfl, fu, _, hb⟩
              replace fu := Lib.hid fu
              unfold S9q.Rq.val S9q.Rq.cells
              go_wp2_with (fail)
              have hSn := (And.intro (below_keep hb hS.1) (hS.2.keep hb))
              replace XT := Lib.hid (XT.out.keep hb)
              clear hb
              refine hK.out _ _ hSn (fun hS2 => ?_)
              clear hK K hS hSn
              have hS := hS2
              clear hS2
              refine wpAnyH_ready (rs := [4]) (by kernel_rfl) (by simp) ?_
              refine AllReadyH.cons rfl (fun K hK => ?_) AllReadyH.nil
              go_simp
              have hb : Below w30.heap.size w30 (w30.alloc (.cells #[.bool t.l, .string t.a, .string t.b, .string t.c, .int .i64 t.tm, .int .i64 t.li, .string t.s, .string t.i, .bool u.l, .string u.a, .string u.b, .string u.c, .int .i64 u.tm, .int .i64 u.li, .string u.s, .string u.i] 25)) := (Below.refl _ _).alloc (Nat.le_refl _) _
              have XB : BoxAt (w30.alloc (.cells #[.bool t.l, .string t.a, .string t.b, .string t.c, .int .i64 t.tm, .int .i64 t.li, .string t.s, .string t.i, .bool u.l, .string u.a, .string u.b, .string u.c, .int .i64 u.tm, .int .i64 u.li, .string u.s, .string u.i] 25)) w30.heap.size [.bool t.l, .string t.a, .string t.b, .string t.c, .int .i64 t.tm, .int .i64 t.li, .string t.s, .string t.i, .bool u.l, .string u.a, .string u.b, .string u.c, .int .i64 u.tm, .int .i64 u.li, .string u.s, .string u.i] := BoxAt.new w30 [.bool t.l, .string t.a, .string t.b, .string t.c, .int .i64 t.tm, .int .i64 t.li, .string t.s, .string t.i, .bool u.l, .string u.a, .string u.b, .string u.c, .int .i64 u.tm, .int .i64 u.li, .string u.s, .string u.i] 25
              have hSn := (And.intro (below_keep hb hS.1) (hS.2.keep hb))
              have hTG := XT.out.lt
              replace XT := Lib.hid (XT.out.keep hb)
              obtain ⟨G, hG⟩ : ∃ G, G = w30.heap.size := ⟨_, rfl⟩
              rw [← hG] at XB
              rw [← hG] at hTG
              rw [← hG]
              clear hG hb
              generalize (w30.alloc (.cells #[.bool t.l, .string t.a, .string t.b, .string t.c, .int .i64 t.tm, .int .i64 t.li, .string t.s, .string t.i, .bool u.l, .string u.a, .string u.b, .string u.c, .int .i64 u.tm, .int .i64 u.li, .string u.s, .string u.i] 25)) = w31 at XB hSn XT ⊢
              refine hK.out _ _ hSn (fun hS2 => ?_)
              clear hK K hS2
              refine held_grow (S' := (fun W => Below wr.heap.size wr W ∧ RqAt W w.heap.size t ∧ BoxAt W G [.bool t.l, .string t.a, .string t.b, .string t.c, .int .i64 t.tm, .int .i64 t.li, .string t.s, .string t.i, .bool u.l, .string u.a, .string u.b, .string u.c, .int .i64 u.tm, .int .i64 u.li, .string u.s, .string u.i])) (fun W hW => ⟨hW.1, hW.2.1⟩) _ _ _ _ ?_
              replace hS : Below wr.heap.size wr w31 ∧ RqAt w31 w.heap.size t ∧ BoxAt w31 G [.bool t.l, .string t.a, .string t.b, .string t.c, .int .i64 t.tm, .int .i64 t.li, .string t.s, .string t.i, .bool u.l, .string u.a, .string u.b, .string u.c, .int .i64 u.tm, .int .i64 u.li, .string u.s, .string u.i] := ⟨hSn.1, hSn.2, XB⟩
              clear XB
              refine' wpAnyH_take (i := 6) (v := ?vp119_20_21_6) rfl (by kernel_rfl) (by kernel_rfl) (by kernel_rfl) (fun _ _ _ h => h) (Or.inl ⟨by kernel_rfl, fun W hW => ?yp119_20_21_6⟩) hS ?rp119_20_21_6
              case yp119_20_21_6 => (go_simp; first | done | with_reducible rfl | (rw [if_pos (by omega)]))
              refine' wpAnyH_take (i := 7) (v := ?vp119_20_21_7) rfl (by kernel_rfl) (by kernel_rfl) (by kernel_rfl) (fun _ _ _ h => h) (Or.inl ⟨by kernel_rfl, fun W hW => ?yp119_20_21_7⟩) hS ?rp119_20_21_7
              case yp119_20_21_7 => (obtain ⟨_, _, hbs⟩ := hW; have y0 := hbs.c 8 _ rfl; have y1 := hbs.c 9 _ rfl; have y2 := hbs.c 10 _ rfl; have y3 := hbs.c 11 _ rfl; have y4 := hbs.c 12 _ rfl; have y5 := hbs.c 13 _ rfl; have y6 := hbs.c 14 _ rfl; have y7 := hbs.c 15 _ rfl; go_simp; first | done | with_reducible rfl | (rw [if_pos (by omega)]))
              refine wpAnyH_ready (rs := [9]) (by kernel_rfl) (by simp) ?_
              refine AllReadyH.cons rfl (fun K hK => ?_) AllReadyH.nil
              have xf := XT.out.fz
              have xl := XT.out.lt
              have x0 := XT.out.c 0 _ rfl
              have x1 := XT.out.c 1 _ rfl
              have x2 := XT.out.c 2 _ rfl
              have x3 := XT.out.c 3 _ rfl
              have x4 := XT.out.c 4 _ rfl
              have x5 := XT.out.c 5 _ rfl
              have x6 := XT.out.c 6 _ rfl
              have x7 := XT.out.c 7 _ rfl
              go_simp
              have yT : BoxAt ((((((((w31.setCell ⟨T, 0, none⟩ (.bool u.l)).setCell ⟨T, 1, none⟩ (.string u.a)).setCell ⟨T, 2, none⟩ (.string u.b)).setCell ⟨T, 3, none⟩ (.string u.c)).setCell ⟨T, 4, none⟩ (.int .i64 u.tm)).setCell ⟨T, 5, none⟩ (.int .i64 u.li)).setCell ⟨T, 6, none⟩ (.string u.s)).setCell ⟨T, 7, none⟩ (.string u.i)) T (rqL u) := ((((((((XT.out.set 0 (.bool u.l) (by simp [zeroRq])).set 1 (.string u.a) (by simp [zeroRq])).set 2 (.string u.b) (by simp [zeroRq])).set 3 (.string u.c) (by simp [zeroRq])).set 4 (.int .i64 u.tm) (by simp [zeroRq])).set 5 (.int .i64 u.li) (by simp [zeroRq])).set 6 (.string u.s) (by simp [zeroRq])).set 7 (.string u.i) (by simp [zeroRq]))
              have gT : w31.grownBy ((((((((w31.setCell ⟨T, 0, none⟩ (.bool u.l)).setCell ⟨T, 1, none⟩ (.string u.a)).setCell ⟨T, 2, none⟩ (.string u.b)).setCell ⟨T, 3, none⟩ (.string u.c)).setCell ⟨T, 4, none⟩ (.int .i64 u.tm)).setCell ⟨T, 5, none⟩ (.int .i64 u.li)).setCell ⟨T, 6, none⟩ (.string u.s)).setCell ⟨T, 7, none⟩ (.string u.i)) (some T) := ((((((((grown_set w31 ⟨T, 0, none⟩ (.bool u.l)).trans (grown_set _ ⟨T, 1, none⟩ (.string u.a))).trans (grown_set _ ⟨T, 2, none⟩ (.string u.b))).trans (grown_set _ ⟨T, 3, none⟩ (.string u.c))).trans (grown_set _ ⟨T, 4, none⟩ (.int .i64 u.tm))).trans (grown_set _ ⟨T, 5, none⟩ (.int .i64 u.li))).trans (grown_set _ ⟨T, 6, none⟩ (.string u.s))).trans (grown_set _ ⟨T, 7, none⟩ (.string u.i)))
              generalize ((((((((w31.setCell ⟨T, 0, none⟩ (.bool u.l)).setCell ⟨T, 1, none⟩ (.string u.a)).setCell ⟨T, 2, none⟩ (.string u.b)).setCell ⟨T, 3, none⟩ (.string u.c)).setCell ⟨T, 4, none⟩ (.int .i64 u.tm)).setCell ⟨T, 5, none⟩ (.int .i64 u.li)).setCell ⟨T, 6, none⟩ (.string u.s)).setCell ⟨T, 7, none⟩ (.string u.i)) = w99 at yT gT ⊢
              have rl := cell_lt Rr.out.c0
              have hSn := And.intro (hS.1.grown gT hS.1.size (fun k e => by cases e; exact hTb)) (And.intro (hS.2.1.grown gT (by simp; omega)) (hS.2.2.grown gT (by simp; omega)))
              refine hK.out _ _ hSn (fun hS2 => ?_)
              clear hK K hS
              refine wpAnyH_done (by kernel_rfl) ?_ _
              go_wp2_with (fail)
              go_meet
              exact ⟨T, u, rfl, fu.out, RqAt.ofL yT, hSn.1⟩
          case rest =>
            obtain ⟨T, y, rfl, fy, TY, Bc⟩ := hcut
            obtain ⟨w20, hw20⟩ : ∃ w20, w20 = wc := ⟨_, rfl⟩
            subst hw20
            have B20 := Lib.hid (below_keep Bc Br)
            clear Bc Br Rr hL1
            have EC := Lib.hid (fun W => krqenc_any y fy W)
            have EF := Lib.hid (fun W => rqencode_any y fy W)
            unfold S9q.Rq.val S9q.Rq.cells at EC EF
            have TYc := TY
            obtain ⟨x0, x1, x2, x3, x4, x5, x6, x7⟩ := TYc
            go_wp2_with (fail)
            refine (EC.out _).mono ?_
            rintro e w21 ⟨A1, n1, c1, rfl, hs1, hb1, _⟩
            clear x0 x1 x2 x3 x4 x5 x6 x7
            replace TY := TY.keep hb1
            have TYc := TY
            obtain ⟨x0, x1, x2, x3, x4, x5, x6, x7⟩ := TYc
            have B21 := Lib.hid (below_keep hb1 B20.out)
            clear hb1 B20
            replace hs1 := Lib.hid hs1
            go_wp2_with (fail)
            refine (EF.out _).mono ?_
            rintro e w22 ⟨A2, n2, c2, rfl, hs2, hb2, _⟩
            clear x0 x1 x2 x3 x4 x5 x6 x7
            replace TY := TY.keep hb2
            have B22 := Lib.hid (below_keep hb2 B21.out)
            replace hs1 := Lib.hid (hs1.out.keep hb2)
            clear hb2 B21 EC EF
            have u1 := conv_sl hs1.out
            have u2 := conv_sl hs2
            clear hs2
            by_cases hc : S9q.chkE y = 0
            · have hne : (S9q.chkE y == 0) = true := by rw [hc]; rfl
              have hd := S9q.dec_enc fy hc
              have he : S9q.encB y = S9q.enc y := by unfold S9q.encB; rw [if_pos hc]
              have hn1 : n1 ≤ 100000 := by have := hs1.out.len; have := S9q.encB_len y; omega
              have DC := krqdec_any A1 n1 c1 _ w22 hs1.out hn1
              unfold RqDec at DC
              rw [he, hd.1, hd.2] at DC
              unfold S9q.Rq.val S9q.Rq.cells at DC
              replace DC := Lib.hid DC
              clear hd he hc
              go_wp2_with (fail)
              refine DC.out.mono ?_
              rintro e w23 ⟨rfl, hb3⟩
              have TY3 := TY.keep hb3
              have TYc := TY3
              obtain ⟨x0, x1, x2, x3, x4, x5, x6, x7⟩ := TYc
              have B23 := Lib.hid (below_keep hb3 B22.out)
              have ty := cell_lt x0
              clear hb3 B22 TY
              go_wp2_with (fail)
              go_roundw
              case rel => exact ⟨2, by omega, rfl, B23.out.alloc B23.out.size _⟩
              case measure => simp [intOf]
            · have hne : (S9q.chkE y == 0) = false := by simpa using hc
              clear hc
              go_wp2_with (fail)
              go_roundw
              case rel => exact ⟨2, by omega, rfl, B22.out⟩
              case measure => simp [intOf]
      · go_wp2_with (fail)
        go_ret
        exact ⟨rfl, below_keep Br B2.out⟩

end Go.Proofs.Ytkhkmgblgonfoaa
