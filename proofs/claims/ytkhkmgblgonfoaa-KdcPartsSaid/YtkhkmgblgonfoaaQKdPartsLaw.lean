/-
  The law KdcParts: the bytes of any part in both byte orders, or the error, and that they are decoded as they were in this order alone.
-/
import Derived.Test.YtkhkmgblgonfoaaQKdS
import Derived.Test.YtkhkmgblgonfoaaQGrow
import Derived.Deep.RegionHeld3
import Derived.IntWalk
import Derived.Deep.DeepCutAuto
namespace Go.Proofs.Ytkhkmgblgonfoaa
open Go.RowKit

set_option maxRecDepth 100000 in
set_option maxHeartbeats 6400000 in
theorem partsLaw9_walk (t : S9p.Pt) (TA : Option Addr) (tn tcap : Nat) (LA : Option Addr) (ln lcap : Nat) (ls : List Int) (SA : Option Addr) (sn scap : Nat) (ss : List Int) (little : Bool) (w : World) (f : t.Fit) (hT : Sl w TA tn tcap t.z) (hL : Sl w LA ln lcap ls) (hS : Sl w SA sn scap ss) :
    Calls Try.prog 4 #[t.val TA tn tcap, .slice LA ln lcap, .slice SA sn scap, .bool little] w fun e w' => e = .returned (.bool true) ∧ Below w.heap.size w w' := by
  have Bw := Lib.hid (show Below w.heap.size w (w.alloc (.cells (t.cells TA tn tcap) 40)) from (Below.refl _ _).alloc (Nat.le_refl _) _)
  have R0 := Lib.hid (PtAt.new w t TA tn tcap 40)
  have hmax := hL.max
  have hmt := hT.max
  have hms := hS.max
  unfold maxLen at hmax hmt hms
  unfold S9p.Pt.val S9p.Pt.cells
  unfold S9p.Pt.cells at Bw R0
  go_enter Try.func4, Try.ntmps4
  go_wp2_with (fail)
  refine (awake9_any _).mono ?_
  rintro e w1 ⟨rfl, hb1⟩
  have R1 := Lib.hid (R0.out.keep hb1)
  have TYc := R1.out
  obtain ⟨x0, x1, x2, x3, x4, x5, x6, x7⟩ := TYc
  have B1 := Lib.hid (below_keep hb1 Bw.out)
  clear hb1 R0
  go_wp2_with (fail)
  clear x0 x1 x2 x3 x4 x5 x6 x7
  refine (long9_any w1.heap.size 3 [t.a, t.b, t.c] _ rfl (by decide) (by
    intro i s hs
    match i, hs with
    | 0, hs => simp at hs; subst hs; exact ⟨by simp [go_sem], f.a⟩
    | 1, hs => simp at hs; subst hs; exact ⟨by simp [go_sem], f.b⟩
    | 2, hs => simp at hs; subst hs; exact ⟨by simp [go_sem], f.c⟩
    | i + 3, hs => simp at hs)).mono ?_
  rintro e w2 ⟨q, rfl, hb2⟩
  have hba : Below w1.heap.size w1 (w1.alloc (.cells #[.string t.a, .string t.b, .string t.c] 9)) := (Below.refl _ _).alloc (Nat.le_refl _) _
  have R2 := Lib.hid ((R1.out.keep hba).keep hb2)
  have B2 := Lib.hid (below_keep hb2 (below_keep hba B1.out))
  clear hb2 hba R1 B1
  have TYc := R2.out
  obtain ⟨x0, x1, x2, x3, x4, x5, x6, x7⟩ := TYc
  have ways : q = true ∨ q = false ∧ 40 < (ln : Int) ∨ q = false ∧ (ln : Int) ≤ 40 ∧ 400 < (tn : Int) ∨ q = false ∧ (ln : Int) ≤ 40 ∧ (tn : Int) ≤ 400 := by
    rcases q
    · simp; omega
    · exact .inl rfl
  rcases ways with rfl | ⟨rfl, k1⟩ | ⟨rfl, k1, k2⟩ | ⟨rfl, k1, k2⟩
  · go_wp2_with (fail)
    go_ret
    exact ⟨rfl, B2.out⟩
  · go_wp2_with (fail)
    go_ret
    exact ⟨rfl, B2.out⟩
  · go_wp2_with (fail)
    go_ret
    exact ⟨rfl, B2.out⟩
  · have hL5 := Lib.hid (hL.keep B2.out)
    have hT5 := Lib.hid (hT.keep B2.out)
    have hS5 := Lib.hid (hS.keep B2.out)
    go_wp2_with (fail)
    clear x0 x1 x2 x3 x4 x5 x6 x7
    go_loopw [9] (fun i wr => ∃ p : Nat, p ≤ 2 ∧ i = .int .i64 p ∧ Below w2.heap.size w2 wr) (fun i _ => 2 - (intOf i).toNat)
    case atStart => exact ⟨0, by omega, rfl, Below.refl _ _⟩
    case round =>
      obtain ⟨p, hp, rfl, Br⟩ := hrel
      by_cases hlt : p < 2
      · have Rr := Lib.hid (R2.out.keep Br)
        have hL1 := Lib.hid (hL5.out.keep Br)
        have hT1 := Lib.hid (hT5.out.keep Br)
        have hS1 := Lib.hid (hS5.out.keep Br)
        go_upto_region 8 with (fail)
        go_cut [10] (fun x wx => SomePt wx x ∧ Below wr.heap.size wr wx)
        case first =>
          rcases (show p = 0 ∨ p = 1 by omega) with rfl | rfl
          · refine wp_region_held_drew (S := (fun W => Below wr.heap.size wr W ∧ PtAt W w.heap.size t TA tn tcap)) (by kernel_rfl) ⟨(Below.refl _ _).drew, Rr.out.drew⟩ (fun hS => ?_)
            generalize wr.drew = w5 at hS ⊢
            refine' wpAnyH_take (i := 0) (v := ?vp00) rfl (by kernel_rfl) (by kernel_rfl) (by kernel_rfl) (fun _ _ _ h => h) (Or.inl ⟨by kernel_rfl, fun W hW => ?yp00⟩) hS ?rp00
            case yp00 => (obtain ⟨x0, x1, x2, x3, x4, x5, x6, x7⟩ := hW.2; go_simp; first | done | with_reducible rfl | (rw [if_pos (by omega)]))
            refine' wpAnyH_take (i := 1) (v := ?vp01) rfl (by kernel_rfl) (by kernel_rfl) (by kernel_rfl) (fun _ _ _ h => h) (Or.inl ⟨by kernel_rfl, fun W hW => ?yp01⟩) hS ?rp01
            case yp01 => (go_simp; first | done | with_reducible rfl | (rw [if_pos (by omega)]))
            refine' wpAnyH_take (i := 2) (v := ?vp02) rfl (by kernel_rfl) (by kernel_rfl) (by kernel_rfl) (fun _ _ _ h => h) (Or.inl ⟨by kernel_rfl, fun W hW => ?yp02⟩) hS ?rp02
            case yp02 => (go_simp; first | done | with_reducible rfl | (rw [if_pos (by omega)]))
            refine' wpAnyH_take (i := 5) (v := ?vp05) rfl (by kernel_rfl) (by kernel_rfl) (by kernel_rfl) (fun _ _ _ h => h) (Or.inl ⟨by kernel_rfl, fun W hW => ?yp05⟩) hS ?rp05
            case yp05 => (go_simp; first | done | with_reducible rfl | (rw [if_pos (by omega)]))
            refine wpAnyH_ready (rs := [3, 8]) (by kernel_rfl) (by simp) ?_
            refine AllReadyH.cons rfl (fun K hK => ?_) (AllReadyH.cons rfl (fun K hK => ?_) AllReadyH.nil)
            · go_simp
              refine (part9_any LA ln lcap ls SA sn scap ss _ wr (hL1.out.keep hS.1) (by omega) (hS1.out.keep hS.1) hS1.out).mono ?_
              rintro e w11 ⟨u, UA, un, ucap, rfl, hzu, hun, fu, hb⟩
              replace fu := Lib.hid fu
              replace hzu := Lib.hid hzu
              unfold S9p.Pt.val S9p.Pt.cells
              go_wp2_with (fail)
              have hSn := (And.intro (below_keep hb hS.1) (hS.2.keep hb))
              clear hb
              refine hK.out _ _ hSn (fun hS2 => ?_)
              clear hK K hS hSn
              have hS := hS2
              clear hS2
              refine wpAnyH_ready (rs := [4, 8]) (by kernel_rfl) (by simp) ?_
              refine AllReadyH.cons rfl (fun K hK => ?_) (AllReadyH.cons rfl (fun K hK => ?_) AllReadyH.nil)
              · go_simp
                have hb : Below w11.heap.size w11 (w11.alloc (.cells #[.int .u64 t.k, .string t.a, .string t.b, .string t.c, .int .i64 t.li, .int .i64 t.kv, .slice TA tn tcap, .int .i64 t.tm, .int .u64 u.k, .string u.a, .string u.b, .string u.c, .int .i64 u.li, .int .i64 u.kv, .slice UA un ucap, .int .i64 u.tm] 40)) := (Below.refl _ _).alloc (Nat.le_refl _) _
                have XB : BoxAt (w11.alloc (.cells #[.int .u64 t.k, .string t.a, .string t.b, .string t.c, .int .i64 t.li, .int .i64 t.kv, .slice TA tn tcap, .int .i64 t.tm, .int .u64 u.k, .string u.a, .string u.b, .string u.c, .int .i64 u.li, .int .i64 u.kv, .slice UA un ucap, .int .i64 u.tm] 40)) w11.heap.size [.int .u64 t.k, .string t.a, .string t.b, .string t.c, .int .i64 t.li, .int .i64 t.kv, .slice TA tn tcap, .int .i64 t.tm, .int .u64 u.k, .string u.a, .string u.b, .string u.c, .int .i64 u.li, .int .i64 u.kv, .slice UA un ucap, .int .i64 u.tm] := BoxAt.new w11 [.int .u64 t.k, .string t.a, .string t.b, .string t.c, .int .i64 t.li, .int .i64 t.kv, .slice TA tn tcap, .int .i64 t.tm, .int .u64 u.k, .string u.a, .string u.b, .string u.c, .int .i64 u.li, .int .i64 u.kv, .slice UA un ucap, .int .i64 u.tm] 40
                have hSn := (And.intro (below_keep hb hS.1) (hS.2.keep hb))

                obtain ⟨G, hG⟩ : ∃ G, G = w11.heap.size := ⟨_, rfl⟩
                rw [← hG] at XB

                rw [← hG]
                clear hG hb
                generalize (w11.alloc (.cells #[.int .u64 t.k, .string t.a, .string t.b, .string t.c, .int .i64 t.li, .int .i64 t.kv, .slice TA tn tcap, .int .i64 t.tm, .int .u64 u.k, .string u.a, .string u.b, .string u.c, .int .i64 u.li, .int .i64 u.kv, .slice UA un ucap, .int .i64 u.tm] 40)) = w12 at XB hSn ⊢
                refine hK.out _ _ hSn (fun hS2 => ?_)
                clear hK K hS2
                refine held_grow (S' := (fun W => Below wr.heap.size wr W ∧ PtAt W w.heap.size t TA tn tcap ∧ BoxAt W G [.int .u64 t.k, .string t.a, .string t.b, .string t.c, .int .i64 t.li, .int .i64 t.kv, .slice TA tn tcap, .int .i64 t.tm, .int .u64 u.k, .string u.a, .string u.b, .string u.c, .int .i64 u.li, .int .i64 u.kv, .slice UA un ucap, .int .i64 u.tm])) (fun W hW => ⟨hW.1, hW.2.1⟩) _ _ _ _ ?_
                replace hS : Below wr.heap.size wr w12 ∧ PtAt w12 w.heap.size t TA tn tcap ∧ BoxAt w12 G [.int .u64 t.k, .string t.a, .string t.b, .string t.c, .int .i64 t.li, .int .i64 t.kv, .slice TA tn tcap, .int .i64 t.tm, .int .u64 u.k, .string u.a, .string u.b, .string u.c, .int .i64 u.li, .int .i64 u.kv, .slice UA un ucap, .int .i64 u.tm] := ⟨hSn.1, hSn.2, XB⟩
                clear XB
                refine' wpAnyH_take (i := 6) (v := ?vp01_2_6) rfl (by kernel_rfl) (by kernel_rfl) (by kernel_rfl) (fun _ _ _ h => h) (Or.inl ⟨by kernel_rfl, fun W hW => ?yp01_2_6⟩) hS ?rp01_2_6
                case yp01_2_6 => (go_simp; first | done | with_reducible rfl | (rw [if_pos (by omega)]))
                refine' wpAnyH_take (i := 7) (v := ?vp01_2_7) rfl (by kernel_rfl) (by kernel_rfl) (by kernel_rfl) (fun _ _ _ h => h) (Or.inl ⟨by kernel_rfl, fun W hW => ?yp01_2_7⟩) hS ?rp01_2_7
                case yp01_2_7 => (obtain ⟨_, _, hbs⟩ := hW; have y0 := hbs.c 0 _ rfl; have y1 := hbs.c 1 _ rfl; have y2 := hbs.c 2 _ rfl; have y3 := hbs.c 3 _ rfl; have y4 := hbs.c 4 _ rfl; have y5 := hbs.c 5 _ rfl; have y6 := hbs.c 6 _ rfl; have y7 := hbs.c 7 _ rfl; go_simp; first | done | with_reducible rfl | (rw [if_pos (by omega)]))
                refine wpAnyH_ready (rs := [8]) (by kernel_rfl) (by simp) ?_
                refine AllReadyH.cons rfl (fun K hK => ?_) AllReadyH.nil
                go_simp
                have hb : Below w12.heap.size w12 (w12.alloc (.cells #[.int .u64 0, .string ⟨#[]⟩, .string ⟨#[]⟩, .string ⟨#[]⟩, .int .i64 0, .int .i64 0, .slice none 0 0, .int .i64 0] 40)) := (Below.refl _ _).alloc (Nat.le_refl _) _
                have XT : BoxAt (w12.alloc (.cells #[.int .u64 0, .string ⟨#[]⟩, .string ⟨#[]⟩, .string ⟨#[]⟩, .int .i64 0, .int .i64 0, .slice none 0 0, .int .i64 0] 40)) w12.heap.size zeroPt := BoxAt.new w12 zeroPt 40
                have hSn := (And.intro (below_keep hb hS.1) (And.intro (hS.2.1.keep hb) (hS.2.2.keep hb)))
                have hTb := hS.1.size
                have hTG := hS.2.2.lt
                obtain ⟨T, hT⟩ : ∃ T, T = w12.heap.size := ⟨_, rfl⟩
                rw [← hT] at XT hTb hTG
                rw [← hT]
                clear hT hb
                generalize (w12.alloc (.cells #[.int .u64 0, .string ⟨#[]⟩, .string ⟨#[]⟩, .string ⟨#[]⟩, .int .i64 0, .int .i64 0, .slice none 0 0, .int .i64 0] 40)) = w13 at XT hSn ⊢
                replace XT := Lib.hid XT
                refine hK.out _ _ hSn (fun hS2 => ?_)
                clear hK K hS hSn
                have hS := hS2
                clear hS2
                refine wpAnyH_ready (rs := [9]) (by kernel_rfl) (by simp) ?_
                refine AllReadyH.cons rfl (fun K hK => ?_) AllReadyH.nil
                have xf := XT.out.fz
                have xl := XT.out.lt
                have x0 := XT.out.c 0 _ rfl
                have x1 := XT.out.c 1 _ rfl
                have x2 := XT.out.c 2 _ rfl
                have x3 := XT.out.c 3 _ rfl
                have x4 := XT.out.c 4 _ rfl
                have x5 := XT.out.c 5 _ rfl
                have x6 := XT.out.c 6 _ rfl
                have x7 := XT.out.c 7 _ rfl
                go_simp
                have yT : BoxAt ((((((((w13.setCell ⟨T, 0, none⟩ (.int .u64 t.k)).setCell ⟨T, 1, none⟩ (.string t.a)).setCell ⟨T, 2, none⟩ (.string t.b)).setCell ⟨T, 3, none⟩ (.string t.c)).setCell ⟨T, 4, none⟩ (.int .i64 t.li)).setCell ⟨T, 5, none⟩ (.int .i64 t.kv)).setCell ⟨T, 6, none⟩ (.slice TA tn tcap)).setCell ⟨T, 7, none⟩ (.int .i64 t.tm)) T (ptL t TA tn tcap) := ((((((((XT.out.set 0 (.int .u64 t.k) (by simp [zeroPt])).set 1 (.string t.a) (by simp [zeroPt])).set 2 (.string t.b) (by simp [zeroPt])).set 3 (.string t.c) (by simp [zeroPt])).set 4 (.int .i64 t.li) (by simp [zeroPt])).set 5 (.int .i64 t.kv) (by simp [zeroPt])).set 6 (.slice TA tn tcap) (by simp [zeroPt])).set 7 (.int .i64 t.tm) (by simp [zeroPt]))
                have gT : w13.grownBy ((((((((w13.setCell ⟨T, 0, none⟩ (.int .u64 t.k)).setCell ⟨T, 1, none⟩ (.string t.a)).setCell ⟨T, 2, none⟩ (.string t.b)).setCell ⟨T, 3, none⟩ (.string t.c)).setCell ⟨T, 4, none⟩ (.int .i64 t.li)).setCell ⟨T, 5, none⟩ (.int .i64 t.kv)).setCell ⟨T, 6, none⟩ (.slice TA tn tcap)).setCell ⟨T, 7, none⟩ (.int .i64 t.tm)) (some T) := ((((((((grown_set w13 ⟨T, 0, none⟩ (.int .u64 t.k)).trans (grown_set _ ⟨T, 1, none⟩ (.string t.a))).trans (grown_set _ ⟨T, 2, none⟩ (.string t.b))).trans (grown_set _ ⟨T, 3, none⟩ (.string t.c))).trans (grown_set _ ⟨T, 4, none⟩ (.int .i64 t.li))).trans (grown_set _ ⟨T, 5, none⟩ (.int .i64 t.kv))).trans (grown_set _ ⟨T, 6, none⟩ (.slice TA tn tcap))).trans (grown_set _ ⟨T, 7, none⟩ (.int .i64 t.tm)))
                generalize ((((((((w13.setCell ⟨T, 0, none⟩ (.int .u64 t.k)).setCell ⟨T, 1, none⟩ (.string t.a)).setCell ⟨T, 2, none⟩ (.string t.b)).setCell ⟨T, 3, none⟩ (.string t.c)).setCell ⟨T, 4, none⟩ (.int .i64 t.li)).setCell ⟨T, 5, none⟩ (.int .i64 t.kv)).setCell ⟨T, 6, none⟩ (.slice TA tn tcap)).setCell ⟨T, 7, none⟩ (.int .i64 t.tm)) = w99 at yT gT ⊢
                have rl := cell_lt Rr.out.c0
                have hSn := And.intro (hS.1.grown gT hS.1.size (fun k e => by cases e; exact hTb)) (And.intro (hS.2.1.grown gT (by simp; omega)) (hS.2.2.grown gT (by simp; omega)))
                refine hK.out _ _ hSn (fun hS2 => ?_)
                clear hK K hS
                refine wpAnyH_done (by kernel_rfl) ?_ _
                go_wp2_with (fail)
                go_meet
                exact ⟨⟨T, t, TA, tn, tcap, rfl, f, PtAt.ofL yT, hT1.out.keep hSn.1, by omega⟩, hSn.1⟩
              · go_simp
                have hb : Below w11.heap.size w11 (w11.alloc (.cells #[.int .u64 0, .string ⟨#[]⟩, .string ⟨#[]⟩, .string ⟨#[]⟩, .int .i64 0, .int .i64 0, .slice none 0 0, .int .i64 0] 40)) := (Below.refl _ _).alloc (Nat.le_refl _) _
                have XT : BoxAt (w11.alloc (.cells #[.int .u64 0, .string ⟨#[]⟩, .string ⟨#[]⟩, .string ⟨#[]⟩, .int .i64 0, .int .i64 0, .slice none 0 0, .int .i64 0] 40)) w11.heap.size zeroPt := BoxAt.new w11 zeroPt 40
                have hSn := (And.intro (below_keep hb hS.1) (hS.2.keep hb))
                have hTb := hS.1.size

                obtain ⟨T, hT⟩ : ∃ T, T = w11.heap.size := ⟨_, rfl⟩
                rw [← hT] at XT hTb
                rw [← hT]
                clear hT hb
                generalize (w11.alloc (.cells #[.int .u64 0, .string ⟨#[]⟩, .string ⟨#[]⟩, .string ⟨#[]⟩, .int .i64 0, .int .i64 0, .slice none 0 0, .int .i64 0] 40)) = w15 at XT hSn ⊢
                replace XT := Lib.hid XT
                refine hK.out _ _ hSn (fun hS2 => ?_)
                clear hK K hS hSn
                have hS := hS2
                clear hS2
                refine wpAnyH_ready (rs := [4]) (by kernel_rfl) (by simp) ?_
                refine AllReadyH.cons rfl (fun K hK => ?_) AllReadyH.nil
                go_simp
                have hb : Below w15.heap.size w15 (w15.alloc (.cells #[.int .u64 t.k, .string t.a, .string t.b, .string t.c, .int .i64 t.li, .int .i64 t.kv, .slice TA tn tcap, .int .i64 t.tm, .int .u64 u.k, .string u.a, .string u.b, .string u.c, .int .i64 u.li, .int .i64 u.kv, .slice UA un ucap, .int .i64 u.tm] 40)) := (Below.refl _ _).alloc (Nat.le_refl _) _
                have XB : BoxAt (w15.alloc (.cells #[.int .u64 t.k, .string t.a, .string t.b, .string t.c, .int .i64 t.li, .int .i64 t.kv, .slice TA tn tcap, .int .i64 t.tm, .int .u64 u.k, .string u.a, .string u.b, .string u.c, .int .i64 u.li, .int .i64 u.kv, .slice UA un ucap, .int .i64 u.tm] 40)) w15.heap.size [.int .u64 t.k, .string t.a, .string t.b, .string t.c, .int .i64 t.li, .int .i64 t.kv, .slice TA tn tcap, .int .i64 t.tm, .int .u64 u.k, .string u.a, .string u.b, .string u.c, .int .i64 u.li, .int .i64 u.kv, .slice UA un ucap, .int .i64 u.tm] := BoxAt.new w15 [.int .u64 t.k, .string t.a, .string t.b, .string t.c, .int .i64 t.li, .int .i64 t.kv, .slice TA tn tcap, .int .i64 t.tm, .int .u64 u.k, .string u.a, .string u.b, .string u.c, .int .i64 u.li, .int .i64 u.kv, .slice UA un ucap, .int .i64 u.tm] 40
                have hSn := (And.intro (below_keep hb hS.1) (hS.2.keep hb))
                have hTG := XT.out.lt
                replace XT := Lib.hid (XT.out.keep hb)
                obtain ⟨G, hG⟩ : ∃ G, G = w15.heap.size := ⟨_, rfl⟩
                rw [← hG] at XB
                rw [← hG] at hTG
                rw [← hG]
                clear hG hb
                generalize (w15.alloc (.cells #[.int .u64 t.k, .string t.a, .string t.b, .string t.c, .int .i64 t.li, .int .i64 t.kv, .slice TA tn tcap, .int .i64 t.tm, .int .u64 u.k, .string u.a, .string u.b, .string u.c, .int .i64 u.li, .int .i64 u.kv, .slice UA un ucap, .int .i64 u.tm] 40)) = w16 at XB hSn XT ⊢
                refine hK.out _ _ hSn (fun hS2 => ?_)
                clear hK K hS2
                refine held_grow (S' := (fun W => Below wr.heap.size wr W ∧ PtAt W w.heap.size t TA tn tcap ∧ BoxAt W G [.int .u64 t.k, .string t.a, .string t.b, .string t.c, .int .i64 t.li, .int .i64 t.kv, .slice TA tn tcap, .int .i64 t.tm, .int .u64 u.k, .string u.a, .string u.b, .string u.c, .int .i64 u.li, .int .i64 u.kv, .slice UA un ucap, .int .i64 u.tm])) (fun W hW => ⟨hW.1, hW.2.1⟩) _ _ _ _ ?_
                replace hS : Below wr.heap.size wr w16 ∧ PtAt w16 w.heap.size t TA tn tcap ∧ BoxAt w16 G [.int .u64 t.k, .string t.a, .string t.b, .string t.c, .int .i64 t.li, .int .i64 t.kv, .slice TA tn tcap, .int .i64 t.tm, .int .u64 u.k, .string u.a, .string u.b, .string u.c, .int .i64 u.li, .int .i64 u.kv, .slice UA un ucap, .int .i64 u.tm] := ⟨hSn.1, hSn.2, XB⟩
                clear XB
                refine' wpAnyH_take (i := 6) (v := ?vp01_5_6_6) rfl (by kernel_rfl) (by kernel_rfl) (by kernel_rfl) (fun _ _ _ h => h) (Or.inl ⟨by kernel_rfl, fun W hW => ?yp01_5_6_6⟩) hS ?rp01_5_6_6
                case yp01_5_6_6 => (go_simp; first | done | with_reducible rfl | (rw [if_pos (by omega)]))
                refine' wpAnyH_take (i := 7) (v := ?vp01_5_6_7) rfl (by kernel_rfl) (by kernel_rfl) (by kernel_rfl) (fun _ _ _ h => h) (Or.inl ⟨by kernel_rfl, fun W hW => ?yp01_5_6_7⟩) hS ?rp01_5_6_7
                case yp01_5_6_7 => (obtain ⟨_, _, hbs⟩ := hW; have y0 := hbs.c 0 _ rfl; have y1 := hbs.c 1 _ rfl; have y2 := hbs.c 2 _ rfl; have y3 := hbs.c 3 _ rfl; have y4 := hbs.c 4 _ rfl; have y5 := hbs.c 5 _ rfl; have y6 := hbs.c 6 _ rfl; have y7 := hbs.c 7 _ rfl; go_simp; first | done | with_reducible rfl | (rw [if_pos (by omega)]))
                refine wpAnyH_ready (rs := [9]) (by kernel_rfl) (by simp) ?_
                refine AllReadyH.cons rfl (fun K hK => ?_) AllReadyH.nil
                have xf := XT.out.fz
                have xl := XT.out.lt
                have x0 := XT.out.c 0 _ rfl
                have x1 := XT.out.c 1 _ rfl
                have x2 := XT.out.c 2 _ rfl
                have x3 := XT.out.c 3 _ rfl
                have x4 := XT.out.c 4 _ rfl
                have x5 := XT.out.c 5 _ rfl
                have x6 := XT.out.c 6 _ rfl
                have x7 := XT.out.c 7 _ rfl
                go_simp
                have yT : BoxAt ((((((((w16.setCell ⟨T, 0, none⟩ (.int .u64 t.k)).setCell ⟨T, 1, none⟩ (.string t.a)).setCell ⟨T, 2, none⟩ (.string t.b)).setCell ⟨T, 3, none⟩ (.string t.c)).setCell ⟨T, 4, none⟩ (.int .i64 t.li)).setCell ⟨T, 5, none⟩ (.int .i64 t.kv)).setCell ⟨T, 6, none⟩ (.slice TA tn tcap)).setCell ⟨T, 7, none⟩ (.int .i64 t.tm)) T (ptL t TA tn tcap) := ((((((((XT.out.set 0 (.int .u64 t.k) (by simp [zeroPt])).set 1 (.string t.a) (by simp [zeroPt])).set 2 (.string t.b) (by simp [zeroPt])).set 3 (.string t.c) (by simp [zeroPt])).set 4 (.int .i64 t.li) (by simp [zeroPt])).set 5 (.int .i64 t.kv) (by simp [zeroPt])).set 6 (.slice TA tn tcap) (by simp [zeroPt])).set 7 (.int .i64 t.tm) (by simp [zeroPt]))
                have gT : w16.grownBy ((((((((w16.setCell ⟨T, 0, none⟩ (.int .u64 t.k)).setCell ⟨T, 1, none⟩ (.string t.a)).setCell ⟨T, 2, none⟩ (.string t.b)).setCell ⟨T, 3, none⟩ (.string t.c)).setCell ⟨T, 4, none⟩ (.int .i64 t.li)).setCell ⟨T, 5, none⟩ (.int .i64 t.kv)).setCell ⟨T, 6, none⟩ (.slice TA tn tcap)).setCell ⟨T, 7, none⟩ (.int .i64 t.tm)) (some T) := ((((((((grown_set w16 ⟨T, 0, none⟩ (.int .u64 t.k)).trans (grown_set _ ⟨T, 1, none⟩ (.string t.a))).trans (grown_set _ ⟨T, 2, none⟩ (.string t.b))).trans (grown_set _ ⟨T, 3, none⟩ (.string t.c))).trans (grown_set _ ⟨T, 4, none⟩ (.int .i64 t.li))).trans (grown_set _ ⟨T, 5, none⟩ (.int .i64 t.kv))).trans (grown_set _ ⟨T, 6, none⟩ (.slice TA tn tcap))).trans (grown_set _ ⟨T, 7, none⟩ (.int .i64 t.tm)))
                generalize ((((((((w16.setCell ⟨T, 0, none⟩ (.int .u64 t.k)).setCell ⟨T, 1, none⟩ (.string t.a)).setCell ⟨T, 2, none⟩ (.string t.b)).setCell ⟨T, 3, none⟩ (.string t.c)).setCell ⟨T, 4, none⟩ (.int .i64 t.li)).setCell ⟨T, 5, none⟩ (.int .i64 t.kv)).setCell ⟨T, 6, none⟩ (.slice TA tn tcap)).setCell ⟨T, 7, none⟩ (.int .i64 t.tm)) = w99 at yT gT ⊢
                have rl := cell_lt Rr.out.c0
                have hSn := And.intro (hS.1.grown gT hS.1.size (fun k e => by cases e; exact hTb)) (And.intro (hS.2.1.grown gT (by simp; omega)) (hS.2.2.grown gT (by simp; omega)))
                refine hK.out _ _ hSn (fun hS2 => ?_)
                clear hK K hS
                refine wpAnyH_done (by kernel_rfl) ?_ _
                go_wp2_with (fail)
                go_meet
                exact ⟨⟨T, t, TA, tn, tcap, rfl, f, PtAt.ofL yT, hT1.out.keep hSn.1, by omega⟩, hSn.1⟩
            · go_simp
              have hb : Below w5.heap.size w5 (w5.alloc (.cells #[.int .u64 0, .string ⟨#[]⟩, .string ⟨#[]⟩, .string ⟨#[]⟩, .int .i64 0, .int .i64 0, .slice none 0 0, .int .i64 0] 40)) := (Below.refl _ _).alloc (Nat.le_refl _) _
              have XT : BoxAt (w5.alloc (.cells #[.int .u64 0, .string ⟨#[]⟩, .string ⟨#[]⟩, .string ⟨#[]⟩, .int .i64 0, .int .i64 0, .slice none 0 0, .int .i64 0] 40)) w5.heap.size zeroPt := BoxAt.new w5 zeroPt 40
              have hSn := (And.intro (below_keep hb hS.1) (hS.2.keep hb))
              have hTb := hS.1.size

              obtain ⟨T, hT⟩ : ∃ T, T = w5.heap.size := ⟨_, rfl⟩
              rw [← hT] at XT hTb
              rw [← hT]
              clear hT hb
              generalize (w5.alloc (.cells #[.int .u64 0, .string ⟨#[]⟩, .string ⟨#[]⟩, .string ⟨#[]⟩, .int .i64 0, .int .i64 0, .slice none 0 0, .int .i64 0] 40)) = w18 at XT hSn ⊢
              replace XT := Lib.hid XT
              refine hK.out _ _ hSn (fun hS2 => ?_)
              clear hK K hS hSn
              have hS := hS2
              clear hS2
              refine wpAnyH_ready (rs := [3]) (by kernel_rfl) (by simp) ?_
              refine AllReadyH.cons rfl (fun K hK => ?_) AllReadyH.nil
              go_simp
              refine (part9_any LA ln lcap ls SA sn scap ss _ wr (hL1.out.keep hS.1) (by omega) (hS1.out.keep hS.1) hS1.out).mono ?_
              rintro e w19 ⟨u, UA, un, ucap, rfl, hzu, hun, fu, hb⟩
              replace fu := Lib.hid fu
              replace hzu := Lib.hid hzu
              unfold S9p.Pt.val S9p.Pt.cells
              go_wp2_with (fail)
              have hSn := (And.intro (below_keep hb hS.1) (hS.2.keep hb))
              replace XT := Lib.hid (XT.out.keep hb)
              clear hb
              refine hK.out _ _ hSn (fun hS2 => ?_)
              clear hK K hS hSn
              have hS := hS2
              clear hS2
              refine wpAnyH_ready (rs := [4]) (by kernel_rfl) (by simp) ?_
              refine AllReadyH.cons rfl (fun K hK => ?_) AllReadyH.nil
              go_simp
              have hb : Below w19.heap.size w19 (w19.alloc (.cells #[.int .u64 t.k, .string t.a, .string t.b, .string t.c, .int .i64 t.li, .int .i64 t.kv, .slice TA tn tcap, .int .i64 t.tm, .int .u64 u.k, .string u.a, .string u.b, .string u.c, .int .i64 u.li, .int .i64 u.kv, .slice UA un ucap, .int .i64 u.tm] 40)) := (Below.refl _ _).alloc (Nat.le_refl _) _
              have XB : BoxAt (w19.alloc (.cells #[.int .u64 t.k, .string t.a, .string t.b, .string t.c, .int .i64 t.li, .int .i64 t.kv, .slice TA tn tcap, .int .i64 t.tm, .int .u64 u.k, .string u.a, .string u.b, .string u.c, .int .i64 u.li, .int .i64 u.kv, .slice UA un ucap, .int .i64 u.tm] 40)) w19.heap.size [.int .u64 t.k, .string t.a, .string t.b, .string t.c, .int .i64 t.li, .int .i64 t.kv, .slice TA tn tcap, .int .i64 t.tm, .int .u64 u.k, .string u.a, .string u.b, .string u.c, .int .i64 u.li, .int .i64 u.kv, .slice UA un ucap, .int .i64 u.tm] := BoxAt.new w19 [.int .u64 t.k, .string t.a, .string t.b, .string t.c, .int .i64 t.li, .int .i64 t.kv, .slice TA tn tcap, .int .i64 t.tm, .int .u64 u.k, .string u.a, .string u.b, .string u.c, .int .i64 u.li, .int .i64 u.kv, .slice UA un ucap, .int .i64 u.tm] 40
              have hSn := (And.intro (below_keep hb hS.1) (hS.2.keep hb))
              have hTG := XT.out.lt
              replace XT := Lib.hid (XT.out.keep hb)
              obtain ⟨G, hG⟩ : ∃ G, G = w19.heap.size := ⟨_, rfl⟩
              rw [← hG] at XB
              rw [← hG] at hTG
              rw [← hG]
              clear hG hb
              generalize (w19.alloc (.cells #[.int .u64 t.k, .string t.a, .string t.b, .string t.c, .int .i64 t.li, .int .i64 t.kv, .slice TA tn tcap, .int .i64 t.tm, .int .u64 u.k, .string u.a, .string u.b, .string u.c, .int .i64 u.li, .int .i64 u.kv, .slice UA un ucap, .int .i64 u.tm] 40)) = w20 at XB hSn XT ⊢
              refine hK.out _ _ hSn (fun hS2 => ?_)
              clear hK K hS2
              refine held_grow (S' := (fun W => Below wr.heap.size wr W ∧ PtAt W w.heap.size t TA tn tcap ∧ BoxAt W G [.int .u64 t.k, .string t.a, .string t.b, .string t.c, .int .i64 t.li, .int .i64 t.kv, .slice TA tn tcap, .int .i64 t.tm, .int .u64 u.k, .string u.a, .string u.b, .string u.c, .int .i64 u.li, .int .i64 u.kv, .slice UA un ucap, .int .i64 u.tm])) (fun W hW => ⟨hW.1, hW.2.1⟩) _ _ _ _ ?_
              replace hS : Below wr.heap.size wr w20 ∧ PtAt w20 w.heap.size t TA tn tcap ∧ BoxAt w20 G [.int .u64 t.k, .string t.a, .string t.b, .string t.c, .int .i64 t.li, .int .i64 t.kv, .slice TA tn tcap, .int .i64 t.tm, .int .u64 u.k, .string u.a, .string u.b, .string u.c, .int .i64 u.li, .int .i64 u.kv, .slice UA un ucap, .int .i64 u.tm] := ⟨hSn.1, hSn.2, XB⟩
              clear XB
              refine' wpAnyH_take (i := 6) (v := ?vp08_9_10_6) rfl (by kernel_rfl) (by kernel_rfl) (by kernel_rfl) (fun _ _ _ h => h) (Or.inl ⟨by kernel_rfl, fun W hW => ?yp08_9_10_6⟩) hS ?rp08_9_10_6
              case yp08_9_10_6 => (go_simp; first | done | with_reducible rfl | (rw [if_pos (by omega)]))
              refine' wpAnyH_take (i := 7) (v := ?vp08_9_10_7) rfl (by kernel_rfl) (by kernel_rfl) (by kernel_rfl) (fun _ _ _ h => h) (Or.inl ⟨by kernel_rfl, fun W hW => ?yp08_9_10_7⟩) hS ?rp08_9_10_7
              case yp08_9_10_7 => (obtain ⟨_, _, hbs⟩ := hW; have y0 := hbs.c 0 _ rfl; have y1 := hbs.c 1 _ rfl; have y2 := hbs.c 2 _ rfl; have y3 := hbs.c 3 _ rfl; have y4 := hbs.c 4 _ rfl; have y5 := hbs.c 5 _ rfl; have y6 := hbs.c 6 _ rfl; have y7 := hbs.c 7 _ rfl; go_simp; first | done | with_reducible rfl | (rw [if_pos (by omega)]))
              refine wpAnyH_ready (rs := [9]) (by kernel_rfl) (by simp) ?_
              refine AllReadyH.cons rfl (fun K hK => ?_) AllReadyH.nil
              have xf := XT.out.fz
              have xl := XT.out.lt
              have x0 := XT.out.c 0 _ rfl
              have x1 := XT.out.c 1 _ rfl
              have x2 := XT.out.c 2 _ rfl
              have x3 := XT.out.c 3 _ rfl
              have x4 := XT.out.c 4 _ rfl
              have x5 := XT.out.c 5 _ rfl
              have x6 := XT.out.c 6 _ rfl
              have x7 := XT.out.c 7 _ rfl
              go_simp
              have yT : BoxAt ((((((((w20.setCell ⟨T, 0, none⟩ (.int .u64 t.k)).setCell ⟨T, 1, none⟩ (.string t.a)).setCell ⟨T, 2, none⟩ (.string t.b)).setCell ⟨T, 3, none⟩ (.string t.c)).setCell ⟨T, 4, none⟩ (.int .i64 t.li)).setCell ⟨T, 5, none⟩ (.int .i64 t.kv)).setCell ⟨T, 6, none⟩ (.slice TA tn tcap)).setCell ⟨T, 7, none⟩ (.int .i64 t.tm)) T (ptL t TA tn tcap) := ((((((((XT.out.set 0 (.int .u64 t.k) (by simp [zeroPt])).set 1 (.string t.a) (by simp [zeroPt])).set 2 (.string t.b) (by simp [zeroPt])).set 3 (.string t.c) (by simp [zeroPt])).set 4 (.int .i64 t.li) (by simp [zeroPt])).set 5 (.int .i64 t.kv) (by simp [zeroPt])).set 6 (.slice TA tn tcap) (by simp [zeroPt])).set 7 (.int .i64 t.tm) (by simp [zeroPt]))
              have gT : w20.grownBy ((((((((w20.setCell ⟨T, 0, none⟩ (.int .u64 t.k)).setCell ⟨T, 1, none⟩ (.string t.a)).setCell ⟨T, 2, none⟩ (.string t.b)).setCell ⟨T, 3, none⟩ (.string t.c)).setCell ⟨T, 4, none⟩ (.int .i64 t.li)).setCell ⟨T, 5, none⟩ (.int .i64 t.kv)).setCell ⟨T, 6, none⟩ (.slice TA tn tcap)).setCell ⟨T, 7, none⟩ (.int .i64 t.tm)) (some T) := ((((((((grown_set w20 ⟨T, 0, none⟩ (.int .u64 t.k)).trans (grown_set _ ⟨T, 1, none⟩ (.string t.a))).trans (grown_set _ ⟨T, 2, none⟩ (.string t.b))).trans (grown_set _ ⟨T, 3, none⟩ (.string t.c))).trans (grown_set _ ⟨T, 4, none⟩ (.int .i64 t.li))).trans (grown_set _ ⟨T, 5, none⟩ (.int .i64 t.kv))).trans (grown_set _ ⟨T, 6, none⟩ (.slice TA tn tcap))).trans (grown_set _ ⟨T, 7, none⟩ (.int .i64 t.tm)))
              generalize ((((((((w20.setCell ⟨T, 0, none⟩ (.int .u64 t.k)).setCell ⟨T, 1, none⟩ (.string t.a)).setCell ⟨T, 2, none⟩ (.string t.b)).setCell ⟨T, 3, none⟩ (.string t.c)).setCell ⟨T, 4, none⟩ (.int .i64 t.li)).setCell ⟨T, 5, none⟩ (.int .i64 t.kv)).setCell ⟨T, 6, none⟩ (.slice TA tn tcap)).setCell ⟨T, 7, none⟩ (.int .i64 t.tm)) = w99 at yT gT ⊢
              have rl := cell_lt Rr.out.c0
              have hSn := And.intro (hS.1.grown gT hS.1.size (fun k e => by cases e; exact hTb)) (And.intro (hS.2.1.grown gT (by simp; omega)) (hS.2.2.grown gT (by simp; omega)))
              refine hK.out _ _ hSn (fun hS2 => ?_)
              clear hK K hS
              refine wpAnyH_done (by kernel_rfl) ?_ _
              go_wp2_with (fail)
              go_meet
              exact ⟨⟨T, t, TA, tn, tcap, rfl, f, PtAt.ofL yT, hT1.out.keep hSn.1, by omega⟩, hSn.1⟩
          · refine wp_region_held_drew (S := (fun W => Below wr.heap.size wr W ∧ PtAt W w.heap.size t TA tn tcap)) (by kernel_rfl) ⟨(Below.refl _ _).drew, Rr.out.drew⟩ (fun hS => ?_)
            generalize wr.drew = w5 at hS ⊢
            refine' wpAnyH_take (i := 0) (v := ?vp10) rfl (by kernel_rfl) (by kernel_rfl) (by kernel_rfl) (fun _ _ _ h => h) (Or.inl ⟨by kernel_rfl, fun W hW => ?yp10⟩) hS ?rp10
            case yp10 => (obtain ⟨x0, x1, x2, x3, x4, x5, x6, x7⟩ := hW.2; go_simp; first | done | with_reducible rfl | (rw [if_pos (by omega)]))
            refine' wpAnyH_take (i := 1) (v := ?vp11) rfl (by kernel_rfl) (by kernel_rfl) (by kernel_rfl) (fun _ _ _ h => h) (Or.inl ⟨by kernel_rfl, fun W hW => ?yp11⟩) hS ?rp11
            case yp11 => (go_simp; first | done | with_reducible rfl | (rw [if_pos (by omega)]))
            refine' wpAnyH_take (i := 2) (v := ?vp12) rfl (by kernel_rfl) (by kernel_rfl) (by kernel_rfl) (fun _ _ _ h => h) (Or.inl ⟨by kernel_rfl, fun W hW => ?yp12⟩) hS ?rp12
            case yp12 => (go_simp; first | done | with_reducible rfl | (rw [if_pos (by omega)]))
            refine' wpAnyH_take (i := 5) (v := ?vp15) rfl (by kernel_rfl) (by kernel_rfl) (by kernel_rfl) (fun _ _ _ h => h) (Or.inl ⟨by kernel_rfl, fun W hW => ?yp15⟩) hS ?rp15
            case yp15 => (go_simp; first | done | with_reducible rfl | (rw [if_pos (by omega)]))
            refine wpAnyH_ready (rs := [3, 8]) (by kernel_rfl) (by simp) ?_
            refine AllReadyH.cons rfl (fun K hK => ?_) (AllReadyH.cons rfl (fun K hK => ?_) AllReadyH.nil)
            · go_simp
              refine (part9_any LA ln lcap ls SA sn scap ss _ wr (hL1.out.keep hS.1) (by omega) (hS1.out.keep hS.1) hS1.out).mono ?_
              rintro e w22 ⟨u, UA, un, ucap, rfl, hzu, hun, fu, hb⟩
              replace fu := Lib.hid fu
              replace hzu := Lib.hid hzu
              unfold S9p.Pt.val S9p.Pt.cells
              go_wp2_with (fail)
              have hSn := (And.intro (below_keep hb hS.1) (hS.2.keep hb))
              clear hb
              refine hK.out _ _ hSn (fun hS2 => ?_)
              clear hK K hS hSn
              have hS := hS2
              clear hS2
              refine wpAnyH_ready (rs := [4, 8]) (by kernel_rfl) (by simp) ?_
              refine AllReadyH.cons rfl (fun K hK => ?_) (AllReadyH.cons rfl (fun K hK => ?_) AllReadyH.nil)
              · go_simp
                have hb : Below w22.heap.size w22 (w22.alloc (.cells #[.int .u64 t.k, .string t.a, .string t.b, .string t.c, .int .i64 t.li, .int .i64 t.kv, .slice TA tn tcap, .int .i64 t.tm, .int .u64 u.k, .string u.a, .string u.b, .string u.c, .int .i64 u.li, .int .i64 u.kv, .slice UA un ucap, .int .i64 u.tm] 40)) := (Below.refl _ _).alloc (Nat.le_refl _) _
                have XB : BoxAt (w22.alloc (.cells #[.int .u64 t.k, .string t.a, .string t.b, .string t.c, .int .i64 t.li, .int .i64 t.kv, .slice TA tn tcap, .int .i64 t.tm, .int .u64 u.k, .string u.a, .string u.b, .string u.c, .int .i64 u.li, .int .i64 u.kv, .slice UA un ucap, .int .i64 u.tm] 40)) w22.heap.size [.int .u64 t.k, .string t.a, .string t.b, .string t.c, .int .i64 t.li, .int .i64 t.kv, .slice TA tn tcap, .int .i64 t.tm, .int .u64 u.k, .string u.a, .string u.b, .string u.c, .int .i64 u.li, .int .i64 u.kv, .slice UA un ucap, .int .i64 u.tm] := BoxAt.new w22 [.int .u64 t.k, .string t.a, .string t.b, .string t.c, .int .i64 t.li, .int .i64 t.kv, .slice TA tn tcap, .int .i64 t.tm, .int .u64 u.k, .string u.a, .string u.b, .string u.c, .int .i64 u.li, .int .i64 u.kv, .slice UA un ucap, .int .i64 u.tm] 40
                have hSn := (And.intro (below_keep hb hS.1) (hS.2.keep hb))

                obtain ⟨G, hG⟩ : ∃ G, G = w22.heap.size := ⟨_, rfl⟩
                rw [← hG] at XB

                rw [← hG]
                clear hG hb
                generalize (w22.alloc (.cells #[.int .u64 t.k, .string t.a, .string t.b, .string t.c, .int .i64 t.li, .int .i64 t.kv, .slice TA tn tcap, .int .i64 t.tm, .int .u64 u.k, .string u.a, .string u.b, .string u.c, .int .i64 u.li, .int .i64 u.kv, .slice UA un ucap, .int .i64 u.tm] 40)) = w23 at XB hSn ⊢
                refine hK.out _ _ hSn (fun hS2 => ?_)
                clear hK K hS2
                refine held_grow (S' := (fun W => Below wr.heap.size wr W ∧ PtAt W w.heap.size t TA tn tcap ∧ BoxAt W G [.int .u64 t.k, .string t.a, .string t.b, .string t.c, .int .i64 t.li, .int .i64 t.kv, .slice TA tn tcap, .int .i64 t.tm, .int .u64 u.k, .string u.a, .string u.b, .string u.c, .int .i64 u.li, .int .i64 u.kv, .slice UA un ucap, .int .i64 u.tm])) (fun W hW => ⟨hW.1, hW.2.1⟩) _ _ _ _ ?_
                replace hS : Below wr.heap.size wr w23 ∧ PtAt w23 w.heap.size t TA tn tcap ∧ BoxAt w23 G [.int .u64 t.k, .string t.a, .string t.b, .string t.c, .int .i64 t.li, .int .i64 t.kv, .slice TA tn tcap, .int .i64 t.tm, .int .u64 u.k, .string u.a, .string u.b, .string u.c, .int .i64 u.li, .int .i64 u.kv, .slice UA un ucap, .int .i64 u.tm] := ⟨hSn.1, hSn.2, XB⟩
                clear XB
                refine' wpAnyH_take (i := 6) (v := ?vp112_13_6) rfl (by kernel_rfl) (by kernel_rfl) (by kernel_rfl) (fun _ _ _ h => h) (Or.inl ⟨by kernel_rfl, fun W hW => ?yp112_13_6⟩) hS ?rp112_13_6
                case yp112_13_6 => (go_simp; first | done | with_reducible rfl | (rw [if_pos (by omega)]))
                refine' wpAnyH_take (i := 7) (v := ?vp112_13_7) rfl (by kernel_rfl) (by kernel_rfl) (by kernel_rfl) (fun _ _ _ h => h) (Or.inl ⟨by kernel_rfl, fun W hW => ?yp112_13_7⟩) hS ?rp112_13_7
                case yp112_13_7 => (obtain ⟨_, _, hbs⟩ := hW; have y0 := hbs.c 8 _ rfl; have y1 := hbs.c 9 _ rfl; have y2 := hbs.c 10 _ rfl; have y3 := hbs.c 11 _ rfl; have y4 := hbs.c 12 _ rfl; have y5 := hbs.c 13 _ rfl; have y6 := hbs.c 14 _ rfl; have y7 := hbs.c 15 _ rfl; go_simp; first | done | with_reducible rfl | (rw [if_pos (by omega)]))
                refine wpAnyH_ready (rs := [8]) (by kernel_rfl) (by simp) ?_
                refine AllReadyH.cons rfl (fun K hK => ?_) AllReadyH.nil
                go_simp
                have hb : Below w23.heap.size w23 (w23.alloc (.cells #[.int .u64 0, .string ⟨#[]⟩, .string ⟨#[]⟩, .string ⟨#[]⟩, .int .i64 0, .int .i64 0, .slice none 0 0, .int .i64 0] 40)) := (Below.refl _ _).alloc (Nat.le_refl _) _
                have XT : BoxAt (w23.alloc (.cells #[.int .u64 0, .string ⟨#[]⟩, .string ⟨#[]⟩, .string ⟨#[]⟩, .int .i64 0, .int .i64 0, .slice none 0 0, .int .i64 0] 40)) w23.heap.size zeroPt := BoxAt.new w23 zeroPt 40
                have hSn := (And.intro (below_keep hb hS.1) (And.intro (hS.2.1.keep hb) (hS.2.2.keep hb)))
                have hTb := hS.1.size
                have hTG := hS.2.2.lt
                obtain ⟨T, hT⟩ : ∃ T, T = w23.heap.size := ⟨_, rfl⟩
                rw [← hT] at XT hTb hTG
                rw [← hT]
                clear hT hb
                generalize (w23.alloc (.cells #[.int .u64 0, .string ⟨#[]⟩, .string ⟨#[]⟩, .string ⟨#[]⟩, .int .i64 0, .int .i64 0, .slice none 0 0, .int .i64 0] 40)) = w24 at XT hSn ⊢
                replace XT := Lib.hid XT
                refine hK.out _ _ hSn (fun hS2 => ?_)
                clear hK K hS hSn
                have hS := hS2
                clear hS2
                refine wpAnyH_ready (rs := [9]) (by kernel_rfl) (by simp) ?_
                refine AllReadyH.cons rfl (fun K hK => ?_) AllReadyH.nil
                have xf := XT.out.fz
                have xl := XT.out.lt
                have x0 := XT.out.c 0 _ rfl
                have x1 := XT.out.c 1 _ rfl
                have x2 := XT.out.c 2 _ rfl
                have x3 := XT.out.c 3 _ rfl
                have x4 := XT.out.c 4 _ rfl
                have x5 := XT.out.c 5 _ rfl
                have x6 := XT.out.c 6 _ rfl
                have x7 := XT.out.c 7 _ rfl
                go_simp
                have yT : BoxAt ((((((((w24.setCell ⟨T, 0, none⟩ (.int .u64 u.k)).setCell ⟨T, 1, none⟩ (.string u.a)).setCell ⟨T, 2, none⟩ (.string u.b)).setCell ⟨T, 3, none⟩ (.string u.c)).setCell ⟨T, 4, none⟩ (.int .i64 u.li)).setCell ⟨T, 5, none⟩ (.int .i64 u.kv)).setCell ⟨T, 6, none⟩ (.slice UA un ucap)).setCell ⟨T, 7, none⟩ (.int .i64 u.tm)) T (ptL u UA un ucap) := ((((((((XT.out.set 0 (.int .u64 u.k) (by simp [zeroPt])).set 1 (.string u.a) (by simp [zeroPt])).set 2 (.string u.b) (by simp [zeroPt])).set 3 (.string u.c) (by simp [zeroPt])).set 4 (.int .i64 u.li) (by simp [zeroPt])).set 5 (.int .i64 u.kv) (by simp [zeroPt])).set 6 (.slice UA un ucap) (by simp [zeroPt])).set 7 (.int .i64 u.tm) (by simp [zeroPt]))
                have gT : w24.grownBy ((((((((w24.setCell ⟨T, 0, none⟩ (.int .u64 u.k)).setCell ⟨T, 1, none⟩ (.string u.a)).setCell ⟨T, 2, none⟩ (.string u.b)).setCell ⟨T, 3, none⟩ (.string u.c)).setCell ⟨T, 4, none⟩ (.int .i64 u.li)).setCell ⟨T, 5, none⟩ (.int .i64 u.kv)).setCell ⟨T, 6, none⟩ (.slice UA un ucap)).setCell ⟨T, 7, none⟩ (.int .i64 u.tm)) (some T) := ((((((((grown_set w24 ⟨T, 0, none⟩ (.int .u64 u.k)).trans (grown_set _ ⟨T, 1, none⟩ (.string u.a))).trans (grown_set _ ⟨T, 2, none⟩ (.string u.b))).trans (grown_set _ ⟨T, 3, none⟩ (.string u.c))).trans (grown_set _ ⟨T, 4, none⟩ (.int .i64 u.li))).trans (grown_set _ ⟨T, 5, none⟩ (.int .i64 u.kv))).trans (grown_set _ ⟨T, 6, none⟩ (.slice UA un ucap))).trans (grown_set _ ⟨T, 7, none⟩ (.int .i64 u.tm)))
                generalize ((((((((w24.setCell ⟨T, 0, none⟩ (.int .u64 u.k)).setCell ⟨T, 1, none⟩ (.string u.a)).setCell ⟨T, 2, none⟩ (.string u.b)).setCell ⟨T, 3, none⟩ (.string u.c)).setCell ⟨T, 4, none⟩ (.int .i64 u.li)).setCell ⟨T, 5, none⟩ (.int .i64 u.kv)).setCell ⟨T, 6, none⟩ (.slice UA un ucap)).setCell ⟨T, 7, none⟩ (.int .i64 u.tm)) = w99 at yT gT ⊢
                have rl := cell_lt Rr.out.c0
                have hSn := And.intro (hS.1.grown gT hS.1.size (fun k e => by cases e; exact hTb)) (And.intro (hS.2.1.grown gT (by simp; omega)) (hS.2.2.grown gT (by simp; omega)))
                refine hK.out _ _ hSn (fun hS2 => ?_)
                clear hK K hS
                refine wpAnyH_done (by kernel_rfl) ?_ _
                go_wp2_with (fail)
                go_meet
                exact ⟨⟨T, u, UA, un, ucap, rfl, fu.out, PtAt.ofL yT, hzu.out.keep hSn.1, by omega⟩, hSn.1⟩
              · go_simp
                have hb : Below w22.heap.size w22 (w22.alloc (.cells #[.int .u64 0, .string ⟨#[]⟩, .string ⟨#[]⟩, .string ⟨#[]⟩, .int .i64 0, .int .i64 0, .slice none 0 0, .int .i64 0] 40)) := (Below.refl _ _).alloc (Nat.le_refl _) _
                have XT : BoxAt (w22.alloc (.cells #[.int .u64 0, .string ⟨#[]⟩, .string ⟨#[]⟩, .string ⟨#[]⟩, .int .i64 0, .int .i64 0, .slice none 0 0, .int .i64 0] 40)) w22.heap.size zeroPt := BoxAt.new w22 zeroPt 40
                have hSn := (And.intro (below_keep hb hS.1) (hS.2.keep hb))
                have hTb := hS.1.size

                obtain ⟨T, hT⟩ : ∃ T, T = w22.heap.size := ⟨_, rfl⟩
                rw [← hT] at XT hTb
                rw [← hT]
                clear hT hb
                generalize (w22.alloc (.cells #[.int .u64 0, .string ⟨#[]⟩, .string ⟨#[]⟩, .string ⟨#[]⟩, .int .i64 0, .int .i64 0, .slice none 0 0, .int .i64 0] 40)) = w26 at XT hSn ⊢
                replace XT := Lib.hid XT
                refine hK.out _ _ hSn (fun hS2 => ?_)
                clear hK K hS hSn
                have hS := hS2
                clear hS2
                refine wpAnyH_ready (rs := [4]) (by kernel_rfl) (by simp) ?_
                refine AllReadyH.cons rfl (fun K hK => ?_) AllReadyH.nil
                go_simp
                have hb : Below w26.heap.size w26 (w26.alloc (.cells #[.int .u64 t.k, .string t.a, .string t.b, .string t.c, .int .i64 t.li, .int .i64 t.kv, .slice TA tn tcap, .int .i64 t.tm, .int .u64 u.k, .string u.a, .string u.b, .string u.c, .int .i64 u.li, .int .i64 u.kv, .slice UA un ucap, .int .i64 u.tm] 40)) := (Below.refl _ _).alloc (Nat.le_refl _) _
                have XB : BoxAt (w26.alloc (.cells #[.int .u64 t.k, .string t.a, .string t.b, .string t.c, .int .i64 t.li, .int .i64 t.kv, .slice TA tn tcap, .int .i64 t.tm, .int .u64 u.k, .string u.a, .string u.b, .string u.c, .int .i64 u.li, .int .i64 u.kv, .slice UA un ucap, .int .i64 u.tm] 40)) w26.heap.size [.int .u64 t.k, .string t.a, .string t.b, .string t.c, .int .i64 t.li, .int .i64 t.kv, .slice TA tn tcap, .int .i64 t.tm, .int .u64 u.k, .string u.a, .string u.b, .string u.c, .int .i64 u.li, .int .i64 u.kv, .slice UA un ucap, .int .i64 u.tm] := BoxAt.new w26 [.int .u64 t.k, .string t.a, .string t.b, .string t.c, .int .i64 t.li, .int .i64 t.kv, .slice TA tn tcap, .int .i64 t.tm, .int .u64 u.k, .string u.a, .string u.b, .string u.c, .int .i64 u.li, .int .i64 u.kv, .slice UA un ucap, .int .i64 u.tm] 40
                have hSn := (And.intro (below_keep hb hS.1) (hS.2.keep hb))
                have hTG := XT.out.lt
                replace XT := Lib.hid (XT.out.keep hb)
                obtain ⟨G, hG⟩ : ∃ G, G = w26.heap.size := ⟨_, rfl⟩
                rw [← hG] at XB
                rw [← hG] at hTG
                rw [← hG]
                clear hG hb
                generalize (w26.alloc (.cells #[.int .u64 t.k, .string t.a, .string t.b, .string t.c, .int .i64 t.li, .int .i64 t.kv, .slice TA tn tcap, .int .i64 t.tm, .int .u64 u.k, .string u.a, .string u.b, .string u.c, .int .i64 u.li, .int .i64 u.kv, .slice UA un ucap, .int .i64 u.tm] 40)) = w27 at XB hSn XT ⊢
                refine hK.out _ _ hSn (fun hS2 => ?_)
                clear hK K hS2
                refine held_grow (S' := (fun W => Below wr.heap.size wr W ∧ PtAt W w.heap.size t TA tn tcap ∧ BoxAt W G [.int .u64 t.k, .string t.a, .string t.b, .string t.c, .int .i64 t.li, .int .i64 t.kv, .slice TA tn tcap, .int .i64 t.tm, .int .u64 u.k, .string u.a, .string u.b, .string u.c, .int .i64 u.li, .int .i64 u.kv, .slice UA un ucap, .int .i64 u.tm])) (fun W hW => ⟨hW.1, hW.2.1⟩) _ _ _ _ ?_
                replace hS : Below wr.heap.size wr w27 ∧ PtAt w27 w.heap.size t TA tn tcap ∧ BoxAt w27 G [.int .u64 t.k, .string t.a, .string t.b, .string t.c, .int .i64 t.li, .int .i64 t.kv, .slice TA tn tcap, .int .i64 t.tm, .int .u64 u.k, .string u.a, .string u.b, .string u.c, .int .i64 u.li, .int .i64 u.kv, .slice UA un ucap, .int .i64 u.tm] := ⟨hSn.1, hSn.2, XB⟩
                clear XB
                refine' wpAnyH_take (i := 6) (v := ?vp112_16_17_6) rfl (by kernel_rfl) (by kernel_rfl) (by kernel_rfl) (fun _ _ _ h => h) (Or.inl ⟨by kernel_rfl, fun W hW => ?yp112_16_17_6⟩) hS ?rp112_16_17_6
                case yp112_16_17_6 => (go_simp; first | done | with_reducible rfl | (rw [if_pos (by omega)]))
                refine' wpAnyH_take (i := 7) (v := ?vp112_16_17_7) rfl (by kernel_rfl) (by kernel_rfl) (by kernel_rfl) (fun _ _ _ h => h) (Or.inl ⟨by kernel_rfl, fun W hW => ?yp112_16_17_7⟩) hS ?rp112_16_17_7
                case yp112_16_17_7 => (obtain ⟨_, _, hbs⟩ := hW; have y0 := hbs.c 8 _ rfl; have y1 := hbs.c 9 _ rfl; have y2 := hbs.c 10 _ rfl; have y3 := hbs.c 11 _ rfl; have y4 := hbs.c 12 _ rfl; have y5 := hbs.c 13 _ rfl; have y6 := hbs.c 14 _ rfl; have y7 := hbs.c 15 _ rfl; go_simp; first | done | with_reducible rfl | (rw [if_pos (by omega)]))
                refine wpAnyH_ready (rs := [9]) (by kernel_rfl) (by simp) ?_
                refine AllReadyH.cons rfl (fun K hK => ?_) AllReadyH.nil
                have xf := XT.out.fz
                have xl := XT.out.lt
                have x0 := XT.out.c 0 _ rfl
                have x1 := XT.out.c 1 _ rfl
                have x2 := XT.out.c 2 _ rfl
                have x3 := XT.out.c 3 _ rfl
                have x4 := XT.out.c 4 _ rfl
                have x5 := XT.out.c 5 _ rfl
                have x6 := XT.out.c 6 _ rfl
                have x7 := XT.out.c 7 _ rfl
                go_simp
                have yT : BoxAt ((((((((w27.setCell ⟨T, 0, none⟩ (.int .u64 u.k)).setCell ⟨T, 1, none⟩ (.string u.a)).setCell ⟨T, 2, none⟩ (.string u.b)).setCell ⟨T, 3, none⟩ (.string u.c)).setCell ⟨T, 4, none⟩ (.int .i64 u.li)).setCell ⟨T, 5, none⟩ (.int .i64 u.kv)).setCell ⟨T, 6, none⟩ (.slice UA un ucap)).setCell ⟨T, 7, none⟩ (.int .i64 u.tm)) T (ptL u UA un ucap) := ((((((((XT.out.set 0 (.int .u64 u.k) (by simp [zeroPt])).set 1 (.string u.a) (by simp [zeroPt])).set 2 (.string u.b) (by simp [zeroPt])).set 3 (.string u.c) (by simp [zeroPt])).set 4 (.int .i64 u.li) (by simp [zeroPt])).set 5 (.int .i64 u.kv) (by simp [zeroPt])).set 6 (.slice UA un ucap) (by simp [zeroPt])).set 7 (.int .i64 u.tm) (by simp [zeroPt]))
                have gT : w27.grownBy ((((((((w27.setCell ⟨T, 0, none⟩ (.int .u64 u.k)).setCell ⟨T, 1, none⟩ (.string u.a)).setCell ⟨T, 2, none⟩ (.string u.b)).setCell ⟨T, 3, none⟩ (.string u.c)).setCell ⟨T, 4, none⟩ (.int .i64 u.li)).setCell ⟨T, 5, none⟩ (.int .i64 u.kv)).setCell ⟨T, 6, none⟩ (.slice UA un ucap)).setCell ⟨T, 7, none⟩ (.int .i64 u.tm)) (some T) := ((((((((grown_set w27 ⟨T, 0, none⟩ (.int .u64 u.k)).trans (grown_set _ ⟨T, 1, none⟩ (.string u.a))).trans (grown_set _ ⟨T, 2, none⟩ (.string u.b))).trans (grown_set _ ⟨T, 3, none⟩ (.string u.c))).trans (grown_set _ ⟨T, 4, none⟩ (.int .i64 u.li))).trans (grown_set _ ⟨T, 5, none⟩ (.int .i64 u.kv))).trans (grown_set _ ⟨T, 6, none⟩ (.slice UA un ucap))).trans (grown_set _ ⟨T, 7, none⟩ (.int .i64 u.tm)))
                generalize ((((((((w27.setCell ⟨T, 0, none⟩ (.int .u64 u.k)).setCell ⟨T, 1, none⟩ (.string u.a)).setCell ⟨T, 2, none⟩ (.string u.b)).setCell ⟨T, 3, none⟩ (.string u.c)).setCell ⟨T, 4, none⟩ (.int .i64 u.li)).setCell ⟨T, 5, none⟩ (.int .i64 u.kv)).setCell ⟨T, 6, none⟩ (.slice UA un ucap)).setCell ⟨T, 7, none⟩ (.int .i64 u.tm)) = w99 at yT gT ⊢
                have rl := cell_lt Rr.out.c0
                have hSn := And.intro (hS.1.grown gT hS.1.size (fun k e => by cases e; exact hTb)) (And.intro (hS.2.1.grown gT (by simp; omega)) (hS.2.2.grown gT (by simp; omega)))
                refine hK.out _ _ hSn (fun hS2 => ?_)
                clear hK K hS
                refine wpAnyH_done (by kernel_rfl) ?_ _
                go_wp2_with (fail)
                go_meet
                exact ⟨⟨T, u, UA, un, ucap, rfl, fu.out, PtAt.ofL yT, hzu.out.keep hSn.1, by omega⟩, hSn.1⟩
            · go_simp
              have hb : Below w5.heap.size w5 (w5.alloc (.cells #[.int .u64 0, .string ⟨#[]⟩, .string ⟨#[]⟩, .string ⟨#[]⟩, .int .i64 0, .int .i64 0, .slice none 0 0, .int .i64 0] 40)) := (Below.refl _ _).alloc (Nat.le_refl _) _
              have XT : BoxAt (w5.alloc (.cells #[.int .u64 0, .string ⟨#[]⟩, .string ⟨#[]⟩, .string ⟨#[]⟩, .int .i64 0, .int .i64 0, .slice none 0 0, .int .i64 0] 40)) w5.heap.size zeroPt := BoxAt.new w5 zeroPt 40
              have hSn := (And.intro (below_keep hb hS.1) (hS.2.keep hb))
              have hTb := hS.1.size

              obtain ⟨T, hT⟩ : ∃ T, T = w5.heap.size := ⟨_, rfl⟩
              rw [← hT] at XT hTb
              rw [← hT]
              clear hT hb
              generalize (w5.alloc (.cells #[.int .u64 0, .string ⟨#[]⟩, .string ⟨#[]⟩, .string ⟨#[]⟩, .int .i64 0, .int .i64 0, .slice none 0 0, .int .i64 0] 40)) = w29 at XT hSn ⊢
              replace XT := Lib.hid XT
              refine hK.out _ _ hSn (fun hS2 => ?_)
              clear hK K hS hSn
              have hS := hS2
              clear hS2
              refine wpAnyH_ready (rs := [3]) (by kernel_rfl) (by simp) ?_
              refine AllReadyH.cons rfl (fun K hK => ?_) AllReadyH.nil
              go_simp
              refine (part9_any LA ln lcap ls SA sn scap ss _ wr (hL1.out.keep hS.1) (by omega) (hS1.out.keep hS.1) hS1.out).mono ?_
              rintro e w30 ⟨u, UA, un, ucap, rfl, hzu, hun, fu, hb⟩
              replace fu := Lib.hid fu
              replace hzu := Lib.hid hzu
              unfold S9p.Pt.val S9p.Pt.cells
              go_wp2_with (fail)
              have hSn := (And.intro (below_keep hb hS.1) (hS.2.keep hb))
              replace XT := Lib.hid (XT.out.keep hb)
              clear hb
              refine hK.out _ _ hSn (fun hS2 => ?_)
              clear hK K hS hSn
              have hS := hS2
              clear hS2
              refine wpAnyH_ready (rs := [4]) (by kernel_rfl) (by simp) ?_
              refine AllReadyH.cons rfl (fun K hK => ?_) AllReadyH.nil
              go_simp
              have hb : Below w30.heap.size w30 (w30.alloc (.cells #[.int .u64 t.k, .string t.a, .string t.b, .string t.c, .int .i64 t.li, .int .i64 t.kv, .slice TA tn tcap, .int .i64 t.tm, .int .u64 u.k, .string u.a, .string u.b, .string u.c, .int .i64 u.li, .int .i64 u.kv, .slice UA un ucap, .int .i64 u.tm] 40)) := (Below.refl _ _).alloc (Nat.le_refl _) _
              have XB : BoxAt (w30.alloc (.cells #[.int .u64 t.k, .string t.a, .string t.b, .string t.c, .int .i64 t.li, .int .i64 t.kv, .slice TA tn tcap, .int .i64 t.tm, .int .u64 u.k, .string u.a, .string u.b, .string u.c, .int .i64 u.li, .int .i64 u.kv, .slice UA un ucap, .int .i64 u.tm] 40)) w30.heap.size [.int .u64 t.k, .string t.a, .string t.b, .string t.c, .int .i64 t.li, .int .i64 t.kv, .slice TA tn tcap, .int .i64 t.tm, .int .u64 u.k, .string u.a, .string u.b, .string u.c, .int .i64 u.li, .int .i64 u.kv, .slice UA un ucap, .int .i64 u.tm] := BoxAt.new w30 [.int .u64 t.k, .string t.a, .string t.b, .string t.c, .int .i64 t.li, .int .i64 t.kv, .slice TA tn tcap, .int .i64 t.tm, .int .u64 u.k, .string u.a, .string u.b, .string u.c, .int .i64 u.li, .int .i64 u.kv, .slice UA un ucap, .int .i64 u.tm] 40
              have hSn := (And.intro (below_keep hb hS.1) (hS.2.keep hb))
              have hTG := XT.out.lt
              replace XT := Lib.hid (XT.out.keep hb)
              obtain ⟨G, hG⟩ : ∃ G, G = w30.heap.size := ⟨_, rfl⟩
              rw [← hG] at XB
              rw [← hG] at hTG
              rw [← hG]
              clear hG hb
              generalize (w30.alloc (.cells #[.int .u64 t.k, .string t.a, .string t.b, .string t.c, .int .i64 t.li, .int .i64 t.kv, .slice TA tn tcap, .int .i64 t.tm, .int .u64 u.k, .string u.a, .string u.b, .string u.c, .int .i64 u.li, .int .i64 u.kv, .slice UA un ucap, .int .i64 u.tm] 40)) = w31 at XB hSn XT ⊢
              refine hK.out _ _ hSn (fun hS2 => ?_)
              clear hK K hS2
              refine held_grow (S' := (fun W => Below wr.heap.size wr W ∧ PtAt W w.heap.size t TA tn tcap ∧ BoxAt W G [.int .u64 t.k, .string t.a, .string t.b, .string t.c, .int .i64 t.li, .int .i64 t.kv, .slice TA tn tcap, .int .i64 t.tm, .int .u64 u.k, .string u.a, .string u.b, .string u.c, .int .i64 u.li, .int .i64 u.kv, .slice UA un ucap, .int .i64 u.tm])) (fun W hW => ⟨hW.1, hW.2.1⟩) _ _ _ _ ?_
              replace hS : Below wr.heap.size wr w31 ∧ PtAt w31 w.heap.size t TA tn tcap ∧ BoxAt w31 G [.int .u64 t.k, .string t.a, .string t.b, .string t.c, .int .i64 t.li, .int .i64 t.kv, .slice TA tn tcap, .int .i64 t.tm, .int .u64 u.k, .string u.a, .string u.b, .string u.c, .int .i64 u.li, .int .i64 u.kv, .slice UA un ucap, .int .i64 u.tm] := ⟨hSn.1, hSn.2, XB⟩
              clear XB
              refine' wpAnyH_take (i := 6) (v := ?vp119_20_21_6) rfl (by kernel_rfl) (by kernel_rfl) (by kernel_rfl) (fun _ _ _ h => h) (Or.inl ⟨by kernel_rfl, fun W hW => ?yp119_20_21_6⟩) hS ?rp119_20_21_6
              case yp119_20_21_6 => (go_simp; first | done | with_reducible rfl | (rw [if_pos (by omega)]))
              refine' wpAnyH_take (i := 7) (v := ?vp119_20_21_7) rfl (by kernel_rfl) (by kernel_rfl) (by kernel_rfl) (fun _ _ _ h => h) (Or.inl ⟨by kernel_rfl, fun W hW => ?yp119_20_21_7⟩) hS ?rp119_20_21_7
              case yp119_20_21_7 => (obtain ⟨_, _, hbs⟩ := hW; have y0 := hbs.c 8 _ rfl; have y1 := hbs.c 9 _ rfl; have y2 := hbs.c 10 _ rfl; have y3 := hbs.c 11 _ rfl; have y4 := hbs.c 12 _ rfl; have y5 := hbs.c 13 _ rfl; have y6 := hbs.c 14 _ rfl; have y7 := hbs.c 15 _ rfl; go_simp; first | done | with_reducible rfl | (rw [if_pos (by omega)]))
              refine wpAnyH_ready (rs := [9]) (by kernel_rfl) (by simp) ?_
              refine AllReadyH.cons rfl (fun K hK => ?_) AllReadyH.nil
              have xf := XT.out.fz
              have xl := XT.out.lt
              have x0 := XT.out.c 0 _ rfl
              have x1 := XT.out.c 1 _ rfl
              have x2 := XT.out.c 2 _ rfl
              have x3 := XT.out.c 3 _ rfl
              have x4 := XT.out.c 4 _ rfl
              have x5 := XT.out.c 5 _ rfl
              have x6 := XT.out.c 6 _ rfl
              have x7 := XT.out.c 7 _ rfl
              go_simp
              have yT : BoxAt ((((((((w31.setCell ⟨T, 0, none⟩ (.int .u64 u.k)).setCell ⟨T, 1, none⟩ (.string u.a)).setCell ⟨T, 2, none⟩ (.string u.b)).setCell ⟨T, 3, none⟩ (.string u.c)).setCell ⟨T, 4, none⟩ (.int .i64 u.li)).setCell ⟨T, 5, none⟩ (.int .i64 u.kv)).setCell ⟨T, 6, none⟩ (.slice UA un ucap)).setCell ⟨T, 7, none⟩ (.int .i64 u.tm)) T (ptL u UA un ucap) := ((((((((XT.out.set 0 (.int .u64 u.k) (by simp [zeroPt])).set 1 (.string u.a) (by simp [zeroPt])).set 2 (.string u.b) (by simp [zeroPt])).set 3 (.string u.c) (by simp [zeroPt])).set 4 (.int .i64 u.li) (by simp [zeroPt])).set 5 (.int .i64 u.kv) (by simp [zeroPt])).set 6 (.slice UA un ucap) (by simp [zeroPt])).set 7 (.int .i64 u.tm) (by simp [zeroPt]))
              have gT : w31.grownBy ((((((((w31.setCell ⟨T, 0, none⟩ (.int .u64 u.k)).setCell ⟨T, 1, none⟩ (.string u.a)).setCell ⟨T, 2, none⟩ (.string u.b)).setCell ⟨T, 3, none⟩ (.string u.c)).setCell ⟨T, 4, none⟩ (.int .i64 u.li)).setCell ⟨T, 5, none⟩ (.int .i64 u.kv)).setCell ⟨T, 6, none⟩ (.slice UA un ucap)).setCell ⟨T, 7, none⟩ (.int .i64 u.tm)) (some T) := ((((((((grown_set w31 ⟨T, 0, none⟩ (.int .u64 u.k)).trans (grown_set _ ⟨T, 1, none⟩ (.string u.a))).trans (grown_set _ ⟨T, 2, none⟩ (.string u.b))).trans (grown_set _ ⟨T, 3, none⟩ (.string u.c))).trans (grown_set _ ⟨T, 4, none⟩ (.int .i64 u.li))).trans (grown_set _ ⟨T, 5, none⟩ (.int .i64 u.kv))).trans (grown_set _ ⟨T, 6, none⟩ (.slice UA un ucap))).trans (grown_set _ ⟨T, 7, none⟩ (.int .i64 u.tm)))
              generalize ((((((((w31.setCell ⟨T, 0, none⟩ (.int .u64 u.k)).setCell ⟨T, 1, none⟩ (.string u.a)).setCell ⟨T, 2, none⟩ (.string u.b)).setCell ⟨T, 3, none⟩ (.string u.c)).setCell ⟨T, 4, none⟩ (.int .i64 u.li)).setCell ⟨T, 5, none⟩ (.int .i64 u.kv)).setCell ⟨T, 6, none⟩ (.slice UA un ucap)).setCell ⟨T, 7, none⟩ (.int .i64 u.tm)) = w99 at yT gT ⊢
              have rl := cell_lt Rr.out.c0
              have hSn := And.intro (hS.1.grown gT hS.1.size (fun k e => by cases e; exact hTb)) (And.intro (hS.2.1.grown gT (by simp; omega)) (hS.2.2.grown gT (by simp; omega)))
              refine hK.out _ _ hSn (fun hS2 => ?_)
              clear hK K hS
              refine wpAnyH_done (by kernel_rfl) ?_ _
              go_wp2_with (fail)
              go_meet
              exact ⟨⟨T, u, UA, un, ucap, rfl, fu.out, PtAt.ofL yT, hzu.out.keep hSn.1, by omega⟩, hSn.1⟩
        case rest =>
          obtain ⟨⟨T, y, YA, yn, ycap, rfl, fy, TY, hy, hyn⟩, Bc⟩ := hcut
          obtain ⟨w20, hw20⟩ : ∃ w20, w20 = wc := ⟨_, rfl⟩
          subst hw20
          have B20 := Lib.hid (below_keep Bc Br)
          clear Bc Br Rr hL1 hS1 hT1
          replace hy := Lib.hid hy
          have EC := Lib.hid (fun W h => kptenc_any little y YA yn ycap fy W h)
          have EF := Lib.hid (fun W h => ptencode_any little y YA yn ycap fy W h)
          unfold S9p.Pt.val S9p.Pt.cells at EC EF
          have TYc := TY
          obtain ⟨x0, x1, x2, x3, x4, x5, x6, x7⟩ := TYc
          go_wp2_with (fail)
          refine (EC.out _ hy.out).mono ?_
          rintro e w21 ⟨A1, n1, c1, rfl, hs1, hb1, _⟩
          clear x0 x1 x2 x3 x4 x5 x6 x7
          replace TY := TY.keep hb1
          have TYc := TY
          obtain ⟨x0, x1, x2, x3, x4, x5, x6, x7⟩ := TYc
          have B21 := Lib.hid (below_keep hb1 B20.out)
          replace hy := Lib.hid (hy.out.keep hb1)
          clear hb1 B20
          replace hs1 := Lib.hid hs1
          go_wp2_with (fail)
          refine (EF.out _ hy.out).mono ?_
          rintro e w22 ⟨A2, n2, c2, rfl, hs2, hb2, _⟩
          clear x0 x1 x2 x3 x4 x5 x6 x7
          replace TY := TY.keep hb2
          have B22 := Lib.hid (below_keep hb2 B21.out)
          replace hs1 := Lib.hid (hs1.out.keep hb2)
          replace hy := Lib.hid (hy.out.keep hb2)
          clear hb2 B21 EC EF
          have hn1b : (n1 : Int) ≤ 392 := by have := hs1.out.len; have := S9p.encB_len little y; omega
          have u1 := conv_sl hs1.out
          have u2 := conv_sl hs2
          clear hs2
          by_cases hc : S9p.chkE y = 0
          · have hne : (S9p.chkE y == 0) = true := by rw [hc]; rfl
            have hd := S9p.dec_enc (l := little) fy hc
            have hq := S9p.dec_other (l := little) (m := !little) (t := y) (by cases little <;> decide)
            have he : S9p.encB little y = S9p.enc little y := by unfold S9p.encB; rw [if_pos hc]
            have hn1 : n1 ≤ 100000 := by have := hs1.out.len; have := S9p.encB_len little y; omega
            have DC := kptdec_any little A1 n1 c1 _ w22 hs1.out hn1
            unfold PtDec at DC
            rw [he, hd.1, hd.2] at DC
            unfold S9p.Pt.val S9p.Pt.cells at DC
            replace DC := Lib.hid DC
            have DD := Lib.hid (fun W (h : Sl W A1 n1 c1 (S9p.encB little y)) => kptdec_any (!little) A1 n1 c1 _ W h hn1)
            unfold PtDec at DD
            rw [he, hq.1, hq.2] at DD
            unfold S9p.Pt.val S9p.Pt.cells S9p.Pt.zero at DD
            rw [he] at hs1
            clear hd he hc hq
            go_wp2_with (fail)
            refine DC.out.mono ?_
            rintro e w23 ⟨Az, nz, cz, rfl, hsz, hb3, _⟩
            have hb4 : Below w23.heap.size w23 (w23.alloc (.cells #[.int .u64 y.k, .string y.a, .string y.b, .string y.c, .int .i64 y.li, .int .i64 y.kv, .slice Az nz cz, .int .i64 y.tm] 40)) := (Below.refl _ _).alloc (Nat.le_refl _) _
            have V4 := Lib.hid (PtAt.new w23 y Az nz cz 40)
            unfold S9p.Pt.cells at V4
            have T4 := Lib.hid ((TY.keep hb3).keep hb4)
            have hs4 := Lib.hid ((hs1.out.keep hb3).keep hb4)
            have hsz4 := Lib.hid (hsz.keep hb4)
            have hy4 := Lib.hid ((hy.out.keep hb3).keep hb4)
            have B24 := Lib.hid (below_keep hb4 (below_keep hb3 B22.out))
            clear hb3 hb4 B22 TY hsz hy
            go_wp2_with (fail)
            refine (DD.out _ hs4.out).mono ?_
            rintro e w25 ⟨Ay, ny, cy, rfl, _, hb5, _⟩
            have hb6 : Below w25.heap.size w25 (w25.alloc (.cells #[.int .u64 0, .string ⟨#[]⟩, .string ⟨#[]⟩, .string ⟨#[]⟩, .int .i64 0, .int .i64 0, .slice Ay ny cy, .int .i64 0] 40)) := (Below.refl _ _).alloc (Nat.le_refl _) _
            have V5 := V4.out.keep hb5
            have T5 := T4.out.keep hb5
            have TYc := T5
            obtain ⟨x0, x1, x2, x3, x4, x5, x6, x7⟩ := TYc
            have TYc := V5
            obtain ⟨z0, z1, z2, z3, z4, z5, z6, z7⟩ := TYc
            have ty := cell_lt x0
            have tz := cell_lt z0
            have SR := samepart_any y Az YA nz cz yn ycap _ ((hsz4.out.keep hb5).keep hb6) ((hy4.out.keep hb5).keep hb6)
            unfold S9p.Pt.val S9p.Pt.cells at SR
            replace SR := Lib.hid SR
            have B26 := Lib.hid (below_keep hb6 (below_keep hb5 B24.out))
            clear hb5 hb6 B24 T4 V4 hs4 hsz4 hy4
            go_wp2_with (fail)
            refine SR.out.mono ?_
            rintro e w27 ⟨rfl, hb7⟩
            have B27 := Lib.hid (below_keep hb7 B26.out)
            clear hb7 B26
            go_wp2_with (fail)
            go_roundw
            case rel => exact ⟨p + 1, by omega, by go_num, B27.out⟩
            case measure => simp [intOf]; omega
          · have hne : (S9p.chkE y == 0) = false := by simpa using hc
            clear hc
            go_wp2_with (fail)
            go_roundw
            case rel => exact ⟨p + 1, by omega, by go_num, B22.out⟩
            case measure => simp [intOf]; omega
      · go_wp2_with (fail)
        go_ret
        exact ⟨rfl, below_keep Br B2.out⟩

end Go.Proofs.Ytkhkmgblgonfoaa
