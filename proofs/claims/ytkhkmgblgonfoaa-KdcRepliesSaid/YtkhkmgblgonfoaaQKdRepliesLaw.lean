/-
  The law KdcReplies: the bytes of any reply, or the error, and that they are decoded as they were.
-/
import Derived.Test.YtkhkmgblgonfoaaQKdS
import Derived.Test.YtkhkmgblgonfoaaQGrow
import Derived.Deep.RegionHeld3
import Derived.IntWalk
import Derived.Deep.DeepCutAuto
namespace Go.Proofs.Ytkhkmgblgonfoaa
open Go.RowKit

set_option maxRecDepth 100000 in
set_option maxHeartbeats 6400000 in
theorem repliesLaw9_walk (t : S9r.Rp) (TA : Option Addr) (tn tcap : Nat) (LA : Option Addr) (ln lcap : Nat) (ls : List Int) (SA : Option Addr) (sn scap : Nat) (ss : List Int) (little : Bool) (size : Int) (w : World) (f : t.Fit) (hT : Sl w TA tn tcap t.z) (hL : Sl w LA ln lcap ls) (hS : Sl w SA sn scap ss) (z0 : 0 ≤ size) (z1 : size ≤ 65535) :
    Calls Try.prog 5 #[t.val TA tn tcap, .slice LA ln lcap, .slice SA sn scap, .bool little, .int .u16 size] w fun e w' => e = .returned (.bool true) ∧ Below w.heap.size w w' := by
  have Bw := Lib.hid (show Below w.heap.size w (w.alloc (.cells (t.cells TA tn tcap) 49)) from (Below.refl _ _).alloc (Nat.le_refl _) _)
  have R0 := Lib.hid (RpAt.new w t TA tn tcap 49)
  have hmax := hL.max
  have hmt := hT.max
  have hms := hS.max
  unfold maxLen at hmax hmt hms
  unfold S9r.Rp.val S9r.Rp.cells
  unfold S9r.Rp.cells at Bw R0
  go_enter Try.func5, Try.ntmps5
  go_wp2_with (fail)
  refine (awake9_any _).mono ?_
  rintro e w1 ⟨rfl, hb1⟩
  have R1 := Lib.hid (R0.out.keep hb1)
  have TYc := R1.out
  obtain ⟨x0, x1, x2, x3, x4, x5, x6, x7⟩ := TYc
  have B1 := Lib.hid (below_keep hb1 Bw.out)
  clear hb1 R0
  go_wp2_with (fail)
  clear x0 x1 x2 x3 x4 x5 x6 x7
  refine (long9_any w1.heap.size 3 [t.a, t.b, t.c] _ rfl (by decide) (by
    intro i s hs
    match i, hs with
    | 0, hs => simp at hs; subst hs; exact ⟨by simp [go_sem], f.a⟩
    | 1, hs => simp at hs; subst hs; exact ⟨by simp [go_sem], f.b⟩
    | 2, hs => simp at hs; subst hs; exact ⟨by simp [go_sem], f.c⟩
    | i + 3, hs => simp at hs)).mono ?_
  rintro e w2 ⟨q, rfl, hb2⟩
  have hba : Below w1.heap.size w1 (w1.alloc (.cells #[.string t.a, .string t.b, .string t.c] 9)) := (Below.refl _ _).alloc (Nat.le_refl _) _
  have R2 := Lib.hid ((R1.out.keep hba).keep hb2)
  have B2 := Lib.hid (below_keep hb2 (below_keep hba B1.out))
  clear hb2 hba R1 B1
  have TYc := R2.out
  obtain ⟨x0, x1, x2, x3, x4, x5, x6, x7⟩ := TYc
  have ways : q = true ∨ q = false ∧ 40 < (ln : Int) ∨ q = false ∧ (ln : Int) ≤ 40 ∧ 1100 < (tn : Int) ∨ q = false ∧ (ln : Int) ≤ 40 ∧ (tn : Int) ≤ 1100 ∧ 900 < (sn : Int) ∨ q = false ∧ (ln : Int) ≤ 40 ∧ (tn : Int) ≤ 1100 ∧ (sn : Int) ≤ 900 := by
    rcases q
    · simp; omega
    · exact .inl rfl
  rcases ways with rfl | ⟨rfl, k1⟩ | ⟨rfl, k1, k2⟩ | ⟨rfl, k1, k2, k3⟩ | ⟨rfl, k1, k2, k3⟩
  · go_wp2_with (fail)
    go_ret
    exact ⟨rfl, B2.out⟩
  · go_wp2_with (fail)
    go_ret
    exact ⟨rfl, B2.out⟩
  · go_wp2_with (fail)
    go_ret
    exact ⟨rfl, B2.out⟩
  · go_wp2_with (fail)
    go_ret
    exact ⟨rfl, B2.out⟩
  · have hL2 := Lib.hid (hL.keep B2.out)
    have hT2 := Lib.hid (hT.keep B2.out)
    have hS2 := Lib.hid (hS.keep B2.out)
    obtain ⟨mm, hmm⟩ : ∃ m : Nat, 1010 + size % 4 = (m : Int) := ⟨(1010 + size % 4).toNat, by omega⟩
    have hm1 : mm ≤ 1100 := by omega
    go_wp2_with (refine wpList_makeB rfl _ rfl _ mm rfl (by first | exact hmm | omega) (by omega) ?_; intro w3 hz3 hb3)
    clear x0 x1 x2 x3 x4 x5 x6 x7
    have R3 := Lib.hid (R2.out.keep hb3)
    have B3 := Lib.hid (below_keep hb3 B2.out)
    have hL3 := Lib.hid (hL2.out.keep hb3)
    have hT3 := Lib.hid (hT2.out.keep hb3)
    have hS3 := Lib.hid (hS2.out.keep hb3)
    obtain ⟨BA, hBA⟩ : ∃ A : Option Addr, A = some ⟨w2.heap.size, 0, none⟩ := ⟨_, rfl⟩
    rw [← hBA] at hz3
    rw [← hBA]
    clear hBA hb3 R2 B2 hL2 hT2 hS2
    refine (reply9_any LA ln lcap ls BA mm mm _ little _ hL3.out (by omega) hz3).mono ?_
    rintro e w4 ⟨b, rfl, hzb, fb, hb4⟩
    rw [← hzb] at hz3
    have hb5 : Below w4.heap.size w4 (w4.alloc (.cells #[.bool b.l, .string b.a, .string b.b, .string b.c, .int .i64 b.tm, .int .i64 b.ex, .int .i64 b.kv, .slice BA mm mm] 49)) := (Below.refl _ _).alloc (Nat.le_refl _) _
    have U5 := RpAt.new w4 b BA mm mm 49
    unfold S9r.Rp.cells at U5
    have R5 := Lib.hid ((R3.out.keep hb4).keep hb5)
    have B5 := Lib.hid (below_keep hb5 (below_keep hb4 B3.out))
    have hL5 := Lib.hid ((hL3.out.keep hb4).keep hb5)
    have hT5 := Lib.hid ((hT3.out.keep hb4).keep hb5)
    have hS5 := Lib.hid ((hS3.out.keep hb4).keep hb5)
    have hB5 := Lib.hid ((hz3.keep hb4).keep hb5)
    replace U5 := Lib.hid U5
    replace fb := Lib.hid fb
    clear hb4 hb5 R3 B3 hL3 hT3 hS3 hz3 hzb hmm
    unfold S9r.Rp.val S9r.Rp.cells
    go_wp2_with (fail)
    obtain ⟨bg, hbg⟩ : ∃ g, g = w4.heap.size := ⟨_, rfl⟩
    rw [← hbg] at U5
    rw [← hbg]
    clear hbg
    generalize (w4.alloc (.cells #[.bool b.l, .string b.a, .string b.b, .string b.c, .int .i64 b.tm, .int .i64 b.ex, .int .i64 b.kv, .slice BA mm mm] 49)) = w5 at U5 R5 B5 hL5 hT5 hS5 hB5 ⊢
    go_loopw [12] (fun i wr => ∃ p : Nat, p ≤ 3 ∧ i = .int .i64 p ∧ Below w5.heap.size w5 wr) (fun i _ => 3 - (intOf i).toNat)
    case atStart => exact ⟨0, by omega, rfl, Below.refl _ _⟩
    case round =>
      obtain ⟨p, hp, rfl, Br⟩ := hrel
      by_cases hlt : p < 3
      · have Rr := Lib.hid (R5.out.keep Br)
        have Rb := Lib.hid (U5.out.keep Br)
        have hL1 := Lib.hid (hL5.out.keep Br)
        have hT1 := Lib.hid (hT5.out.keep Br)
        have hS1 := Lib.hid (hS5.out.keep Br)
        have hB1 := Lib.hid (hB5.out.keep Br)
        go_upto_region 9 with (fail)
        go_cut [13] (fun x wx => SomeRp wx x ∧ Below wr.heap.size wr wx)
        case first =>
          rcases (show p = 0 ∨ p = 1 ∨ p = 2 by omega) with rfl | rfl | rfl
          · refine wp_region_held_drew (S := (fun W => Below wr.heap.size wr W ∧ RpAt W w.heap.size t TA tn tcap ∧ RpAt W bg b BA mm mm)) (by kernel_rfl) ⟨(Below.refl _ _).drew, Rr.out.drew, Rb.out.drew⟩ (fun hS => ?_)
            generalize wr.drew = w5 at hS ⊢
            refine' wpAnyH_take (i := 0) (v := ?vp00) rfl (by kernel_rfl) (by kernel_rfl) (by kernel_rfl) (fun _ _ _ h => h) (Or.inl ⟨by kernel_rfl, fun W hW => ?yp00⟩) hS ?rp00
            case yp00 => (obtain ⟨x0, x1, x2, x3, x4, x5, x6, x7⟩ := hW.2.1; go_simp; first | done | with_reducible rfl | (rw [if_pos (by omega)]))
            refine' wpAnyH_take (i := 1) (v := ?vp01) rfl (by kernel_rfl) (by kernel_rfl) (by kernel_rfl) (fun _ _ _ h => h) (Or.inl ⟨by kernel_rfl, fun W hW => ?yp01⟩) hS ?rp01
            case yp01 => (go_simp; first | done | with_reducible rfl | (rw [if_pos (by omega)]))
            refine' wpAnyH_take (i := 2) (v := ?vp02) rfl (by kernel_rfl) (by kernel_rfl) (by kernel_rfl) (fun _ _ _ h => h) (Or.inl ⟨by kernel_rfl, fun W hW => ?yp02⟩) hS ?rp02
            case yp02 => (go_simp; first | done | with_reducible rfl | (rw [if_pos (by omega)]))
            refine' wpAnyH_take (i := 3) (v := ?vp03) rfl (by kernel_rfl) (by kernel_rfl) (by kernel_rfl) (fun _ _ _ h => h) (Or.inl ⟨by kernel_rfl, fun W hW => ?yp03⟩) hS ?rp03
            case yp03 => (go_simp; first | done | with_reducible rfl | (rw [if_pos (by omega)]))
            refine' wpAnyH_take (i := 5) (v := ?vp05) rfl (by kernel_rfl) (by kernel_rfl) (by kernel_rfl) (fun _ _ _ h => h) (Or.inl ⟨by kernel_rfl, fun W hW => ?yp05⟩) hS ?rp05
            case yp05 => (obtain ⟨x0, x1, x2, x3, x4, x5, x6, x7⟩ := hW.2.2; go_simp; first | done | with_reducible rfl | (rw [if_pos (by omega)]))
            refine' wpAnyH_take (i := 7) (v := ?vp07) rfl (by kernel_rfl) (by kernel_rfl) (by kernel_rfl) (fun _ _ _ h => h) (Or.inl ⟨by kernel_rfl, fun W hW => ?yp07⟩) hS ?rp07
            case yp07 => (go_simp; first | done | with_reducible rfl | (rw [if_pos (by omega)]))
            refine wpAnyH_ready (rs := [4, 10]) (by kernel_rfl) (by simp) ?_
            refine AllReadyH.cons rfl (fun K hK => ?_) (AllReadyH.cons rfl (fun K hK => ?_) AllReadyH.nil)
            · go_simp
              refine (reply9_any LA ln lcap ls SA sn scap ss little _ (hL1.out.keep hS.1) (by omega) (hS1.out.keep hS.1)).mono ?_
              rintro e w11 ⟨u, rfl, hzu, fu, hb⟩
              replace fu := Lib.hid fu
              replace hzu := Lib.hid hzu
              unfold S9r.Rp.val S9r.Rp.cells
              go_wp2_with (fail)
              have hSn := (And.intro (below_keep hb hS.1) (And.intro (hS.2.1.keep hb) (hS.2.2.keep hb)))
              clear hb
              refine hK.out _ _ hSn (fun hS2 => ?_)
              clear hK K hS hSn
              have hS := hS2
              clear hS2
              refine wpAnyH_ready (rs := [6, 10]) (by kernel_rfl) (by simp) ?_
              refine AllReadyH.cons rfl (fun K hK => ?_) (AllReadyH.cons rfl (fun K hK => ?_) AllReadyH.nil)
              · go_simp
                have hb : Below w11.heap.size w11 (w11.alloc (.cells #[.bool t.l, .string t.a, .string t.b, .string t.c, .int .i64 t.tm, .int .i64 t.ex, .int .i64 t.kv, .slice TA tn tcap, .bool u.l, .string u.a, .string u.b, .string u.c, .int .i64 u.tm, .int .i64 u.ex, .int .i64 u.kv, .slice SA sn scap, .bool b.l, .string b.a, .string b.b, .string b.c, .int .i64 b.tm, .int .i64 b.ex, .int .i64 b.kv, .slice BA mm mm] 49)) := (Below.refl _ _).alloc (Nat.le_refl _) _
                have XB : BoxAt (w11.alloc (.cells #[.bool t.l, .string t.a, .string t.b, .string t.c, .int .i64 t.tm, .int .i64 t.ex, .int .i64 t.kv, .slice TA tn tcap, .bool u.l, .string u.a, .string u.b, .string u.c, .int .i64 u.tm, .int .i64 u.ex, .int .i64 u.kv, .slice SA sn scap, .bool b.l, .string b.a, .string b.b, .string b.c, .int .i64 b.tm, .int .i64 b.ex, .int .i64 b.kv, .slice BA mm mm] 49)) w11.heap.size [.bool t.l, .string t.a, .string t.b, .string t.c, .int .i64 t.tm, .int .i64 t.ex, .int .i64 t.kv, .slice TA tn tcap, .bool u.l, .string u.a, .string u.b, .string u.c, .int .i64 u.tm, .int .i64 u.ex, .int .i64 u.kv, .slice SA sn scap, .bool b.l, .string b.a, .string b.b, .string b.c, .int .i64 b.tm, .int .i64 b.ex, .int .i64 b.kv, .slice BA mm mm] := BoxAt.new w11 [.bool t.l, .string t.a, .string t.b, .string t.c, .int .i64 t.tm, .int .i64 t.ex, .int .i64 t.kv, .slice TA tn tcap, .bool u.l, .string u.a, .string u.b, .string u.c, .int .i64 u.tm, .int .i64 u.ex, .int .i64 u.kv, .slice SA sn scap, .bool b.l, .string b.a, .string b.b, .string b.c, .int .i64 b.tm, .int .i64 b.ex, .int .i64 b.kv, .slice BA mm mm] 49
                have hSn := (And.intro (below_keep hb hS.1) (And.intro (hS.2.1.keep hb) (hS.2.2.keep hb)))

                obtain ⟨G, hG⟩ : ∃ G, G = w11.heap.size := ⟨_, rfl⟩
                rw [← hG] at XB

                rw [← hG]
                clear hG hb
                generalize (w11.alloc (.cells #[.bool t.l, .string t.a, .string t.b, .string t.c, .int .i64 t.tm, .int .i64 t.ex, .int .i64 t.kv, .slice TA tn tcap, .bool u.l, .string u.a, .string u.b, .string u.c, .int .i64 u.tm, .int .i64 u.ex, .int .i64 u.kv, .slice SA sn scap, .bool b.l, .string b.a, .string b.b, .string b.c, .int .i64 b.tm, .int .i64 b.ex, .int .i64 b.kv, .slice BA mm mm] 49)) = w12 at XB hSn ⊢
                refine hK.out _ _ hSn (fun hS2 => ?_)
                clear hK K hS2
                refine held_grow (S' := (fun W => Below wr.heap.size wr W ∧ RpAt W w.heap.size t TA tn tcap ∧ RpAt W bg b BA mm mm ∧ BoxAt W G [.bool t.l, .string t.a, .string t.b, .string t.c, .int .i64 t.tm, .int .i64 t.ex, .int .i64 t.kv, .slice TA tn tcap, .bool u.l, .string u.a, .string u.b, .string u.c, .int .i64 u.tm, .int .i64 u.ex, .int .i64 u.kv, .slice SA sn scap, .bool b.l, .string b.a, .string b.b, .string b.c, .int .i64 b.tm, .int .i64 b.ex, .int .i64 b.kv, .slice BA mm mm])) (fun W hW => ⟨hW.1, hW.2.1, hW.2.2.1⟩) _ _ _ _ ?_
                replace hS : Below wr.heap.size wr w12 ∧ RpAt w12 w.heap.size t TA tn tcap ∧ RpAt w12 bg b BA mm mm ∧ BoxAt w12 G [.bool t.l, .string t.a, .string t.b, .string t.c, .int .i64 t.tm, .int .i64 t.ex, .int .i64 t.kv, .slice TA tn tcap, .bool u.l, .string u.a, .string u.b, .string u.c, .int .i64 u.tm, .int .i64 u.ex, .int .i64 u.kv, .slice SA sn scap, .bool b.l, .string b.a, .string b.b, .string b.c, .int .i64 b.tm, .int .i64 b.ex, .int .i64 b.kv, .slice BA mm mm] := ⟨hSn.1, hSn.2.1, hSn.2.2, XB⟩
                clear XB
                refine' wpAnyH_take (i := 8) (v := ?vp01_2_8) rfl (by kernel_rfl) (by kernel_rfl) (by kernel_rfl) (fun _ _ _ h => h) (Or.inl ⟨by kernel_rfl, fun W hW => ?yp01_2_8⟩) hS ?rp01_2_8
                case yp01_2_8 => (go_simp; first | done | with_reducible rfl | (rw [if_pos (by omega)]))
                refine' wpAnyH_take (i := 9) (v := ?vp01_2_9) rfl (by kernel_rfl) (by kernel_rfl) (by kernel_rfl) (fun _ _ _ h => h) (Or.inl ⟨by kernel_rfl, fun W hW => ?yp01_2_9⟩) hS ?rp01_2_9
                case yp01_2_9 => (obtain ⟨_, _, _, hbs⟩ := hW; have y0 := hbs.c 0 _ rfl; have y1 := hbs.c 1 _ rfl; have y2 := hbs.c 2 _ rfl; have y3 := hbs.c 3 _ rfl; have y4 := hbs.c 4 _ rfl; have y5 := hbs.c 5 _ rfl; have y6 := hbs.c 6 _ rfl; have y7 := hbs.c 7 _ rfl; go_simp; first | done | with_reducible rfl | (rw [if_pos (by omega)]))
                refine wpAnyH_ready (rs := [10]) (by kernel_rfl) (by simp) ?_
                refine AllReadyH.cons rfl (fun K hK => ?_) AllReadyH.nil
                go_simp
                have hb : Below w12.heap.size w12 (w12.alloc (.cells #[.bool false, .string ⟨#[]⟩, .string ⟨#[]⟩, .string ⟨#[]⟩, .int .i64 0, .int .i64 0, .int .i64 0, .slice none 0 0] 49)) := (Below.refl _ _).alloc (Nat.le_refl _) _
                have XT : BoxAt (w12.alloc (.cells #[.bool false, .string ⟨#[]⟩, .string ⟨#[]⟩, .string ⟨#[]⟩, .int .i64 0, .int .i64 0, .int .i64 0, .slice none 0 0] 49)) w12.heap.size zeroRp := BoxAt.new w12 zeroRp 49
                have hSn := (And.intro (below_keep hb hS.1) (And.intro (hS.2.1.keep hb) (And.intro (hS.2.2.1.keep hb) (hS.2.2.2.keep hb))))
                have hTb := hS.1.size
                have hTbg := Nat.ne_of_lt (cell_lt hS.2.2.1.c0)
                have hTG := hS.2.2.2.lt
                obtain ⟨T, hT⟩ : ∃ T, T = w12.heap.size := ⟨_, rfl⟩
                rw [← hT] at XT hTb hTbg hTG
                rw [← hT]
                clear hT hb
                generalize (w12.alloc (.cells #[.bool false, .string ⟨#[]⟩, .string ⟨#[]⟩, .string ⟨#[]⟩, .int .i64 0, .int .i64 0, .int .i64 0, .slice none 0 0] 49)) = w13 at XT hSn ⊢
                replace XT := Lib.hid XT
                refine hK.out _ _ hSn (fun hS2 => ?_)
                clear hK K hS hSn
                have hS := hS2
                clear hS2
                refine wpAnyH_ready (rs := [11]) (by kernel_rfl) (by simp) ?_
                refine AllReadyH.cons rfl (fun K hK => ?_) AllReadyH.nil
                have xf := XT.out.fz
                have xl := XT.out.lt
                have x0 := XT.out.c 0 _ rfl
                have x1 := XT.out.c 1 _ rfl
                have x2 := XT.out.c 2 _ rfl
                have x3 := XT.out.c 3 _ rfl
                have x4 := XT.out.c 4 _ rfl
                have x5 := XT.out.c 5 _ rfl
                have x6 := XT.out.c 6 _ rfl
                have x7 := XT.out.c 7 _ rfl
                go_simp
                have yT : BoxAt ((((((((w13.setCell ⟨T, 0, none⟩ (.bool t.l)).setCell ⟨T, 1, none⟩ (.string t.a)).setCell ⟨T, 2, none⟩ (.string t.b)).setCell ⟨T, 3, none⟩ (.string t.c)).setCell ⟨T, 4, none⟩ (.int .i64 t.tm)).setCell ⟨T, 5, none⟩ (.int .i64 t.ex)).setCell ⟨T, 6, none⟩ (.int .i64 t.kv)).setCell ⟨T, 7, none⟩ (.slice TA tn tcap)) T (rpL t TA tn tcap) := ((((((((XT.out.set 0 (.bool t.l) (by simp [zeroRp])).set 1 (.string t.a) (by simp [zeroRp])).set 2 (.string t.b) (by simp [zeroRp])).set 3 (.string t.c) (by simp [zeroRp])).set 4 (.int .i64 t.tm) (by simp [zeroRp])).set 5 (.int .i64 t.ex) (by simp [zeroRp])).set 6 (.int .i64 t.kv) (by simp [zeroRp])).set 7 (.slice TA tn tcap) (by simp [zeroRp]))
                have gT : w13.grownBy ((((((((w13.setCell ⟨T, 0, none⟩ (.bool t.l)).setCell ⟨T, 1, none⟩ (.string t.a)).setCell ⟨T, 2, none⟩ (.string t.b)).setCell ⟨T, 3, none⟩ (.string t.c)).setCell ⟨T, 4, none⟩ (.int .i64 t.tm)).setCell ⟨T, 5, none⟩ (.int .i64 t.ex)).setCell ⟨T, 6, none⟩ (.int .i64 t.kv)).setCell ⟨T, 7, none⟩ (.slice TA tn tcap)) (some T) := ((((((((grown_set w13 ⟨T, 0, none⟩ (.bool t.l)).trans (grown_set _ ⟨T, 1, none⟩ (.string t.a))).trans (grown_set _ ⟨T, 2, none⟩ (.string t.b))).trans (grown_set _ ⟨T, 3, none⟩ (.string t.c))).trans (grown_set _ ⟨T, 4, none⟩ (.int .i64 t.tm))).trans (grown_set _ ⟨T, 5, none⟩ (.int .i64 t.ex))).trans (grown_set _ ⟨T, 6, none⟩ (.int .i64 t.kv))).trans (grown_set _ ⟨T, 7, none⟩ (.slice TA tn tcap)))
                generalize ((((((((w13.setCell ⟨T, 0, none⟩ (.bool t.l)).setCell ⟨T, 1, none⟩ (.string t.a)).setCell ⟨T, 2, none⟩ (.string t.b)).setCell ⟨T, 3, none⟩ (.string t.c)).setCell ⟨T, 4, none⟩ (.int .i64 t.tm)).setCell ⟨T, 5, none⟩ (.int .i64 t.ex)).setCell ⟨T, 6, none⟩ (.int .i64 t.kv)).setCell ⟨T, 7, none⟩ (.slice TA tn tcap)) = w99 at yT gT ⊢
                have rl := cell_lt Rr.out.c0
                have hSn := And.intro (hS.1.grown gT hS.1.size (fun k e => by cases e; exact hTb)) (And.intro (hS.2.1.grown gT (by simp; omega)) (And.intro (hS.2.2.1.grown gT (by simp; omega)) (hS.2.2.2.grown gT (by simp; omega))))
                refine hK.out _ _ hSn (fun hS2 => ?_)
                clear hK K hS
                refine wpAnyH_done (by kernel_rfl) ?_ _
                go_wp2_with (fail)
                go_meet
                exact ⟨⟨T, t, TA, tn, tcap, rfl, f, RpAt.ofL yT, hT1.out.keep hSn.1, by omega⟩, hSn.1⟩
              · go_simp
                have hb : Below w11.heap.size w11 (w11.alloc (.cells #[.bool false, .string ⟨#[]⟩, .string ⟨#[]⟩, .string ⟨#[]⟩, .int .i64 0, .int .i64 0, .int .i64 0, .slice none 0 0] 49)) := (Below.refl _ _).alloc (Nat.le_refl _) _
                have XT : BoxAt (w11.alloc (.cells #[.bool false, .string ⟨#[]⟩, .string ⟨#[]⟩, .string ⟨#[]⟩, .int .i64 0, .int .i64 0, .int .i64 0, .slice none 0 0] 49)) w11.heap.size zeroRp := BoxAt.new w11 zeroRp 49
                have hSn := (And.intro (below_keep hb hS.1) (And.intro (hS.2.1.keep hb) (hS.2.2.keep hb)))
                have hTb := hS.1.size
                have hTbg := Nat.ne_of_lt (cell_lt hS.2.2.c0)

                obtain ⟨T, hT⟩ : ∃ T, T = w11.heap.size := ⟨_, rfl⟩
                rw [← hT] at XT hTb hTbg
                rw [← hT]
                clear hT hb
                generalize (w11.alloc (.cells #[.bool false, .string ⟨#[]⟩, .string ⟨#[]⟩, .string ⟨#[]⟩, .int .i64 0, .int .i64 0, .int .i64 0, .slice none 0 0] 49)) = w15 at XT hSn ⊢
                replace XT := Lib.hid XT
                refine hK.out _ _ hSn (fun hS2 => ?_)
                clear hK K hS hSn
                have hS := hS2
                clear hS2
                refine wpAnyH_ready (rs := [6]) (by kernel_rfl) (by simp) ?_
                refine AllReadyH.cons rfl (fun K hK => ?_) AllReadyH.nil
                go_simp
                have hb : Below w15.heap.size w15 (w15.alloc (.cells #[.bool t.l, .string t.a, .string t.b, .string t.c, .int .i64 t.tm, .int .i64 t.ex, .int .i64 t.kv, .slice TA tn tcap, .bool u.l, .string u.a, .string u.b, .string u.c, .int .i64 u.tm, .int .i64 u.ex, .int .i64 u.kv, .slice SA sn scap, .bool b.l, .string b.a, .string b.b, .string b.c, .int .i64 b.tm, .int .i64 b.ex, .int .i64 b.kv, .slice BA mm mm] 49)) := (Below.refl _ _).alloc (Nat.le_refl _) _
                have XB : BoxAt (w15.alloc (.cells #[.bool t.l, .string t.a, .string t.b, .string t.c, .int .i64 t.tm, .int .i64 t.ex, .int .i64 t.kv, .slice TA tn tcap, .bool u.l, .string u.a, .string u.b, .string u.c, .int .i64 u.tm, .int .i64 u.ex, .int .i64 u.kv, .slice SA sn scap, .bool b.l, .string b.a, .string b.b, .string b.c, .int .i64 b.tm, .int .i64 b.ex, .int .i64 b.kv, .slice BA mm mm] 49)) w15.heap.size [.bool t.l, .string t.a, .string t.b, .string t.c, .int .i64 t.tm, .int .i64 t.ex, .int .i64 t.kv, .slice TA tn tcap, .bool u.l, .string u.a, .string u.b, .string u.c, .int .i64 u.tm, .int .i64 u.ex, .int .i64 u.kv, .slice SA sn scap, .bool b.l, .string b.a, .string b.b, .string b.c, .int .i64 b.tm, .int .i64 b.ex, .int .i64 b.kv, .slice BA mm mm] := BoxAt.new w15 [.bool t.l, .string t.a, .string t.b, .string t.c, .int .i64 t.tm, .int .i64 t.ex, .int .i64 t.kv, .slice TA tn tcap, .bool u.l, .string u.a, .string u.b, .string u.c, .int .i64 u.tm, .int .i64 u.ex, .int .i64 u.kv, .slice SA sn scap, .bool b.l, .string b.a, .string b.b, .string b.c, .int .i64 b.tm, .int .i64 b.ex, .int .i64 b.kv, .slice BA mm mm] 49
                have hSn := (And.intro (below_keep hb hS.1) (And.intro (hS.2.1.keep hb) (hS.2.2.keep hb)))
                have hTG := XT.out.lt
                replace XT := Lib.hid (XT.out.keep hb)
                obtain ⟨G, hG⟩ : ∃ G, G = w15.heap.size := ⟨_, rfl⟩
                rw [← hG] at XB
                rw [← hG] at hTG
                rw [← hG]
                clear hG hb
                generalize (w15.alloc (.cells #[.bool t.l, .string t.a, .string t.b, .string t.c, .int .i64 t.tm, .int .i64 t.ex, .int .i64 t.kv, .slice TA tn tcap, .bool u.l, .string u.a, .string u.b, .string u.c, .int .i64 u.tm, .int .i64 u.ex, .int .i64 u.kv, .slice SA sn scap, .bool b.l, .string b.a, .string b.b, .string b.c, .int .i64 b.tm, .int .i64 b.ex, .int .i64 b.kv, .slice BA mm mm] 49)) = w16 at XB hSn XT ⊢
                refine hK.out _ _ hSn (fun hS2 => ?_)
                clear hK K hS2
                refine held_grow (S' := (fun W => Below wr.heap.size wr W ∧ RpAt W w.heap.size t TA tn tcap ∧ RpAt W bg b BA mm mm ∧ BoxAt W G [.bool t.l, .string t.a, .string t.b, .string t.c, .int .i64 t.tm, .int .i64 t.ex, .int .i64 t.kv, .slice TA tn tcap, .bool u.l, .string u.a, .string u.b, .string u.c, .int .i64 u.tm, .int .i64 u.ex, .int .i64 u.kv, .slice SA sn scap, .bool b.l, .string b.a, .string b.b, .string b.c, .int .i64 b.tm, .int .i64 b.ex, .int .i64 b.kv, .slice BA mm mm])) (fun W hW => ⟨hW.1, hW.2.1, hW.2.2.1⟩) _ _ _ _ ?_
                replace hS : Below wr.heap.size wr w16 ∧ RpAt w16 w.heap.size t TA tn tcap ∧ RpAt w16 bg b BA mm mm ∧ BoxAt w16 G [.bool t.l, .string t.a, .string t.b, .string t.c, .int .i64 t.tm, .int .i64 t.ex, .int .i64 t.kv, .slice TA tn tcap, .bool u.l, .string u.a, .string u.b, .string u.c, .int .i64 u.tm, .int .i64 u.ex, .int .i64 u.kv, .slice SA sn scap, .bool b.l, .string b.a, .string b.b, .string b.c, .int .i64 b.tm, .int .i64 b.ex, .int .i64 b.kv, .slice BA mm mm] := ⟨hSn.1, hSn.2.1, hSn.2.2, XB⟩
                clear XB
                refine' wpAnyH_take (i := 8) (v := ?vp01_5_6_8) rfl (by kernel_rfl) (by kernel_rfl) (by kernel_rfl) (fun _ _ _ h => h) (Or.inl ⟨by kernel_rfl, fun W hW => ?yp01_5_6_8⟩) hS ?rp01_5_6_8
                case yp01_5_6_8 => (go_simp; first | done | with_reducible rfl | (rw [if_pos (by omega)]))
                refine' wpAnyH_take (i := 9) (v := ?vp01_5_6_9) rfl (by kernel_rfl) (by kernel_rfl) (by kernel_rfl) (fun _ _ _ h => h) (Or.inl ⟨by kernel_rfl, fun W hW => ?yp01_5_6_9⟩) hS ?rp01_5_6_9
                case yp01_5_6_9 => (obtain ⟨_, _, _, hbs⟩ := hW; have y0 := hbs.c 0 _ rfl; have y1 := hbs.c 1 _ rfl; have y2 := hbs.c 2 _ rfl; have y3 := hbs.c 3 _ rfl; have y4 := hbs.c 4 _ rfl; have y5 := hbs.c 5 _ rfl; have y6 := hbs.c 6 _ rfl; have y7 := hbs.c 7 _ rfl; go_simp; first | done | with_reducible rfl | (rw [if_pos (by omega)]))
                refine wpAnyH_ready (rs := [11]) (by kernel_rfl) (by simp) ?_
                refine AllReadyH.cons rfl (fun K hK => ?_) AllReadyH.nil
                have xf := XT.out.fz
                have xl := XT.out.lt
                have x0 := XT.out.c 0 _ rfl
                have x1 := XT.out.c 1 _ rfl
                have x2 := XT.out.c 2 _ rfl
                have x3 := XT.out.c 3 _ rfl
                have x4 := XT.out.c 4 _ rfl
                have x5 := XT.out.c 5 _ rfl
                have x6 := XT.out.c 6 _ rfl
                have x7 := XT.out.c 7 _ rfl
                go_simp
                have yT : BoxAt ((((((((w16.setCell ⟨T, 0, none⟩ (.bool t.l)).setCell ⟨T, 1, none⟩ (.string t.a)).setCell ⟨T, 2, none⟩ (.string t.b)).setCell ⟨T, 3, none⟩ (.string t.c)).setCell ⟨T, 4, none⟩ (.int .i64 t.tm)).setCell ⟨T, 5, none⟩ (.int .i64 t.ex)).setCell ⟨T, 6, none⟩ (.int .i64 t.kv)).setCell ⟨T, 7, none⟩ (.slice TA tn tcap)) T (rpL t TA tn tcap) := ((((((((XT.out.set 0 (.bool t.l) (by simp [zeroRp])).set 1 (.string t.a) (by simp [zeroRp])).set 2 (.string t.b) (by simp [zeroRp])).set 3 (.string t.c) (by simp [zeroRp])).set 4 (.int .i64 t.tm) (by simp [zeroRp])).set 5 (.int .i64 t.ex) (by simp [zeroRp])).set 6 (.int .i64 t.kv) (by simp [zeroRp])).set 7 (.slice TA tn tcap) (by simp [zeroRp]))
                have gT : w16.grownBy ((((((((w16.setCell ⟨T, 0, none⟩ (.bool t.l)).setCell ⟨T, 1, none⟩ (.string t.a)).setCell ⟨T, 2, none⟩ (.string t.b)).setCell ⟨T, 3, none⟩ (.string t.c)).setCell ⟨T, 4, none⟩ (.int .i64 t.tm)).setCell ⟨T, 5, none⟩ (.int .i64 t.ex)).setCell ⟨T, 6, none⟩ (.int .i64 t.kv)).setCell ⟨T, 7, none⟩ (.slice TA tn tcap)) (some T) := ((((((((grown_set w16 ⟨T, 0, none⟩ (.bool t.l)).trans (grown_set _ ⟨T, 1, none⟩ (.string t.a))).trans (grown_set _ ⟨T, 2, none⟩ (.string t.b))).trans (grown_set _ ⟨T, 3, none⟩ (.string t.c))).trans (grown_set _ ⟨T, 4, none⟩ (.int .i64 t.tm))).trans (grown_set _ ⟨T, 5, none⟩ (.int .i64 t.ex))).trans (grown_set _ ⟨T, 6, none⟩ (.int .i64 t.kv))).trans (grown_set _ ⟨T, 7, none⟩ (.slice TA tn tcap)))
                generalize ((((((((w16.setCell ⟨T, 0, none⟩ (.bool t.l)).setCell ⟨T, 1, none⟩ (.string t.a)).setCell ⟨T, 2, none⟩ (.string t.b)).setCell ⟨T, 3, none⟩ (.string t.c)).setCell ⟨T, 4, none⟩ (.int .i64 t.tm)).setCell ⟨T, 5, none⟩ (.int .i64 t.ex)).setCell ⟨T, 6, none⟩ (.int .i64 t.kv)).setCell ⟨T, 7, none⟩ (.slice TA tn tcap)) = w99 at yT gT ⊢
                have rl := cell_lt Rr.out.c0
                have hSn := And.intro (hS.1.grown gT hS.1.size (fun k e => by cases e; exact hTb)) (And.intro (hS.2.1.grown gT (by simp; omega)) (And.intro (hS.2.2.1.grown gT (by simp; omega)) (hS.2.2.2.grown gT (by simp; omega))))
                refine hK.out _ _ hSn (fun hS2 => ?_)
                clear hK K hS
                refine wpAnyH_done (by kernel_rfl) ?_ _
                go_wp2_with (fail)
                go_meet
                exact ⟨⟨T, t, TA, tn, tcap, rfl, f, RpAt.ofL yT, hT1.out.keep hSn.1, by omega⟩, hSn.1⟩
            · go_simp
              have hb : Below w5.heap.size w5 (w5.alloc (.cells #[.bool false, .string ⟨#[]⟩, .string ⟨#[]⟩, .string ⟨#[]⟩, .int .i64 0, .int .i64 0, .int .i64 0, .slice none 0 0] 49)) := (Below.refl _ _).alloc (Nat.le_refl _) _
              have XT : BoxAt (w5.alloc (.cells #[.bool false, .string ⟨#[]⟩, .string ⟨#[]⟩, .string ⟨#[]⟩, .int .i64 0, .int .i64 0, .int .i64 0, .slice none 0 0] 49)) w5.heap.size zeroRp := BoxAt.new w5 zeroRp 49
              have hSn := (And.intro (below_keep hb hS.1) (And.intro (hS.2.1.keep hb) (hS.2.2.keep hb)))
              have hTb := hS.1.size
              have hTbg := Nat.ne_of_lt (cell_lt hS.2.2.c0)

              obtain ⟨T, hT⟩ : ∃ T, T = w5.heap.size := ⟨_, rfl⟩
              rw [← hT] at XT hTb hTbg
              rw [← hT]
              clear hT hb
              generalize (w5.alloc (.cells #[.bool false, .string ⟨#[]⟩, .string ⟨#[]⟩, .string ⟨#[]⟩, .int .i64 0, .int .i64 0, .int .i64 0, .slice none 0 0] 49)) = w18 at XT hSn ⊢
              replace XT := Lib.hid XT
              refine hK.out _ _ hSn (fun hS2 => ?_)
              clear hK K hS hSn
              have hS := hS2
              clear hS2
              refine wpAnyH_ready (rs := [4]) (by kernel_rfl) (by simp) ?_
              refine AllReadyH.cons rfl (fun K hK => ?_) AllReadyH.nil
              go_simp
              refine (reply9_any LA ln lcap ls SA sn scap ss little _ (hL1.out.keep hS.1) (by omega) (hS1.out.keep hS.1)).mono ?_
              rintro e w19 ⟨u, rfl, hzu, fu, hb⟩
              replace fu := Lib.hid fu
              replace hzu := Lib.hid hzu
              unfold S9r.Rp.val S9r.Rp.cells
              go_wp2_with (fail)
              have hSn := (And.intro (below_keep hb hS.1) (And.intro (hS.2.1.keep hb) (hS.2.2.keep hb)))
              replace XT := Lib.hid (XT.out.keep hb)
              clear hb
              refine hK.out _ _ hSn (fun hS2 => ?_)
              clear hK K hS hSn
              have hS := hS2
              clear hS2
              refine wpAnyH_ready (rs := [6]) (by kernel_rfl) (by simp) ?_
              refine AllReadyH.cons rfl (fun K hK => ?_) AllReadyH.nil
              go_simp
              have hb : Below w19.heap.size w19 (w19.alloc (.cells #[.bool t.l, .string t.a, .string t.b, .string t.c, .int .i64 t.tm, .int .i64 t.ex, .int .i64 t.kv, .slice TA tn tcap, .bool u.l, .string u.a, .string u.b, .string u.c, .int .i64 u.tm, .int .i64 u.ex, .int .i64 u.kv, .slice SA sn scap, .bool b.l, .string b.a, .string b.b, .string b.c, .int .i64 b.tm, .int .i64 b.ex, .int .i64 b.kv, .slice BA mm mm] 49)) := (Below.refl _ _).alloc (Nat.le_refl _) _
              have XB : BoxAt (w19.alloc (.cells #[.bool t.l, .string t.a, .string t.b, .string t.c, .int .i64 t.tm, .int .i64 t.ex, .int .i64 t.kv, .slice TA tn tcap, .bool u.l, .string u.a, .string u.b, .string u.c, .int .i64 u.tm, .int .i64 u.ex, .int .i64 u.kv, .slice SA sn scap, .bool b.l, .string b.a, .string b.b, .string b.c, .int .i64 b.tm, .int .i64 b.ex, .int .i64 b.kv, .slice BA mm mm] 49)) w19.heap.size [.bool t.l, .string t.a, .string t.b, .string t.c, .int .i64 t.tm, .int .i64 t.ex, .int .i64 t.kv, .slice TA tn tcap, .bool u.l, .string u.a, .string u.b, .string u.c, .int .i64 u.tm, .int .i64 u.ex, .int .i64 u.kv, .slice SA sn scap, .bool b.l, .string b.a, .string b.b, .string b.c, .int .i64 b.tm, .int .i64 b.ex, .int .i64 b.kv, .slice BA mm mm] := BoxAt.new w19 [.bool t.l, .string t.a, .string t.b, .string t.c, .int .i64 t.tm, .int .i64 t.ex, .int .i64 t.kv, .slice TA tn tcap, .bool u.l, .string u.a, .string u.b, .string u.c, .int .i64 u.tm, .int .i64 u.ex, .int .i64 u.kv, .slice SA sn scap, .bool b.l, .string b.a, .string b.b, .string b.c, .int .i64 b.tm, .int .i64 b.ex, .int .i64 b.kv, .slice BA mm mm] 49
              have hSn := (And.intro (below_keep hb hS.1) (And.intro (hS.2.1.keep hb) (hS.2.2.keep hb)))
              have hTG := XT.out.lt
              replace XT := Lib.hid (XT.out.keep hb)
              obtain ⟨G, hG⟩ : ∃ G, G = w19.heap.size := ⟨_, rfl⟩
              rw [← hG] at XB
              rw [← hG] at hTG
              rw [← hG]
              clear hG hb
              generalize (w19.alloc (.cells #[.bool t.l, .string t.a, .string t.b, .string t.c, .int .i64 t.tm, .int .i64 t.ex, .int .i64 t.kv, .slice TA tn tcap, .bool u.l, .string u.a, .string u.b, .string u.c, .int .i64 u.tm, .int .i64 u.ex, .int .i64 u.kv, .slice SA sn scap, .bool b.l, .string b.a, .string b.b, .string b.c, .int .i64 b.tm, .int .i64 b.ex, .int .i64 b.kv, .slice BA mm mm] 49)) = w20 at XB hSn XT ⊢
              refine hK.out _ _ hSn (fun hS2 => ?_)
              clear hK K hS2
              refine held_grow (S' := (fun W => Below wr.heap.size wr W ∧ RpAt W w.heap.size t TA tn tcap ∧ RpAt W bg b BA mm mm ∧ BoxAt W G [.bool t.l, .string t.a, .string t.b, .string t.c, .int .i64 t.tm, .int .i64 t.ex, .int .i64 t.kv, .slice TA tn tcap, .bool u.l, .string u.a, .string u.b, .string u.c, .int .i64 u.tm, .int .i64 u.ex, .int .i64 u.kv, .slice SA sn scap, .bool b.l, .string b.a, .string b.b, .string b.c, .int .i64 b.tm, .int .i64 b.ex, .int .i64 b.kv, .slice BA mm mm])) (fun W hW => ⟨hW.1, hW.2.1, hW.2.2.1⟩) _ _ _ _ ?_
              replace hS : Below wr.heap.size wr w20 ∧ RpAt w20 w.heap.size t TA tn tcap ∧ RpAt w20 bg b BA mm mm ∧ BoxAt w20 G [.bool t.l, .string t.a, .string t.b, .string t.c, .int .i64 t.tm, .int .i64 t.ex, .int .i64 t.kv, .slice TA tn tcap, .bool u.l, .string u.a, .string u.b, .string u.c, .int .i64 u.tm, .int .i64 u.ex, .int .i64 u.kv, .slice SA sn scap, .bool b.l, .string b.a, .string b.b, .string b.c, .int .i64 b.tm, .int .i64 b.ex, .int .i64 b.kv, .slice BA mm mm] := ⟨hSn.1, hSn.2.1, hSn.2.2, XB⟩
              clear XB
              refine' wpAnyH_take (i := 8) (v := ?vp08_9_10_8) rfl (by kernel_rfl) (by kernel_rfl) (by kernel_rfl) (fun _ _ _ h => h) (Or.inl ⟨by kernel_rfl, fun W hW => ?yp08_9_10_8⟩) hS ?rp08_9_10_8
              case yp08_9_10_8 => (go_simp; first | done | with_reducible rfl | (rw [if_pos (by omega)]))
              refine' wpAnyH_take (i := 9) (v := ?vp08_9_10_9) rfl (by kernel_rfl) (by kernel_rfl) (by kernel_rfl) (fun _ _ _ h => h) (Or.inl ⟨by kernel_rfl, fun W hW => ?yp08_9_10_9⟩) hS ?rp08_9_10_9
              case yp08_9_10_9 => (obtain ⟨_, _, _, hbs⟩ := hW; have y0 := hbs.c 0 _ rfl; have y1 := hbs.c 1 _ rfl; have y2 := hbs.c 2 _ rfl; have y3 := hbs.c 3 _ rfl; have y4 := hbs.c 4 _ rfl; have y5 := hbs.c 5 _ rfl; have y6 := hbs.c 6 _ rfl; have y7 := hbs.c 7 _ rfl; go_simp; first | done | with_reducible rfl | (rw [if_pos (by omega)]))
              refine wpAnyH_ready (rs := [11]) (by kernel_rfl) (by simp) ?_
              refine AllReadyH.cons rfl (fun K hK => ?_) AllReadyH.nil
              have xf := XT.out.fz
              have xl := XT.out.lt
              have x0 := XT.out.c 0 _ rfl
              have x1 := XT.out.c 1 _ rfl
              have x2 := XT.out.c 2 _ rfl
              have x3 := XT.out.c 3 _ rfl
              have x4 := XT.out.c 4 _ rfl
              have x5 := XT.out.c 5 _ rfl
              have x6 := XT.out.c 6 _ rfl
              have x7 := XT.out.c 7 _ rfl
              go_simp
              have yT : BoxAt ((((((((w20.setCell ⟨T, 0, none⟩ (.bool t.l)).setCell ⟨T, 1, none⟩ (.string t.a)).setCell ⟨T, 2, none⟩ (.string t.b)).setCell ⟨T, 3, none⟩ (.string t.c)).setCell ⟨T, 4, none⟩ (.int .i64 t.tm)).setCell ⟨T, 5, none⟩ (.int .i64 t.ex)).setCell ⟨T, 6, none⟩ (.int .i64 t.kv)).setCell ⟨T, 7, none⟩ (.slice TA tn tcap)) T (rpL t TA tn tcap) := ((((((((XT.out.set 0 (.bool t.l) (by simp [zeroRp])).set 1 (.string t.a) (by simp [zeroRp])).set 2 (.string t.b) (by simp [zeroRp])).set 3 (.string t.c) (by simp [zeroRp])).set 4 (.int .i64 t.tm) (by simp [zeroRp])).set 5 (.int .i64 t.ex) (by simp [zeroRp])).set 6 (.int .i64 t.kv) (by simp [zeroRp])).set 7 (.slice TA tn tcap) (by simp [zeroRp]))
              have gT : w20.grownBy ((((((((w20.setCell ⟨T, 0, none⟩ (.bool t.l)).setCell ⟨T, 1, none⟩ (.string t.a)).setCell ⟨T, 2, none⟩ (.string t.b)).setCell ⟨T, 3, none⟩ (.string t.c)).setCell ⟨T, 4, none⟩ (.int .i64 t.tm)).setCell ⟨T, 5, none⟩ (.int .i64 t.ex)).setCell ⟨T, 6, none⟩ (.int .i64 t.kv)).setCell ⟨T, 7, none⟩ (.slice TA tn tcap)) (some T) := ((((((((grown_set w20 ⟨T, 0, none⟩ (.bool t.l)).trans (grown_set _ ⟨T, 1, none⟩ (.string t.a))).trans (grown_set _ ⟨T, 2, none⟩ (.string t.b))).trans (grown_set _ ⟨T, 3, none⟩ (.string t.c))).trans (grown_set _ ⟨T, 4, none⟩ (.int .i64 t.tm))).trans (grown_set _ ⟨T, 5, none⟩ (.int .i64 t.ex))).trans (grown_set _ ⟨T, 6, none⟩ (.int .i64 t.kv))).trans (grown_set _ ⟨T, 7, none⟩ (.slice TA tn tcap)))
              generalize ((((((((w20.setCell ⟨T, 0, none⟩ (.bool t.l)).setCell ⟨T, 1, none⟩ (.string t.a)).setCell ⟨T, 2, none⟩ (.string t.b)).setCell ⟨T, 3, none⟩ (.string t.c)).setCell ⟨T, 4, none⟩ (.int .i64 t.tm)).setCell ⟨T, 5, none⟩ (.int .i64 t.ex)).setCell ⟨T, 6, none⟩ (.int .i64 t.kv)).setCell ⟨T, 7, none⟩ (.slice TA tn tcap)) = w99 at yT gT ⊢
              have rl := cell_lt Rr.out.c0
              have hSn := And.intro (hS.1.grown gT hS.1.size (fun k e => by cases e; exact hTb)) (And.intro (hS.2.1.grown gT (by simp; omega)) (And.intro (hS.2.2.1.grown gT (by simp; omega)) (hS.2.2.2.grown gT (by simp; omega))))
              refine hK.out _ _ hSn (fun hS2 => ?_)
              clear hK K hS
              refine wpAnyH_done (by kernel_rfl) ?_ _
              go_wp2_with (fail)
              go_meet
              exact ⟨⟨T, t, TA, tn, tcap, rfl, f, RpAt.ofL yT, hT1.out.keep hSn.1, by omega⟩, hSn.1⟩
          · refine wp_region_held_drew (S := (fun W => Below wr.heap.size wr W ∧ RpAt W w.heap.size t TA tn tcap ∧ RpAt W bg b BA mm mm)) (by kernel_rfl) ⟨(Below.refl _ _).drew, Rr.out.drew, Rb.out.drew⟩ (fun hS => ?_)
            generalize wr.drew = w5 at hS ⊢
            refine' wpAnyH_take (i := 0) (v := ?vp10) rfl (by kernel_rfl) (by kernel_rfl) (by kernel_rfl) (fun _ _ _ h => h) (Or.inl ⟨by kernel_rfl, fun W hW => ?yp10⟩) hS ?rp10
            case yp10 => (obtain ⟨x0, x1, x2, x3, x4, x5, x6, x7⟩ := hW.2.1; go_simp; first | done | with_reducible rfl | (rw [if_pos (by omega)]))
            refine' wpAnyH_take (i := 1) (v := ?vp11) rfl (by kernel_rfl) (by kernel_rfl) (by kernel_rfl) (fun _ _ _ h => h) (Or.inl ⟨by kernel_rfl, fun W hW => ?yp11⟩) hS ?rp11
            case yp11 => (go_simp; first | done | with_reducible rfl | (rw [if_pos (by omega)]))
            refine' wpAnyH_take (i := 2) (v := ?vp12) rfl (by kernel_rfl) (by kernel_rfl) (by kernel_rfl) (fun _ _ _ h => h) (Or.inl ⟨by kernel_rfl, fun W hW => ?yp12⟩) hS ?rp12
            case yp12 => (go_simp; first | done | with_reducible rfl | (rw [if_pos (by omega)]))
            refine' wpAnyH_take (i := 3) (v := ?vp13) rfl (by kernel_rfl) (by kernel_rfl) (by kernel_rfl) (fun _ _ _ h => h) (Or.inl ⟨by kernel_rfl, fun W hW => ?yp13⟩) hS ?rp13
            case yp13 => (go_simp; first | done | with_reducible rfl | (rw [if_pos (by omega)]))
            refine' wpAnyH_take (i := 5) (v := ?vp15) rfl (by kernel_rfl) (by kernel_rfl) (by kernel_rfl) (fun _ _ _ h => h) (Or.inl ⟨by kernel_rfl, fun W hW => ?yp15⟩) hS ?rp15
            case yp15 => (obtain ⟨x0, x1, x2, x3, x4, x5, x6, x7⟩ := hW.2.2; go_simp; first | done | with_reducible rfl | (rw [if_pos (by omega)]))
            refine' wpAnyH_take (i := 7) (v := ?vp17) rfl (by kernel_rfl) (by kernel_rfl) (by kernel_rfl) (fun _ _ _ h => h) (Or.inl ⟨by kernel_rfl, fun W hW => ?yp17⟩) hS ?rp17
            case yp17 => (go_simp; first | done | with_reducible rfl | (rw [if_pos (by omega)]))
            refine wpAnyH_ready (rs := [4, 10]) (by kernel_rfl) (by simp) ?_
            refine AllReadyH.cons rfl (fun K hK => ?_) (AllReadyH.cons rfl (fun K hK => ?_) AllReadyH.nil)
            · go_simp
              refine (reply9_any LA ln lcap ls SA sn scap ss little _ (hL1.out.keep hS.1) (by omega) (hS1.out.keep hS.1)).mono ?_
              rintro e w22 ⟨u, rfl, hzu, fu, hb⟩
              replace fu := Lib.hid fu
              replace hzu := Lib.hid hzu
              unfold S9r.Rp.val S9r.Rp.cells
              go_wp2_with (fail)
              have hSn := (And.intro (below_keep hb hS.1) (And.intro (hS.2.1.keep hb) (hS.2.2.keep hb)))
              clear hb
              refine hK.out _ _ hSn (fun hS2 => ?_)
              clear hK K hS hSn
              have hS := hS2
              clear hS2
              refine wpAnyH_ready (rs := [6, 10]) (by kernel_rfl) (by simp) ?_
              refine AllReadyH.cons rfl (fun K hK => ?_) (AllReadyH.cons rfl (fun K hK => ?_) AllReadyH.nil)
              · go_simp
                have hb : Below w22.heap.size w22 (w22.alloc (.cells #[.bool t.l, .string t.a, .string t.b, .string t.c, .int .i64 t.tm, .int .i64 t.ex, .int .i64 t.kv, .slice TA tn tcap, .bool u.l, .string u.a, .string u.b, .string u.c, .int .i64 u.tm, .int .i64 u.ex, .int .i64 u.kv, .slice SA sn scap, .bool b.l, .string b.a, .string b.b, .string b.c, .int .i64 b.tm, .int .i64 b.ex, .int .i64 b.kv, .slice BA mm mm] 49)) := (Below.refl _ _).alloc (Nat.le_refl _) _
                have XB : BoxAt (w22.alloc (.cells #[.bool t.l, .string t.a, .string t.b, .string t.c, .int .i64 t.tm, .int .i64 t.ex, .int .i64 t.kv, .slice TA tn tcap, .bool u.l, .string u.a, .string u.b, .string u.c, .int .i64 u.tm, .int .i64 u.ex, .int .i64 u.kv, .slice SA sn scap, .bool b.l, .string b.a, .string b.b, .string b.c, .int .i64 b.tm, .int .i64 b.ex, .int .i64 b.kv, .slice BA mm mm] 49)) w22.heap.size [.bool t.l, .string t.a, .string t.b, .string t.c, .int .i64 t.tm, .int .i64 t.ex, .int .i64 t.kv, .slice TA tn tcap, .bool u.l, .string u.a, .string u.b, .string u.c, .int .i64 u.tm, .int .i64 u.ex, .int .i64 u.kv, .slice SA sn scap, .bool b.l, .string b.a, .string b.b, .string b.c, .int .i64 b.tm, .int .i64 b.ex, .int .i64 b.kv, .slice BA mm mm] := BoxAt.new w22 [.bool t.l, .string t.a, .string t.b, .string t.c, .int .i64 t.tm, .int .i64 t.ex, .int .i64 t.kv, .slice TA tn tcap, .bool u.l, .string u.a, .string u.b, .string u.c, .int .i64 u.tm, .int .i64 u.ex, .int .i64 u.kv, .slice SA sn scap, .bool b.l, .string b.a, .string b.b, .string b.c, .int .i64 b.tm, .int .i64 b.ex, .int .i64 b.kv, .slice BA mm mm] 49
                have hSn := (And.intro (below_keep hb hS.1) (And.intro (hS.2.1.keep hb) (hS.2.2.keep hb)))

                obtain ⟨G, hG⟩ : ∃ G, G = w22.heap.size := ⟨_, rfl⟩
                rw [← hG] at XB

                rw [← hG]
                clear hG hb
                generalize (w22.alloc (.cells #[.bool t.l, .string t.a, .string t.b, .string t.c, .int .i64 t.tm, .int .i64 t.ex, .int .i64 t.kv, .slice TA tn tcap, .bool u.l, .string u.a, .string u.b, .string u.c, .int .i64 u.tm, .int .i64 u.ex, .int .i64 u.kv, .slice SA sn scap, .bool b.l, .string b.a, .string b.b, .string b.c, .int .i64 b.tm, .int .i64 b.ex, .int .i64 b.kv, .slice BA mm mm] 49)) = w23 at XB hSn ⊢
                refine hK.out _ _ hSn (fun hS2 => ?_)
                clear hK K hS2
                refine held_grow (S' := (fun W => Below wr.heap.size wr W ∧ RpAt W w.heap.size t TA tn tcap ∧ RpAt W bg b BA mm mm ∧ BoxAt W G [.bool t.l, .string t.a, .string t.b, .string t.c, .int .i64 t.tm, .int .i64 t.ex, .int .i64 t.kv, .slice TA tn tcap, .bool u.l, .string u.a, .string u.b, .string u.c, .int .i64 u.tm, .int .i64 u.ex, .int .i64 u.kv, .slice SA sn scap, .bool b.l, .string b.a, .string b.b, .string b.c, .int .i64 b.tm, .int .i64 b.ex, .int .i64 b.kv, .slice BA mm mm])) (fun W hW => ⟨hW.1, hW.2.1, hW.2.2.1⟩) _ _ _ _ ?_
                replace hS : Below wr.heap.size wr w23 ∧ RpAt w23 w.heap.size t TA tn tcap ∧ RpAt w23 bg b BA mm mm ∧ BoxAt w23 G [.bool t.l, .string t.a, .string t.b, .string t.c, .int .i64 t.tm, .int .i64 t.ex, .int .i64 t.kv, .slice TA tn tcap, .bool u.l, .string u.a, .string u.b, .string u.c, .int .i64 u.tm, .int .i64 u.ex, .int .i64 u.kv, .slice SA sn scap, .bool b.l, .string b.a, .string b.b, .string b.c, .int .i64 b.tm, .int .i64 b.ex, .int .i64 b.kv, .slice BA mm mm] := ⟨hSn.1, hSn.2.1, hSn.2.2, XB⟩
                clear XB
                refine' wpAnyH_take (i := 8) (v := ?vp112_13_8) rfl (by kernel_rfl) (by kernel_rfl) (by kernel_rfl) (fun _ _ _ h => h) (Or.inl ⟨by kernel_rfl, fun W hW => ?yp112_13_8⟩) hS ?rp112_13_8
                case yp112_13_8 => (go_simp; first | done | with_reducible rfl | (rw [if_pos (by omega)]))
                refine' wpAnyH_take (i := 9) (v := ?vp112_13_9) rfl (by kernel_rfl) (by kernel_rfl) (by kernel_rfl) (fun _ _ _ h => h) (Or.inl ⟨by kernel_rfl, fun W hW => ?yp112_13_9⟩) hS ?rp112_13_9
                case yp112_13_9 => (obtain ⟨_, _, _, hbs⟩ := hW; have y0 := hbs.c 8 _ rfl; have y1 := hbs.c 9 _ rfl; have y2 := hbs.c 10 _ rfl; have y3 := hbs.c 11 _ rfl; have y4 := hbs.c 12 _ rfl; have y5 := hbs.c 13 _ rfl; have y6 := hbs.c 14 _ rfl; have y7 := hbs.c 15 _ rfl; go_simp; first | done | with_reducible rfl | (rw [if_pos (by omega)]))
                refine wpAnyH_ready (rs := [10]) (by kernel_rfl) (by simp) ?_
                refine AllReadyH.cons rfl (fun K hK => ?_) AllReadyH.nil
                go_simp
                have hb : Below w23.heap.size w23 (w23.alloc (.cells #[.bool false, .string ⟨#[]⟩, .string ⟨#[]⟩, .string ⟨#[]⟩, .int .i64 0, .int .i64 0, .int .i64 0, .slice none 0 0] 49)) := (Below.refl _ _).alloc (Nat.le_refl _) _
                have XT : BoxAt (w23.alloc (.cells #[.bool false, .string ⟨#[]⟩, .string ⟨#[]⟩, .string ⟨#[]⟩, .int .i64 0, .int .i64 0, .int .i64 0, .slice none 0 0] 49)) w23.heap.size zeroRp := BoxAt.new w23 zeroRp 49
                have hSn := (And.intro (below_keep hb hS.1) (And.intro (hS.2.1.keep hb) (And.intro (hS.2.2.1.keep hb) (hS.2.2.2.keep hb))))
                have hTb := hS.1.size
                have hTbg := Nat.ne_of_lt (cell_lt hS.2.2.1.c0)
                have hTG := hS.2.2.2.lt
                obtain ⟨T, hT⟩ : ∃ T, T = w23.heap.size := ⟨_, rfl⟩
                rw [← hT] at XT hTb hTbg hTG
                rw [← hT]
                clear hT hb
                generalize (w23.alloc (.cells #[.bool false, .string ⟨#[]⟩, .string ⟨#[]⟩, .string ⟨#[]⟩, .int .i64 0, .int .i64 0, .int .i64 0, .slice none 0 0] 49)) = w24 at XT hSn ⊢
                replace XT := Lib.hid XT
                refine hK.out _ _ hSn (fun hS2 => ?_)
                clear hK K hS hSn
                have hS := hS2
                clear hS2
                refine wpAnyH_ready (rs := [11]) (by kernel_rfl) (by simp) ?_
                refine AllReadyH.cons rfl (fun K hK => ?_) AllReadyH.nil
                have xf := XT.out.fz
                have xl := XT.out.lt
                have x0 := XT.out.c 0 _ rfl
                have x1 := XT.out.c 1 _ rfl
                have x2 := XT.out.c 2 _ rfl
                have x3 := XT.out.c 3 _ rfl
                have x4 := XT.out.c 4 _ rfl
                have x5 := XT.out.c 5 _ rfl
                have x6 := XT.out.c 6 _ rfl
                have x7 := XT.out.c 7 _ rfl
                go_simp
                have yT : BoxAt ((((((((w24.setCell ⟨T, 0, none⟩ (.bool u.l)).setCell ⟨T, 1, none⟩ (.string u.a)).setCell ⟨T, 2, none⟩ (.string u.b)).setCell ⟨T, 3, none⟩ (.string u.c)).setCell ⟨T, 4, none⟩ (.int .i64 u.tm)).setCell ⟨T, 5, none⟩ (.int .i64 u.ex)).setCell ⟨T, 6, none⟩ (.int .i64 u.kv)).setCell ⟨T, 7, none⟩ (.slice SA sn scap)) T (rpL u SA sn scap) := ((((((((XT.out.set 0 (.bool u.l) (by simp [zeroRp])).set 1 (.string u.a) (by simp [zeroRp])).set 2 (.string u.b) (by simp [zeroRp])).set 3 (.string u.c) (by simp [zeroRp])).set 4 (.int .i64 u.tm) (by simp [zeroRp])).set 5 (.int .i64 u.ex) (by simp [zeroRp])).set 6 (.int .i64 u.kv) (by simp [zeroRp])).set 7 (.slice SA sn scap) (by simp [zeroRp]))
                have gT : w24.grownBy ((((((((w24.setCell ⟨T, 0, none⟩ (.bool u.l)).setCell ⟨T, 1, none⟩ (.string u.a)).setCell ⟨T, 2, none⟩ (.string u.b)).setCell ⟨T, 3, none⟩ (.string u.c)).setCell ⟨T, 4, none⟩ (.int .i64 u.tm)).setCell ⟨T, 5, none⟩ (.int .i64 u.ex)).setCell ⟨T, 6, none⟩ (.int .i64 u.kv)).setCell ⟨T, 7, none⟩ (.slice SA sn scap)) (some T) := ((((((((grown_set w24 ⟨T, 0, none⟩ (.bool u.l)).trans (grown_set _ ⟨T, 1, none⟩ (.string u.a))).trans (grown_set _ ⟨T, 2, none⟩ (.string u.b))).trans (grown_set _ ⟨T, 3, none⟩ (.string u.c))).trans (grown_set _ ⟨T, 4, none⟩ (.int .i64 u.tm))).trans (grown_set _ ⟨T, 5, none⟩ (.int .i64 u.ex))).trans (grown_set _ ⟨T, 6, none⟩ (.int .i64 u.kv))).trans (grown_set _ ⟨T, 7, none⟩ (.slice SA sn scap)))
                generalize ((((((((w24.setCell ⟨T, 0, none⟩ (.bool u.l)).setCell ⟨T, 1, none⟩ (.string u.a)).setCell ⟨T, 2, none⟩ (.string u.b)).setCell ⟨T, 3, none⟩ (.string u.c)).setCell ⟨T, 4, none⟩ (.int .i64 u.tm)).setCell ⟨T, 5, none⟩ (.int .i64 u.ex)).setCell ⟨T, 6, none⟩ (.int .i64 u.kv)).setCell ⟨T, 7, none⟩ (.slice SA sn scap)) = w99 at yT gT ⊢
                have rl := cell_lt Rr.out.c0
                have hSn := And.intro (hS.1.grown gT hS.1.size (fun k e => by cases e; exact hTb)) (And.intro (hS.2.1.grown gT (by simp; omega)) (And.intro (hS.2.2.1.grown gT (by simp; omega)) (hS.2.2.2.grown gT (by simp; omega))))
                refine hK.out _ _ hSn (fun hS2 => ?_)
                clear hK K hS
                refine wpAnyH_done (by kernel_rfl) ?_ _
                go_wp2_with (fail)
                go_meet
                exact ⟨⟨T, u, SA, sn, scap, rfl, fu.out, RpAt.ofL yT, (by rw [hzu.out]; exact hS1.out.keep hSn.1), by omega⟩, hSn.1⟩
              · go_simp
                have hb : Below w22.heap.size w22 (w22.alloc (.cells #[.bool false, .string ⟨#[]⟩, .string ⟨#[]⟩, .string ⟨#[]⟩, .int .i64 0, .int .i64 0, .int .i64 0, .slice none 0 0] 49)) := (Below.refl _ _).alloc (Nat.le_refl _) _
                have XT : BoxAt (w22.alloc (.cells #[.bool false, .string ⟨#[]⟩, .string ⟨#[]⟩, .string ⟨#[]⟩, .int .i64 0, .int .i64 0, .int .i64 0, .slice none 0 0] 49)) w22.heap.size zeroRp := BoxAt.new w22 zeroRp 49
                have hSn := (And.intro (below_keep hb hS.1) (And.intro (hS.2.1.keep hb) (hS.2.2.keep hb)))
                have hTb := hS.1.size
                have hTbg := Nat.ne_of_lt (cell_lt hS.2.2.c0)

                obtain ⟨T, hT⟩ : ∃ T, T = w22.heap.size := ⟨_, rfl⟩
                rw [← hT] at XT hTb hTbg
                rw [← hT]
                clear hT hb
                generalize (w22.alloc (.cells #[.bool false, .string ⟨#[]⟩, .string ⟨#[]⟩, .string ⟨#[]⟩, .int .i64 0, .int .i64 0, .int .i64 0, .slice none 0 0] 49)) = w26 at XT hSn ⊢
                replace XT := Lib.hid XT
                refine hK.out _ _ hSn (fun hS2 => ?_)
                clear hK K hS hSn
                have hS := hS2
                clear hS2
                refine wpAnyH_ready (rs := [6]) (by kernel_rfl) (by simp) ?_
                refine AllReadyH.cons rfl (fun K hK => ?_) AllReadyH.nil
                go_simp
                have hb : Below w26.heap.size w26 (w26.alloc (.cells #[.bool t.l, .string t.a, .string t.b, .string t.c, .int .i64 t.tm, .int .i64 t.ex, .int .i64 t.kv, .slice TA tn tcap, .bool u.l, .string u.a, .string u.b, .string u.c, .int .i64 u.tm, .int .i64 u.ex, .int .i64 u.kv, .slice SA sn scap, .bool b.l, .string b.a, .string b.b, .string b.c, .int .i64 b.tm, .int .i64 b.ex, .int .i64 b.kv, .slice BA mm mm] 49)) := (Below.refl _ _).alloc (Nat.le_refl _) _
                have XB : BoxAt (w26.alloc (.cells #[.bool t.l, .string t.a, .string t.b, .string t.c, .int .i64 t.tm, .int .i64 t.ex, .int .i64 t.kv, .slice TA tn tcap, .bool u.l, .string u.a, .string u.b, .string u.c, .int .i64 u.tm, .int .i64 u.ex, .int .i64 u.kv, .slice SA sn scap, .bool b.l, .string b.a, .string b.b, .string b.c, .int .i64 b.tm, .int .i64 b.ex, .int .i64 b.kv, .slice BA mm mm] 49)) w26.heap.size [.bool t.l, .string t.a, .string t.b, .string t.c, .int .i64 t.tm, .int .i64 t.ex, .int .i64 t.kv, .slice TA tn tcap, .bool u.l, .string u.a, .string u.b, .string u.c, .int .i64 u.tm, .int .i64 u.ex, .int .i64 u.kv, .slice SA sn scap, .bool b.l, .string b.a, .string b.b, .string b.c, .int .i64 b.tm, .int .i64 b.ex, .int .i64 b.kv, .slice BA mm mm] := BoxAt.new w26 [.bool t.l, .string t.a, .string t.b, .string t.c, .int .i64 t.tm, .int .i64 t.ex, .int .i64 t.kv, .slice TA tn tcap, .bool u.l, .string u.a, .string u.b, .string u.c, .int .i64 u.tm, .int .i64 u.ex, .int .i64 u.kv, .slice SA sn scap, .bool b.l, .string b.a, .string b.b, .string b.c, .int .i64 b.tm, .int .i64 b.ex, .int .i64 b.kv, .slice BA mm mm] 49
                have hSn := (And.intro (below_keep hb hS.1) (And.intro (hS.2.1.keep hb) (hS.2.2.keep hb)))
                have hTG := XT.out.lt
                replace XT := Lib.hid (XT.out.keep hb)
                obtain ⟨G, hG⟩ : ∃ G, G = w26.heap.size := ⟨_, rfl⟩
                rw [← hG] at XB
                rw [← hG] at hTG
                rw [← hG]
                clear hG hb
                generalize (w26.alloc (.cells #[.bool t.l, .string t.a, .string t.b, .string t.c, .int .i64 t.tm, .int .i64 t.ex, .int .i64 t.kv, .slice TA tn tcap, .bool u.l, .string u.a, .string u.b, .string u.c, .int .i64 u.tm, .int .i64 u.ex, .int .i64 u.kv, .slice SA sn scap, .bool b.l, .string b.a, .string b.b, .string b.c, .int .i64 b.tm, .int .i64 b.ex, .int .i64 b.kv, .slice BA mm mm] 49)) = w27 at XB hSn XT ⊢
                refine hK.out _ _ hSn (fun hS2 => ?_)
                clear hK K hS2
                refine held_grow (S' := (fun W => Below wr.heap.size wr W ∧ RpAt W w.heap.size t TA tn tcap ∧ RpAt W bg b BA mm mm ∧ BoxAt W G [.bool t.l, .string t.a, .string t.b, .string t.c, .int .i64 t.tm, .int .i64 t.ex, .int .i64 t.kv, .slice TA tn tcap, .bool u.l, .string u.a, .string u.b, .string u.c, .int .i64 u.tm, .int .i64 u.ex, .int .i64 u.kv, .slice SA sn scap, .bool b.l, .string b.a, .string b.b, .string b.c, .int .i64 b.tm, .int .i64 b.ex, .int .i64 b.kv, .slice BA mm mm])) (fun W hW => ⟨hW.1, hW.2.1, hW.2.2.1⟩) _ _ _ _ ?_
                replace hS : Below wr.heap.size wr w27 ∧ RpAt w27 w.heap.size t TA tn tcap ∧ RpAt w27 bg b BA mm mm ∧ BoxAt w27 G [.bool t.l, .string t.a, .string t.b, .string t.c, .int .i64 t.tm, .int .i64 t.ex, .int .i64 t.kv, .slice TA tn tcap, .bool u.l, .string u.a, .string u.b, .string u.c, .int .i64 u.tm, .int .i64 u.ex, .int .i64 u.kv, .slice SA sn scap, .bool b.l, .string b.a, .string b.b, .string b.c, .int .i64 b.tm, .int .i64 b.ex, .int .i64 b.kv, .slice BA mm mm] := ⟨hSn.1, hSn.2.1, hSn.2.2, XB⟩
                clear XB
                refine' wpAnyH_take (i := 8) (v := ?vp112_16_17_8) rfl (by kernel_rfl) (by kernel_rfl) (by kernel_rfl) (fun _ _ _ h => h) (Or.inl ⟨by kernel_rfl, fun W hW => ?yp112_16_17_8⟩) hS ?rp112_16_17_8
                case yp112_16_17_8 => (go_simp; first | done | with_reducible rfl | (rw [if_pos (by omega)]))
                refine' wpAnyH_take (i := 9) (v := ?vp112_16_17_9) rfl (by kernel_rfl) (by kernel_rfl) (by kernel_rfl) (fun _ _ _ h => h) (Or.inl ⟨by kernel_rfl, fun W hW => ?yp112_16_17_9⟩) hS ?rp112_16_17_9
                case yp112_16_17_9 => (obtain ⟨_, _, _, hbs⟩ := hW; have y0 := hbs.c 8 _ rfl; have y1 := hbs.c 9 _ rfl; have y2 := hbs.c 10 _ rfl; have y3 := hbs.c 11 _ rfl; have y4 := hbs.c 12 _ rfl; have y5 := hbs.c 13 _ rfl; have y6 := hbs.c 14 _ rfl; have y7 := hbs.c 15 _ rfl; go_simp; first | done | with_reducible rfl | (rw [if_pos (by omega)]))
                refine wpAnyH_ready (rs := [11]) (by kernel_rfl) (by simp) ?_
                refine AllReadyH.cons rfl (fun K hK => ?_) AllReadyH.nil
                have xf := XT.out.fz
                have xl := XT.out.lt
                have x0 := XT.out.c 0 _ rfl
                have x1 := XT.out.c 1 _ rfl
                have x2 := XT.out.c 2 _ rfl
                have x3 := XT.out.c 3 _ rfl
                have x4 := XT.out.c 4 _ rfl
                have x5 := XT.out.c 5 _ rfl
                have x6 := XT.out.c 6 _ rfl
                have x7 := XT.out.c 7 _ rfl
                go_simp
                have yT : BoxAt ((((((((w27.setCell ⟨T, 0, none⟩ (.bool u.l)).setCell ⟨T, 1, none⟩ (.string u.a)).setCell ⟨T, 2, none⟩ (.string u.b)).setCell ⟨T, 3, none⟩ (.string u.c)).setCell ⟨T, 4, none⟩ (.int .i64 u.tm)).setCell ⟨T, 5, none⟩ (.int .i64 u.ex)).setCell ⟨T, 6, none⟩ (.int .i64 u.kv)).setCell ⟨T, 7, none⟩ (.slice SA sn scap)) T (rpL u SA sn scap) := ((((((((XT.out.set 0 (.bool u.l) (by simp [zeroRp])).set 1 (.string u.a) (by simp [zeroRp])).set 2 (.string u.b) (by simp [zeroRp])).set 3 (.string u.c) (by simp [zeroRp])).set 4 (.int .i64 u.tm) (by simp [zeroRp])).set 5 (.int .i64 u.ex) (by simp [zeroRp])).set 6 (.int .i64 u.kv) (by simp [zeroRp])).set 7 (.slice SA sn scap) (by simp [zeroRp]))
                have gT : w27.grownBy ((((((((w27.setCell ⟨T, 0, none⟩ (.bool u.l)).setCell ⟨T, 1, none⟩ (.string u.a)).setCell ⟨T, 2, none⟩ (.string u.b)).setCell ⟨T, 3, none⟩ (.string u.c)).setCell ⟨T, 4, none⟩ (.int .i64 u.tm)).setCell ⟨T, 5, none⟩ (.int .i64 u.ex)).setCell ⟨T, 6, none⟩ (.int .i64 u.kv)).setCell ⟨T, 7, none⟩ (.slice SA sn scap)) (some T) := ((((((((grown_set w27 ⟨T, 0, none⟩ (.bool u.l)).trans (grown_set _ ⟨T, 1, none⟩ (.string u.a))).trans (grown_set _ ⟨T, 2, none⟩ (.string u.b))).trans (grown_set _ ⟨T, 3, none⟩ (.string u.c))).trans (grown_set _ ⟨T, 4, none⟩ (.int .i64 u.tm))).trans (grown_set _ ⟨T, 5, none⟩ (.int .i64 u.ex))).trans (grown_set _ ⟨T, 6, none⟩ (.int .i64 u.kv))).trans (grown_set _ ⟨T, 7, none⟩ (.slice SA sn scap)))
                generalize ((((((((w27.setCell ⟨T, 0, none⟩ (.bool u.l)).setCell ⟨T, 1, none⟩ (.string u.a)).setCell ⟨T, 2, none⟩ (.string u.b)).setCell ⟨T, 3, none⟩ (.string u.c)).setCell ⟨T, 4, none⟩ (.int .i64 u.tm)).setCell ⟨T, 5, none⟩ (.int .i64 u.ex)).setCell ⟨T, 6, none⟩ (.int .i64 u.kv)).setCell ⟨T, 7, none⟩ (.slice SA sn scap)) = w99 at yT gT ⊢
                have rl := cell_lt Rr.out.c0
                have hSn := And.intro (hS.1.grown gT hS.1.size (fun k e => by cases e; exact hTb)) (And.intro (hS.2.1.grown gT (by simp; omega)) (And.intro (hS.2.2.1.grown gT (by simp; omega)) (hS.2.2.2.grown gT (by simp; omega))))
                refine hK.out _ _ hSn (fun hS2 => ?_)
                clear hK K hS
                refine wpAnyH_done (by kernel_rfl) ?_ _
                go_wp2_with (fail)
                go_meet
                exact ⟨⟨T, u, SA, sn, scap, rfl, fu.out, RpAt.ofL yT, (by rw [hzu.out]; exact hS1.out.keep hSn.1), by omega⟩, hSn.1⟩
            · go_simp
              have hb : Below w5.heap.size w5 (w5.alloc (.cells #[.bool false, .string ⟨#[]⟩, .string ⟨#[]⟩, .string ⟨#[]⟩, .int .i64 0, .int .i64 0, .int .i64 0, .slice none 0 0] 49)) := (Below.refl _ _).alloc (Nat.le_refl _) _
              have XT : BoxAt (w5.alloc (.cells #[.bool false, .string ⟨#[]⟩, .string ⟨#[]⟩, .string ⟨#[]⟩, .int .i64 0, .int .i64 0, .int .i64 0, .slice none 0 0] 49)) w5.heap.size zeroRp := BoxAt.new w5 zeroRp 49
              have hSn := (And.intro (below_keep hb hS.1) (And.intro (hS.2.1.keep hb) (hS.2.2.keep hb)))
              have hTb := hS.1.size
              have hTbg := Nat.ne_of_lt (cell_lt hS.2.2.c0)

              obtain ⟨T, hT⟩ : ∃ T, T = w5.heap.size := ⟨_, rfl⟩
              rw [← hT] at XT hTb hTbg
              rw [← hT]
              clear hT hb
              generalize (w5.alloc (.cells #[.bool false, .string ⟨#[]⟩, .string ⟨#[]⟩, .string ⟨#[]⟩, .int .i64 0, .int .i64 0, .int .i64 0, .slice none 0 0] 49)) = w29 at XT hSn ⊢
              replace XT := Lib.hid XT
              refine hK.out _ _ hSn (fun hS2 => ?_)
              clear hK K hS hSn
              have hS := hS2
              clear hS2
              refine wpAnyH_ready (rs := [4]) (by kernel_rfl) (by simp) ?_
              refine AllReadyH.cons rfl (fun K hK => ?_) AllReadyH.nil
              go_simp
              refine (reply9_any LA ln lcap ls SA sn scap ss little _ (hL1.out.keep hS.1) (by omega) (hS1.out.keep hS.1)).mono ?_
              rintro e w30 ⟨u, rfl, hzu, fu, hb⟩
              replace fu := Lib.hid fu
              replace hzu := Lib.hid hzu
              unfold S9r.Rp.val S9r.Rp.cells
              go_wp2_with (fail)
              have hSn := (And.intro (below_keep hb hS.1) (And.intro (hS.2.1.keep hb) (hS.2.2.keep hb)))
              replace XT := Lib.hid (XT.out.keep hb)
              clear hb
              refine hK.out _ _ hSn (fun hS2 => ?_)
              clear hK K hS hSn
              have hS := hS2
              clear hS2
              refine wpAnyH_ready (rs := [6]) (by kernel_rfl) (by simp) ?_
              refine AllReadyH.cons rfl (fun K hK => ?_) AllReadyH.nil
              go_simp
              have hb : Below w30.heap.size w30 (w30.alloc (.cells #[.bool t.l, .string t.a, .string t.b, .string t.c, .int .i64 t.tm, .int .i64 t.ex, .int .i64 t.kv, .slice TA tn tcap, .bool u.l, .string u.a, .string u.b, .string u.c, .int .i64 u.tm, .int .i64 u.ex, .int .i64 u.kv, .slice SA sn scap, .bool b.l, .string b.a, .string b.b, .string b.c, .int .i64 b.tm, .int .i64 b.ex, .int .i64 b.kv, .slice BA mm mm] 49)) := (Below.refl _ _).alloc (Nat.le_refl _) _
              have XB : BoxAt (w30.alloc (.cells #[.bool t.l, .string t.a, .string t.b, .string t.c, .int .i64 t.tm, .int .i64 t.ex, .int .i64 t.kv, .slice TA tn tcap, .bool u.l, .string u.a, .string u.b, .string u.c, .int .i64 u.tm, .int .i64 u.ex, .int .i64 u.kv, .slice SA sn scap, .bool b.l, .string b.a, .string b.b, .string b.c, .int .i64 b.tm, .int .i64 b.ex, .int .i64 b.kv, .slice BA mm mm] 49)) w30.heap.size [.bool t.l, .string t.a, .string t.b, .string t.c, .int .i64 t.tm, .int .i64 t.ex, .int .i64 t.kv, .slice TA tn tcap, .bool u.l, .string u.a, .string u.b, .string u.c, .int .i64 u.tm, .int .i64 u.ex, .int .i64 u.kv, .slice SA sn scap, .bool b.l, .string b.a, .string b.b, .string b.c, .int .i64 b.tm, .int .i64 b.ex, .int .i64 b.kv, .slice BA mm mm] := BoxAt.new w30 [.bool t.l, .string t.a, .string t.b, .string t.c, .int .i64 t.tm, .int .i64 t.ex, .int .i64 t.kv, .slice TA tn tcap, .bool u.l, .string u.a, .string u.b, .string u.c, .int .i64 u.tm, .int .i64 u.ex, .int .i64 u.kv, .slice SA sn scap, .bool b.l, .string b.a, .string b.b, .string b.c, .int .i64 b.tm, .int .i64 b.ex, .int .i64 b.kv, .slice BA mm mm] 49
              have hSn := (And.intro (below_keep hb hS.1) (And.intro (hS.2.1.keep hb) (hS.2.2.keep hb)))
              have hTG := XT.out.lt
              replace XT := Lib.hid (XT.out.keep hb)
              obtain ⟨G, hG⟩ : ∃ G, G = w30.heap.size := ⟨_, rfl⟩
              rw [← hG] at XB
              rw [← hG] at hTG
              rw [← hG]
              clear hG hb
              generalize (w30.alloc (.cells #[.bool t.l, .string t.a, .string t.b, .string t.c, .int .i64 t.tm, .int .i64 t.ex, .int .i64 t.kv, .slice TA tn tcap, .bool u.l, .string u.a, .string u.b, .string u.c, .int .i64 u.tm, .int .i64 u.ex, .int .i64 u.kv, .slice SA sn scap, .bool b.l, .string b.a, .string b.b, .string b.c, .int .i64 b.tm, .int .i64 b.ex, .int .i64 b.kv, .slice BA mm mm] 49)) = w31 at XB hSn XT ⊢
              refine hK.out _ _ hSn (fun hS2 => ?_)
              clear hK K hS2
              refine held_grow (S' := (fun W => Below wr.heap.size wr W ∧ RpAt W w.heap.size t TA tn tcap ∧ RpAt W bg b BA mm mm ∧ BoxAt W G [.bool t.l, .string t.a, .string t.b, .string t.c, .int .i64 t.tm, .int .i64 t.ex, .int .i64 t.kv, .slice TA tn tcap, .bool u.l, .string u.a, .string u.b, .string u.c, .int .i64 u.tm, .int .i64 u.ex, .int .i64 u.kv, .slice SA sn scap, .bool b.l, .string b.a, .string b.b, .string b.c, .int .i64 b.tm, .int .i64 b.ex, .int .i64 b.kv, .slice BA mm mm])) (fun W hW => ⟨hW.1, hW.2.1, hW.2.2.1⟩) _ _ _ _ ?_
              replace hS : Below wr.heap.size wr w31 ∧ RpAt w31 w.heap.size t TA tn tcap ∧ RpAt w31 bg b BA mm mm ∧ BoxAt w31 G [.bool t.l, .string t.a, .string t.b, .string t.c, .int .i64 t.tm, .int .i64 t.ex, .int .i64 t.kv, .slice TA tn tcap, .bool u.l, .string u.a, .string u.b, .string u.c, .int .i64 u.tm, .int .i64 u.ex, .int .i64 u.kv, .slice SA sn scap, .bool b.l, .string b.a, .string b.b, .string b.c, .int .i64 b.tm, .int .i64 b.ex, .int .i64 b.kv, .slice BA mm mm] := ⟨hSn.1, hSn.2.1, hSn.2.2, XB⟩
              clear XB
              refine' wpAnyH_take (i := 8) (v := ?vp119_20_21_8) rfl (by kernel_rfl) (by kernel_rfl) (by kernel_rfl) (fun _ _ _ h => h) (Or.inl ⟨by kernel_rfl, fun W hW => ?yp119_20_21_8⟩) hS ?rp119_20_21_8
              case yp119_20_21_8 => (go_simp; first | done | with_reducible rfl | (rw [if_pos (by omega)]))
              refine' wpAnyH_take (i := 9) (v := ?vp119_20_21_9) rfl (by kernel_rfl) (by kernel_rfl) (by kernel_rfl) (fun _ _ _ h => h) (Or.inl ⟨by kernel_rfl, fun W hW => ?yp119_20_21_9⟩) hS ?rp119_20_21_9
              case yp119_20_21_9 => (obtain ⟨_, _, _, hbs⟩ := hW; have y0 := hbs.c 8 _ rfl; have y1 := hbs.c 9 _ rfl; have y2 := hbs.c 10 _ rfl; have y3 := hbs.c 11 _ rfl; have y4 := hbs.c 12 _ rfl; have y5 := hbs.c 13 _ rfl; have y6 := hbs.c 14 _ rfl; have y7 := hbs.c 15 _ rfl; go_simp; first | done | with_reducible rfl | (rw [if_pos (by omega)]))
              refine wpAnyH_ready (rs := [11]) (by kernel_rfl) (by simp) ?_
              refine AllReadyH.cons rfl (fun K hK => ?_) AllReadyH.nil
              have xf := XT.out.fz
              have xl := XT.out.lt
              have x0 := XT.out.c 0 _ rfl
              have x1 := XT.out.c 1 _ rfl
              have x2 := XT.out.c 2 _ rfl
              have x3 := XT.out.c 3 _ rfl
              have x4 := XT.out.c 4 _ rfl
              have x5 := XT.out.c 5 _ rfl
              have x6 := XT.out.c 6 _ rfl
              have x7 := XT.out.c 7 _ rfl
              go_simp
              have yT : BoxAt ((((((((w31.setCell ⟨T, 0, none⟩ (.bool u.l)).setCell ⟨T, 1, none⟩ (.string u.a)).setCell ⟨T, 2, none⟩ (.string u.b)).setCell ⟨T, 3, none⟩ (.string u.c)).setCell ⟨T, 4, none⟩ (.int .i64 u.tm)).setCell ⟨T, 5, none⟩ (.int .i64 u.ex)).setCell ⟨T, 6, none⟩ (.int .i64 u.kv)).setCell ⟨T, 7, none⟩ (.slice SA sn scap)) T (rpL u SA sn scap) := ((((((((XT.out.set 0 (.bool u.l) (by simp [zeroRp])).set 1 (.string u.a) (by simp [zeroRp])).set 2 (.string u.b) (by simp [zeroRp])).set 3 (.string u.c) (by simp [zeroRp])).set 4 (.int .i64 u.tm) (by simp [zeroRp])).set 5 (.int .i64 u.ex) (by simp [zeroRp])).set 6 (.int .i64 u.kv) (by simp [zeroRp])).set 7 (.slice SA sn scap) (by simp [zeroRp]))
              have gT : w31.grownBy ((((((((w31.setCell ⟨T, 0, none⟩ (.bool u.l)).setCell ⟨T, 1, none⟩ (.string u.a)).setCell ⟨T, 2, none⟩ (.string u.b)).setCell ⟨T, 3, none⟩ (.string u.c)).setCell ⟨T, 4, none⟩ (.int .i64 u.tm)).setCell ⟨T, 5, none⟩ (.int .i64 u.ex)).setCell ⟨T, 6, none⟩ (.int .i64 u.kv)).setCell ⟨T, 7, none⟩ (.slice SA sn scap)) (some T) := ((((((((grown_set w31 ⟨T, 0, none⟩ (.bool u.l)).trans (grown_set _ ⟨T, 1, none⟩ (.string u.a))).trans (grown_set _ ⟨T, 2, none⟩ (.string u.b))).trans (grown_set _ ⟨T, 3, none⟩ (.string u.c))).trans (grown_set _ ⟨T, 4, none⟩ (.int .i64 u.tm))).trans (grown_set _ ⟨T, 5, none⟩ (.int .i64 u.ex))).trans (grown_set _ ⟨T, 6, none⟩ (.int .i64 u.kv))).trans (grown_set _ ⟨T, 7, none⟩ (.slice SA sn scap)))
              generalize ((((((((w31.setCell ⟨T, 0, none⟩ (.bool u.l)).setCell ⟨T, 1, none⟩ (.string u.a)).setCell ⟨T, 2, none⟩ (.string u.b)).setCell ⟨T, 3, none⟩ (.string u.c)).setCell ⟨T, 4, none⟩ (.int .i64 u.tm)).setCell ⟨T, 5, none⟩ (.int .i64 u.ex)).setCell ⟨T, 6, none⟩ (.int .i64 u.kv)).setCell ⟨T, 7, none⟩ (.slice SA sn scap)) = w99 at yT gT ⊢
              have rl := cell_lt Rr.out.c0
              have hSn := And.intro (hS.1.grown gT hS.1.size (fun k e => by cases e; exact hTb)) (And.intro (hS.2.1.grown gT (by simp; omega)) (And.intro (hS.2.2.1.grown gT (by simp; omega)) (hS.2.2.2.grown gT (by simp; omega))))
              refine hK.out _ _ hSn (fun hS2 => ?_)
              clear hK K hS
              refine wpAnyH_done (by kernel_rfl) ?_ _
              go_wp2_with (fail)
              go_meet
              exact ⟨⟨T, u, SA, sn, scap, rfl, fu.out, RpAt.ofL yT, (by rw [hzu.out]; exact hS1.out.keep hSn.1), by omega⟩, hSn.1⟩
          · refine wp_region_held_drew (S := (fun W => Below wr.heap.size wr W ∧ RpAt W w.heap.size t TA tn tcap ∧ RpAt W bg b BA mm mm)) (by kernel_rfl) ⟨(Below.refl _ _).drew, Rr.out.drew, Rb.out.drew⟩ (fun hS => ?_)
            generalize wr.drew = w5 at hS ⊢
            refine' wpAnyH_take (i := 0) (v := ?vp20) rfl (by kernel_rfl) (by kernel_rfl) (by kernel_rfl) (fun _ _ _ h => h) (Or.inl ⟨by kernel_rfl, fun W hW => ?yp20⟩) hS ?rp20
            case yp20 => (obtain ⟨x0, x1, x2, x3, x4, x5, x6, x7⟩ := hW.2.1; go_simp; first | done | with_reducible rfl | (rw [if_pos (by omega)]))
            refine' wpAnyH_take (i := 1) (v := ?vp21) rfl (by kernel_rfl) (by kernel_rfl) (by kernel_rfl) (fun _ _ _ h => h) (Or.inl ⟨by kernel_rfl, fun W hW => ?yp21⟩) hS ?rp21
            case yp21 => (go_simp; first | done | with_reducible rfl | (rw [if_pos (by omega)]))
            refine' wpAnyH_take (i := 2) (v := ?vp22) rfl (by kernel_rfl) (by kernel_rfl) (by kernel_rfl) (fun _ _ _ h => h) (Or.inl ⟨by kernel_rfl, fun W hW => ?yp22⟩) hS ?rp22
            case yp22 => (go_simp; first | done | with_reducible rfl | (rw [if_pos (by omega)]))
            refine' wpAnyH_take (i := 3) (v := ?vp23) rfl (by kernel_rfl) (by kernel_rfl) (by kernel_rfl) (fun _ _ _ h => h) (Or.inl ⟨by kernel_rfl, fun W hW => ?yp23⟩) hS ?rp23
            case yp23 => (go_simp; first | done | with_reducible rfl | (rw [if_pos (by omega)]))
            refine' wpAnyH_take (i := 5) (v := ?vp25) rfl (by kernel_rfl) (by kernel_rfl) (by kernel_rfl) (fun _ _ _ h => h) (Or.inl ⟨by kernel_rfl, fun W hW => ?yp25⟩) hS ?rp25
            case yp25 => (obtain ⟨x0, x1, x2, x3, x4, x5, x6, x7⟩ := hW.2.2; go_simp; first | done | with_reducible rfl | (rw [if_pos (by omega)]))
            refine' wpAnyH_take (i := 7) (v := ?vp27) rfl (by kernel_rfl) (by kernel_rfl) (by kernel_rfl) (fun _ _ _ h => h) (Or.inl ⟨by kernel_rfl, fun W hW => ?yp27⟩) hS ?rp27
            case yp27 => (go_simp; first | done | with_reducible rfl | (rw [if_pos (by omega)]))
            refine wpAnyH_ready (rs := [4, 10]) (by kernel_rfl) (by simp) ?_
            refine AllReadyH.cons rfl (fun K hK => ?_) (AllReadyH.cons rfl (fun K hK => ?_) AllReadyH.nil)
            · go_simp
              refine (reply9_any LA ln lcap ls SA sn scap ss little _ (hL1.out.keep hS.1) (by omega) (hS1.out.keep hS.1)).mono ?_
              rintro e w33 ⟨u, rfl, hzu, fu, hb⟩
              replace fu := Lib.hid fu
              replace hzu := Lib.hid hzu
              unfold S9r.Rp.val S9r.Rp.cells
              go_wp2_with (fail)
              have hSn := (And.intro (below_keep hb hS.1) (And.intro (hS.2.1.keep hb) (hS.2.2.keep hb)))
              clear hb
              refine hK.out _ _ hSn (fun hS2 => ?_)
              clear hK K hS hSn
              have hS := hS2
              clear hS2
              refine wpAnyH_ready (rs := [6, 10]) (by kernel_rfl) (by simp) ?_
              refine AllReadyH.cons rfl (fun K hK => ?_) (AllReadyH.cons rfl (fun K hK => ?_) AllReadyH.nil)
              · go_simp
                have hb : Below w33.heap.size w33 (w33.alloc (.cells #[.bool t.l, .string t.a, .string t.b, .string t.c, .int .i64 t.tm, .int .i64 t.ex, .int .i64 t.kv, .slice TA tn tcap, .bool u.l, .string u.a, .string u.b, .string u.c, .int .i64 u.tm, .int .i64 u.ex, .int .i64 u.kv, .slice SA sn scap, .bool b.l, .string b.a, .string b.b, .string b.c, .int .i64 b.tm, .int .i64 b.ex, .int .i64 b.kv, .slice BA mm mm] 49)) := (Below.refl _ _).alloc (Nat.le_refl _) _
                have XB : BoxAt (w33.alloc (.cells #[.bool t.l, .string t.a, .string t.b, .string t.c, .int .i64 t.tm, .int .i64 t.ex, .int .i64 t.kv, .slice TA tn tcap, .bool u.l, .string u.a, .string u.b, .string u.c, .int .i64 u.tm, .int .i64 u.ex, .int .i64 u.kv, .slice SA sn scap, .bool b.l, .string b.a, .string b.b, .string b.c, .int .i64 b.tm, .int .i64 b.ex, .int .i64 b.kv, .slice BA mm mm] 49)) w33.heap.size [.bool t.l, .string t.a, .string t.b, .string t.c, .int .i64 t.tm, .int .i64 t.ex, .int .i64 t.kv, .slice TA tn tcap, .bool u.l, .string u.a, .string u.b, .string u.c, .int .i64 u.tm, .int .i64 u.ex, .int .i64 u.kv, .slice SA sn scap, .bool b.l, .string b.a, .string b.b, .string b.c, .int .i64 b.tm, .int .i64 b.ex, .int .i64 b.kv, .slice BA mm mm] := BoxAt.new w33 [.bool t.l, .string t.a, .string t.b, .string t.c, .int .i64 t.tm, .int .i64 t.ex, .int .i64 t.kv, .slice TA tn tcap, .bool u.l, .string u.a, .string u.b, .string u.c, .int .i64 u.tm, .int .i64 u.ex, .int .i64 u.kv, .slice SA sn scap, .bool b.l, .string b.a, .string b.b, .string b.c, .int .i64 b.tm, .int .i64 b.ex, .int .i64 b.kv, .slice BA mm mm] 49
                have hSn := (And.intro (below_keep hb hS.1) (And.intro (hS.2.1.keep hb) (hS.2.2.keep hb)))

                obtain ⟨G, hG⟩ : ∃ G, G = w33.heap.size := ⟨_, rfl⟩
                rw [← hG] at XB

                rw [← hG]
                clear hG hb
                generalize (w33.alloc (.cells #[.bool t.l, .string t.a, .string t.b, .string t.c, .int .i64 t.tm, .int .i64 t.ex, .int .i64 t.kv, .slice TA tn tcap, .bool u.l, .string u.a, .string u.b, .string u.c, .int .i64 u.tm, .int .i64 u.ex, .int .i64 u.kv, .slice SA sn scap, .bool b.l, .string b.a, .string b.b, .string b.c, .int .i64 b.tm, .int .i64 b.ex, .int .i64 b.kv, .slice BA mm mm] 49)) = w34 at XB hSn ⊢
                refine hK.out _ _ hSn (fun hS2 => ?_)
                clear hK K hS2
                refine held_grow (S' := (fun W => Below wr.heap.size wr W ∧ RpAt W w.heap.size t TA tn tcap ∧ RpAt W bg b BA mm mm ∧ BoxAt W G [.bool t.l, .string t.a, .string t.b, .string t.c, .int .i64 t.tm, .int .i64 t.ex, .int .i64 t.kv, .slice TA tn tcap, .bool u.l, .string u.a, .string u.b, .string u.c, .int .i64 u.tm, .int .i64 u.ex, .int .i64 u.kv, .slice SA sn scap, .bool b.l, .string b.a, .string b.b, .string b.c, .int .i64 b.tm, .int .i64 b.ex, .int .i64 b.kv, .slice BA mm mm])) (fun W hW => ⟨hW.1, hW.2.1, hW.2.2.1⟩) _ _ _ _ ?_
                replace hS : Below wr.heap.size wr w34 ∧ RpAt w34 w.heap.size t TA tn tcap ∧ RpAt w34 bg b BA mm mm ∧ BoxAt w34 G [.bool t.l, .string t.a, .string t.b, .string t.c, .int .i64 t.tm, .int .i64 t.ex, .int .i64 t.kv, .slice TA tn tcap, .bool u.l, .string u.a, .string u.b, .string u.c, .int .i64 u.tm, .int .i64 u.ex, .int .i64 u.kv, .slice SA sn scap, .bool b.l, .string b.a, .string b.b, .string b.c, .int .i64 b.tm, .int .i64 b.ex, .int .i64 b.kv, .slice BA mm mm] := ⟨hSn.1, hSn.2.1, hSn.2.2, XB⟩
                clear XB
                refine' wpAnyH_take (i := 8) (v := ?vp223_24_8) rfl (by kernel_rfl) (by kernel_rfl) (by kernel_rfl) (fun _ _ _ h => h) (Or.inl ⟨by kernel_rfl, fun W hW => ?yp223_24_8⟩) hS ?rp223_24_8
                case yp223_24_8 => (go_simp; first | done | with_reducible rfl | (rw [if_pos (by omega)]))
                refine' wpAnyH_take (i := 9) (v := ?vp223_24_9) rfl (by kernel_rfl) (by kernel_rfl) (by kernel_rfl) (fun _ _ _ h => h) (Or.inl ⟨by kernel_rfl, fun W hW => ?yp223_24_9⟩) hS ?rp223_24_9
                case yp223_24_9 => (obtain ⟨_, _, _, hbs⟩ := hW; have y0 := hbs.c 16 _ rfl; have y1 := hbs.c 17 _ rfl; have y2 := hbs.c 18 _ rfl; have y3 := hbs.c 19 _ rfl; have y4 := hbs.c 20 _ rfl; have y5 := hbs.c 21 _ rfl; have y6 := hbs.c 22 _ rfl; have y7 := hbs.c 23 _ rfl; go_simp; first | done | with_reducible rfl | (rw [if_pos (by omega)]))
                refine wpAnyH_ready (rs := [10]) (by kernel_rfl) (by simp) ?_
                refine AllReadyH.cons rfl (fun K hK => ?_) AllReadyH.nil
                go_simp
                have hb : Below w34.heap.size w34 (w34.alloc (.cells #[.bool false, .string ⟨#[]⟩, .string ⟨#[]⟩, .string ⟨#[]⟩, .int .i64 0, .int .i64 0, .int .i64 0, .slice none 0 0] 49)) := (Below.refl _ _).alloc (Nat.le_refl _) _
                have XT : BoxAt (w34.alloc (.cells #[.bool false, .string ⟨#[]⟩, .string ⟨#[]⟩, .string ⟨#[]⟩, .int .i64 0, .int .i64 0, .int .i64 0, .slice none 0 0] 49)) w34.heap.size zeroRp := BoxAt.new w34 zeroRp 49
                have hSn := (And.intro (below_keep hb hS.1) (And.intro (hS.2.1.keep hb) (And.intro (hS.2.2.1.keep hb) (hS.2.2.2.keep hb))))
                have hTb := hS.1.size
                have hTbg := Nat.ne_of_lt (cell_lt hS.2.2.1.c0)
                have hTG := hS.2.2.2.lt
                obtain ⟨T, hT⟩ : ∃ T, T = w34.heap.size := ⟨_, rfl⟩
                rw [← hT] at XT hTb hTbg hTG
                rw [← hT]
                clear hT hb
                generalize (w34.alloc (.cells #[.bool false, .string ⟨#[]⟩, .string ⟨#[]⟩, .string ⟨#[]⟩, .int .i64 0, .int .i64 0, .int .i64 0, .slice none 0 0] 49)) = w35 at XT hSn ⊢
                replace XT := Lib.hid XT
                refine hK.out _ _ hSn (fun hS2 => ?_)
                clear hK K hS hSn
                have hS := hS2
                clear hS2
                refine wpAnyH_ready (rs := [11]) (by kernel_rfl) (by simp) ?_
                refine AllReadyH.cons rfl (fun K hK => ?_) AllReadyH.nil
                have xf := XT.out.fz
                have xl := XT.out.lt
                have x0 := XT.out.c 0 _ rfl
                have x1 := XT.out.c 1 _ rfl
                have x2 := XT.out.c 2 _ rfl
                have x3 := XT.out.c 3 _ rfl
                have x4 := XT.out.c 4 _ rfl
                have x5 := XT.out.c 5 _ rfl
                have x6 := XT.out.c 6 _ rfl
                have x7 := XT.out.c 7 _ rfl
                go_simp
                have yT : BoxAt ((((((((w35.setCell ⟨T, 0, none⟩ (.bool b.l)).setCell ⟨T, 1, none⟩ (.string b.a)).setCell ⟨T, 2, none⟩ (.string b.b)).setCell ⟨T, 3, none⟩ (.string b.c)).setCell ⟨T, 4, none⟩ (.int .i64 b.tm)).setCell ⟨T, 5, none⟩ (.int .i64 b.ex)).setCell ⟨T, 6, none⟩ (.int .i64 b.kv)).setCell ⟨T, 7, none⟩ (.slice BA mm mm)) T (rpL b BA mm mm) := ((((((((XT.out.set 0 (.bool b.l) (by simp [zeroRp])).set 1 (.string b.a) (by simp [zeroRp])).set 2 (.string b.b) (by simp [zeroRp])).set 3 (.string b.c) (by simp [zeroRp])).set 4 (.int .i64 b.tm) (by simp [zeroRp])).set 5 (.int .i64 b.ex) (by simp [zeroRp])).set 6 (.int .i64 b.kv) (by simp [zeroRp])).set 7 (.slice BA mm mm) (by simp [zeroRp]))
                have gT : w35.grownBy ((((((((w35.setCell ⟨T, 0, none⟩ (.bool b.l)).setCell ⟨T, 1, none⟩ (.string b.a)).setCell ⟨T, 2, none⟩ (.string b.b)).setCell ⟨T, 3, none⟩ (.string b.c)).setCell ⟨T, 4, none⟩ (.int .i64 b.tm)).setCell ⟨T, 5, none⟩ (.int .i64 b.ex)).setCell ⟨T, 6, none⟩ (.int .i64 b.kv)).setCell ⟨T, 7, none⟩ (.slice BA mm mm)) (some T) := ((((((((grown_set w35 ⟨T, 0, none⟩ (.bool b.l)).trans (grown_set _ ⟨T, 1, none⟩ (.string b.a))).trans (grown_set _ ⟨T, 2, none⟩ (.string b.b))).trans (grown_set _ ⟨T, 3, none⟩ (.string b.c))).trans (grown_set _ ⟨T, 4, none⟩ (.int .i64 b.tm))).trans (grown_set _ ⟨T, 5, none⟩ (.int .i64 b.ex))).trans (grown_set _ ⟨T, 6, none⟩ (.int .i64 b.kv))).trans (grown_set _ ⟨T, 7, none⟩ (.slice BA mm mm)))
                generalize ((((((((w35.setCell ⟨T, 0, none⟩ (.bool b.l)).setCell ⟨T, 1, none⟩ (.string b.a)).setCell ⟨T, 2, none⟩ (.string b.b)).setCell ⟨T, 3, none⟩ (.string b.c)).setCell ⟨T, 4, none⟩ (.int .i64 b.tm)).setCell ⟨T, 5, none⟩ (.int .i64 b.ex)).setCell ⟨T, 6, none⟩ (.int .i64 b.kv)).setCell ⟨T, 7, none⟩ (.slice BA mm mm)) = w99 at yT gT ⊢
                have rl := cell_lt Rr.out.c0
                have hSn := And.intro (hS.1.grown gT hS.1.size (fun k e => by cases e; exact hTb)) (And.intro (hS.2.1.grown gT (by simp; omega)) (And.intro (hS.2.2.1.grown gT (by simp; omega)) (hS.2.2.2.grown gT (by simp; omega))))
                refine hK.out _ _ hSn (fun hS2 => ?_)
                clear hK K hS
                refine wpAnyH_done (by kernel_rfl) ?_ _
                go_wp2_with (fail)
                go_meet
                exact ⟨⟨T, b, BA, mm, mm, rfl, fb.out, RpAt.ofL yT, hB1.out.keep hSn.1, by omega⟩, hSn.1⟩
              · go_simp
                have hb : Below w33.heap.size w33 (w33.alloc (.cells #[.bool false, .string ⟨#[]⟩, .string ⟨#[]⟩, .string ⟨#[]⟩, .int .i64 0, .int .i64 0, .int .i64 0, .slice none 0 0] 49)) := (Below.refl _ _).alloc (Nat.le_refl _) _
                have XT : BoxAt (w33.alloc (.cells #[.bool false, .string ⟨#[]⟩, .string ⟨#[]⟩, .string ⟨#[]⟩, .int .i64 0, .int .i64 0, .int .i64 0, .slice none 0 0] 49)) w33.heap.size zeroRp := BoxAt.new w33 zeroRp 49
                have hSn := (And.intro (below_keep hb hS.1) (And.intro (hS.2.1.keep hb) (hS.2.2.keep hb)))
                have hTb := hS.1.size
                have hTbg := Nat.ne_of_lt (cell_lt hS.2.2.c0)

                obtain ⟨T, hT⟩ : ∃ T, T = w33.heap.size := ⟨_, rfl⟩
                rw [← hT] at XT hTb hTbg
                rw [← hT]
                clear hT hb
                generalize (w33.alloc (.cells #[.bool false, .string ⟨#[]⟩, .string ⟨#[]⟩, .string ⟨#[]⟩, .int .i64 0, .int .i64 0, .int .i64 0, .slice none 0 0] 49)) = w37 at XT hSn ⊢
                replace XT := Lib.hid XT
                refine hK.out _ _ hSn (fun hS2 => ?_)
                clear hK K hS hSn
                have hS := hS2
                clear hS2
                refine wpAnyH_ready (rs := [6]) (by kernel_rfl) (by simp) ?_
                refine AllReadyH.cons rfl (fun K hK => ?_) AllReadyH.nil
                go_simp
                have hb : Below w37.heap.size w37 (w37.alloc (.cells #[.bool t.l, .string t.a, .string t.b, .string t.c, .int .i64 t.tm, .int .i64 t.ex, .int .i64 t.kv, .slice TA tn tcap, .bool u.l, .string u.a, .string u.b, .string u.c, .int .i64 u.tm, .int .i64 u.ex, .int .i64 u.kv, .slice SA sn scap, .bool b.l, .string b.a, .string b.b, .string b.c, .int .i64 b.tm, .int .i64 b.ex, .int .i64 b.kv, .slice BA mm mm] 49)) := (Below.refl _ _).alloc (Nat.le_refl _) _
                have XB : BoxAt (w37.alloc (.cells #[.bool t.l, .string t.a, .string t.b, .string t.c, .int .i64 t.tm, .int .i64 t.ex, .int .i64 t.kv, .slice TA tn tcap, .bool u.l, .string u.a, .string u.b, .string u.c, .int .i64 u.tm, .int .i64 u.ex, .int .i64 u.kv, .slice SA sn scap, .bool b.l, .string b.a, .string b.b, .string b.c, .int .i64 b.tm, .int .i64 b.ex, .int .i64 b.kv, .slice BA mm mm] 49)) w37.heap.size [.bool t.l, .string t.a, .string t.b, .string t.c, .int .i64 t.tm, .int .i64 t.ex, .int .i64 t.kv, .slice TA tn tcap, .bool u.l, .string u.a, .string u.b, .string u.c, .int .i64 u.tm, .int .i64 u.ex, .int .i64 u.kv, .slice SA sn scap, .bool b.l, .string b.a, .string b.b, .string b.c, .int .i64 b.tm, .int .i64 b.ex, .int .i64 b.kv, .slice BA mm mm] := BoxAt.new w37 [.bool t.l, .string t.a, .string t.b, .string t.c, .int .i64 t.tm, .int .i64 t.ex, .int .i64 t.kv, .slice TA tn tcap, .bool u.l, .string u.a, .string u.b, .string u.c, .int .i64 u.tm, .int .i64 u.ex, .int .i64 u.kv, .slice SA sn scap, .bool b.l, .string b.a, .string b.b, .string b.c, .int .i64 b.tm, .int .i64 b.ex, .int .i64 b.kv, .slice BA mm mm] 49
                have hSn := (And.intro (below_keep hb hS.1) (And.intro (hS.2.1.keep hb) (hS.2.2.keep hb)))
                have hTG := XT.out.lt
                replace XT := Lib.hid (XT.out.keep hb)
                obtain ⟨G, hG⟩ : ∃ G, G = w37.heap.size := ⟨_, rfl⟩
                rw [← hG] at XB
                rw [← hG] at hTG
                rw [← hG]
                clear hG hb
                generalize (w37.alloc (.cells #[.bool t.l, .string t.a, .string t.b, .string t.c, .int .i64 t.tm, .int .i64 t.ex, .int .i64 t.kv, .slice TA tn tcap, .bool u.l, .string u.a, .string u.b, .string u.c, .int .i64 u.tm, .int .i64 u.ex, .int .i64 u.kv, .slice SA sn scap, .bool b.l, .string b.a, .string b.b, .string b.c, .int .i64 b.tm, .int .i64 b.ex, .int .i64 b.kv, .slice BA mm mm] 49)) = w38 at XB hSn XT ⊢
                refine hK.out _ _ hSn (fun hS2 => ?_)
                clear hK K hS2
                refine held_grow (S' := (fun W => Below wr.heap.size wr W ∧ RpAt W w.heap.size t TA tn tcap ∧ RpAt W bg b BA mm mm ∧ BoxAt W G [.bool t.l, .string t.a, .string t.b, .string t.c, .int .i64 t.tm, .int .i64 t.ex, .int .i64 t.kv, .slice TA tn tcap, .bool u.l, .string u.a, .string u.b, .string u.c, .int .i64 u.tm, .int .i64 u.ex, .int .i64 u.kv, .slice SA sn scap, .bool b.l, .string b.a, .string b.b, .string b.c, .int .i64 b.tm, .int .i64 b.ex, .int .i64 b.kv, .slice BA mm mm])) (fun W hW => ⟨hW.1, hW.2.1, hW.2.2.1⟩) _ _ _ _ ?_
                replace hS : Below wr.heap.size wr w38 ∧ RpAt w38 w.heap.size t TA tn tcap ∧ RpAt w38 bg b BA mm mm ∧ BoxAt w38 G [.bool t.l, .string t.a, .string t.b, .string t.c, .int .i64 t.tm, .int .i64 t.ex, .int .i64 t.kv, .slice TA tn tcap, .bool u.l, .string u.a, .string u.b, .string u.c, .int .i64 u.tm, .int .i64 u.ex, .int .i64 u.kv, .slice SA sn scap, .bool b.l, .string b.a, .string b.b, .string b.c, .int .i64 b.tm, .int .i64 b.ex, .int .i64 b.kv, .slice BA mm mm] := ⟨hSn.1, hSn.2.1, hSn.2.2, XB⟩
                clear XB
                refine' wpAnyH_take (i := 8) (v := ?vp223_27_28_8) rfl (by kernel_rfl) (by kernel_rfl) (by kernel_rfl) (fun _ _ _ h => h) (Or.inl ⟨by kernel_rfl, fun W hW => ?yp223_27_28_8⟩) hS ?rp223_27_28_8
                case yp223_27_28_8 => (go_simp; first | done | with_reducible rfl | (rw [if_pos (by omega)]))
                refine' wpAnyH_take (i := 9) (v := ?vp223_27_28_9) rfl (by kernel_rfl) (by kernel_rfl) (by kernel_rfl) (fun _ _ _ h => h) (Or.inl ⟨by kernel_rfl, fun W hW => ?yp223_27_28_9⟩) hS ?rp223_27_28_9
                case yp223_27_28_9 => (obtain ⟨_, _, _, hbs⟩ := hW; have y0 := hbs.c 16 _ rfl; have y1 := hbs.c 17 _ rfl; have y2 := hbs.c 18 _ rfl; have y3 := hbs.c 19 _ rfl; have y4 := hbs.c 20 _ rfl; have y5 := hbs.c 21 _ rfl; have y6 := hbs.c 22 _ rfl; have y7 := hbs.c 23 _ rfl; go_simp; first | done | with_reducible rfl | (rw [if_pos (by omega)]))
                refine wpAnyH_ready (rs := [11]) (by kernel_rfl) (by simp) ?_
                refine AllReadyH.cons rfl (fun K hK => ?_) AllReadyH.nil
                have xf := XT.out.fz
                have xl := XT.out.lt
                have x0 := XT.out.c 0 _ rfl
                have x1 := XT.out.c 1 _ rfl
                have x2 := XT.out.c 2 _ rfl
                have x3 := XT.out.c 3 _ rfl
                have x4 := XT.out.c 4 _ rfl
                have x5 := XT.out.c 5 _ rfl
                have x6 := XT.out.c 6 _ rfl
                have x7 := XT.out.c 7 _ rfl
                go_simp
                have yT : BoxAt ((((((((w38.setCell ⟨T, 0, none⟩ (.bool b.l)).setCell ⟨T, 1, none⟩ (.string b.a)).setCell ⟨T, 2, none⟩ (.string b.b)).setCell ⟨T, 3, none⟩ (.string b.c)).setCell ⟨T, 4, none⟩ (.int .i64 b.tm)).setCell ⟨T, 5, none⟩ (.int .i64 b.ex)).setCell ⟨T, 6, none⟩ (.int .i64 b.kv)).setCell ⟨T, 7, none⟩ (.slice BA mm mm)) T (rpL b BA mm mm) := ((((((((XT.out.set 0 (.bool b.l) (by simp [zeroRp])).set 1 (.string b.a) (by simp [zeroRp])).set 2 (.string b.b) (by simp [zeroRp])).set 3 (.string b.c) (by simp [zeroRp])).set 4 (.int .i64 b.tm) (by simp [zeroRp])).set 5 (.int .i64 b.ex) (by simp [zeroRp])).set 6 (.int .i64 b.kv) (by simp [zeroRp])).set 7 (.slice BA mm mm) (by simp [zeroRp]))
                have gT : w38.grownBy ((((((((w38.setCell ⟨T, 0, none⟩ (.bool b.l)).setCell ⟨T, 1, none⟩ (.string b.a)).setCell ⟨T, 2, none⟩ (.string b.b)).setCell ⟨T, 3, none⟩ (.string b.c)).setCell ⟨T, 4, none⟩ (.int .i64 b.tm)).setCell ⟨T, 5, none⟩ (.int .i64 b.ex)).setCell ⟨T, 6, none⟩ (.int .i64 b.kv)).setCell ⟨T, 7, none⟩ (.slice BA mm mm)) (some T) := ((((((((grown_set w38 ⟨T, 0, none⟩ (.bool b.l)).trans (grown_set _ ⟨T, 1, none⟩ (.string b.a))).trans (grown_set _ ⟨T, 2, none⟩ (.string b.b))).trans (grown_set _ ⟨T, 3, none⟩ (.string b.c))).trans (grown_set _ ⟨T, 4, none⟩ (.int .i64 b.tm))).trans (grown_set _ ⟨T, 5, none⟩ (.int .i64 b.ex))).trans (grown_set _ ⟨T, 6, none⟩ (.int .i64 b.kv))).trans (grown_set _ ⟨T, 7, none⟩ (.slice BA mm mm)))
                generalize ((((((((w38.setCell ⟨T, 0, none⟩ (.bool b.l)).setCell ⟨T, 1, none⟩ (.string b.a)).setCell ⟨T, 2, none⟩ (.string b.b)).setCell ⟨T, 3, none⟩ (.string b.c)).setCell ⟨T, 4, none⟩ (.int .i64 b.tm)).setCell ⟨T, 5, none⟩ (.int .i64 b.ex)).setCell ⟨T, 6, none⟩ (.int .i64 b.kv)).setCell ⟨T, 7, none⟩ (.slice BA mm mm)) = w99 at yT gT ⊢
                have rl := cell_lt Rr.out.c0
                have hSn := And.intro (hS.1.grown gT hS.1.size (fun k e => by cases e; exact hTb)) (And.intro (hS.2.1.grown gT (by simp; omega)) (And.intro (hS.2.2.1.grown gT (by simp; omega)) (hS.2.2.2.grown gT (by simp; omega))))
                refine hK.out _ _ hSn (fun hS2 => ?_)
                clear hK K hS
                refine wpAnyH_done (by kernel_rfl) ?_ _
                go_wp2_with (fail)
                go_meet
                exact ⟨⟨T, b, BA, mm, mm, rfl, fb.out, RpAt.ofL yT, hB1.out.keep hSn.1, by omega⟩, hSn.1⟩
            · go_simp
              have hb : Below w5.heap.size w5 (w5.alloc (.cells #[.bool false, .string ⟨#[]⟩, .string ⟨#[]⟩, .string ⟨#[]⟩, .int .i64 0, .int .i64 0, .int .i64 0, .slice none 0 0] 49)) := (Below.refl _ _).alloc (Nat.le_refl _) _
              have XT : BoxAt (w5.alloc (.cells #[.bool false, .string ⟨#[]⟩, .string ⟨#[]⟩, .string ⟨#[]⟩, .int .i64 0, .int .i64 0, .int .i64 0, .slice none 0 0] 49)) w5.heap.size zeroRp := BoxAt.new w5 zeroRp 49
              have hSn := (And.intro (below_keep hb hS.1) (And.intro (hS.2.1.keep hb) (hS.2.2.keep hb)))
              have hTb := hS.1.size
              have hTbg := Nat.ne_of_lt (cell_lt hS.2.2.c0)

              obtain ⟨T, hT⟩ : ∃ T, T = w5.heap.size := ⟨_, rfl⟩
              rw [← hT] at XT hTb hTbg
              rw [← hT]
              clear hT hb
              generalize (w5.alloc (.cells #[.bool false, .string ⟨#[]⟩, .string ⟨#[]⟩, .string ⟨#[]⟩, .int .i64 0, .int .i64 0, .int .i64 0, .slice none 0 0] 49)) = w40 at XT hSn ⊢
              replace XT := Lib.hid XT
              refine hK.out _ _ hSn (fun hS2 => ?_)
              clear hK K hS hSn
              have hS := hS2
              clear hS2
              refine wpAnyH_ready (rs := [4]) (by kernel_rfl) (by simp) ?_
              refine AllReadyH.cons rfl (fun K hK => ?_) AllReadyH.nil
              go_simp
              refine (reply9_any LA ln lcap ls SA sn scap ss little _ (hL1.out.keep hS.1) (by omega) (hS1.out.keep hS.1)).mono ?_
              rintro e w41 ⟨u, rfl, hzu, fu, hb⟩
              replace fu := Lib.hid fu
              replace hzu := Lib.hid hzu
              unfold S9r.Rp.val S9r.Rp.cells
              go_wp2_with (fail)
              have hSn := (And.intro (below_keep hb hS.1) (And.intro (hS.2.1.keep hb) (hS.2.2.keep hb)))
              replace XT := Lib.hid (XT.out.keep hb)
              clear hb
              refine hK.out _ _ hSn (fun hS2 => ?_)
              clear hK K hS hSn
              have hS := hS2
              clear hS2
              refine wpAnyH_ready (rs := [6]) (by kernel_rfl) (by simp) ?_
              refine AllReadyH.cons rfl (fun K hK => ?_) AllReadyH.nil
              go_simp
              have hb : Below w41.heap.size w41 (w41.alloc (.cells #[.bool t.l, .string t.a, .string t.b, .string t.c, .int .i64 t.tm, .int .i64 t.ex, .int .i64 t.kv, .slice TA tn tcap, .bool u.l, .string u.a, .string u.b, .string u.c, .int .i64 u.tm, .int .i64 u.ex, .int .i64 u.kv, .slice SA sn scap, .bool b.l, .string b.a, .string b.b, .string b.c, .int .i64 b.tm, .int .i64 b.ex, .int .i64 b.kv, .slice BA mm mm] 49)) := (Below.refl _ _).alloc (Nat.le_refl _) _
              have XB : BoxAt (w41.alloc (.cells #[.bool t.l, .string t.a, .string t.b, .string t.c, .int .i64 t.tm, .int .i64 t.ex, .int .i64 t.kv, .slice TA tn tcap, .bool u.l, .string u.a, .string u.b, .string u.c, .int .i64 u.tm, .int .i64 u.ex, .int .i64 u.kv, .slice SA sn scap, .bool b.l, .string b.a, .string b.b, .string b.c, .int .i64 b.tm, .int .i64 b.ex, .int .i64 b.kv, .slice BA mm mm] 49)) w41.heap.size [.bool t.l, .string t.a, .string t.b, .string t.c, .int .i64 t.tm, .int .i64 t.ex, .int .i64 t.kv, .slice TA tn tcap, .bool u.l, .string u.a, .string u.b, .string u.c, .int .i64 u.tm, .int .i64 u.ex, .int .i64 u.kv, .slice SA sn scap, .bool b.l, .string b.a, .string b.b, .string b.c, .int .i64 b.tm, .int .i64 b.ex, .int .i64 b.kv, .slice BA mm mm] := BoxAt.new w41 [.bool t.l, .string t.a, .string t.b, .string t.c, .int .i64 t.tm, .int .i64 t.ex, .int .i64 t.kv, .slice TA tn tcap, .bool u.l, .string u.a, .string u.b, .string u.c, .int .i64 u.tm, .int .i64 u.ex, .int .i64 u.kv, .slice SA sn scap, .bool b.l, .string b.a, .string b.b, .string b.c, .int .i64 b.tm, .int .i64 b.ex, .int .i64 b.kv, .slice BA mm mm] 49
              have hSn := (And.intro (below_keep hb hS.1) (And.intro (hS.2.1.keep hb) (hS.2.2.keep hb)))
              have hTG := XT.out.lt
              replace XT := Lib.hid (XT.out.keep hb)
              obtain ⟨G, hG⟩ : ∃ G, G = w41.heap.size := ⟨_, rfl⟩
              rw [← hG] at XB
              rw [← hG] at hTG
              rw [← hG]
              clear hG hb
              generalize (w41.alloc (.cells #[.bool t.l, .string t.a, .string t.b, .string t.c, .int .i64 t.tm, .int .i64 t.ex, .int .i64 t.kv, .slice TA tn tcap, .bool u.l, .string u.a, .string u.b, .string u.c, .int .i64 u.tm, .int .i64 u.ex, .int .i64 u.kv, .slice SA sn scap, .bool b.l, .string b.a, .string b.b, .string b.c, .int .i64 b.tm, .int .i64 b.ex, .int .i64 b.kv, .slice BA mm mm] 49)) = w42 at XB hSn XT ⊢
              refine hK.out _ _ hSn (fun hS2 => ?_)
              clear hK K hS2
              refine held_grow (S' := (fun W => Below wr.heap.size wr W ∧ RpAt W w.heap.size t TA tn tcap ∧ RpAt W bg b BA mm mm ∧ BoxAt W G [.bool t.l, .string t.a, .string t.b, .string t.c, .int .i64 t.tm, .int .i64 t.ex, .int .i64 t.kv, .slice TA tn tcap, .bool u.l, .string u.a, .string u.b, .string u.c, .int .i64 u.tm, .int .i64 u.ex, .int .i64 u.kv, .slice SA sn scap, .bool b.l, .string b.a, .string b.b, .string b.c, .int .i64 b.tm, .int .i64 b.ex, .int .i64 b.kv, .slice BA mm mm])) (fun W hW => ⟨hW.1, hW.2.1, hW.2.2.1⟩) _ _ _ _ ?_
              replace hS : Below wr.heap.size wr w42 ∧ RpAt w42 w.heap.size t TA tn tcap ∧ RpAt w42 bg b BA mm mm ∧ BoxAt w42 G [.bool t.l, .string t.a, .string t.b, .string t.c, .int .i64 t.tm, .int .i64 t.ex, .int .i64 t.kv, .slice TA tn tcap, .bool u.l, .string u.a, .string u.b, .string u.c, .int .i64 u.tm, .int .i64 u.ex, .int .i64 u.kv, .slice SA sn scap, .bool b.l, .string b.a, .string b.b, .string b.c, .int .i64 b.tm, .int .i64 b.ex, .int .i64 b.kv, .slice BA mm mm] := ⟨hSn.1, hSn.2.1, hSn.2.2, XB⟩
              clear XB
              refine' wpAnyH_take (i := 8) (v := ?vp230_31_32_8) rfl (by kernel_rfl) (by kernel_rfl) (by kernel_rfl) (fun _ _ _ h => h) (Or.inl ⟨by kernel_rfl, fun W hW => ?yp230_31_32_8⟩) hS ?rp230_31_32_8
              case yp230_31_32_8 => (go_simp; first | done | with_reducible rfl | (rw [if_pos (by omega)]))
              refine' wpAnyH_take (i := 9) (v := ?vp230_31_32_9) rfl (by kernel_rfl) (by kernel_rfl) (by kernel_rfl) (fun _ _ _ h => h) (Or.inl ⟨by kernel_rfl, fun W hW => ?yp230_31_32_9⟩) hS ?rp230_31_32_9
              case yp230_31_32_9 => (obtain ⟨_, _, _, hbs⟩ := hW; have y0 := hbs.c 16 _ rfl; have y1 := hbs.c 17 _ rfl; have y2 := hbs.c 18 _ rfl; have y3 := hbs.c 19 _ rfl; have y4 := hbs.c 20 _ rfl; have y5 := hbs.c 21 _ rfl; have y6 := hbs.c 22 _ rfl; have y7 := hbs.c 23 _ rfl; go_simp; first | done | with_reducible rfl | (rw [if_pos (by omega)]))
              refine wpAnyH_ready (rs := [11]) (by kernel_rfl) (by simp) ?_
              refine AllReadyH.cons rfl (fun K hK => ?_) AllReadyH.nil
              have xf := XT.out.fz
              have xl := XT.out.lt
              have x0 := XT.out.c 0 _ rfl
              have x1 := XT.out.c 1 _ rfl
              have x2 := XT.out.c 2 _ rfl
              have x3 := XT.out.c 3 _ rfl
              have x4 := XT.out.c 4 _ rfl
              have x5 := XT.out.c 5 _ rfl
              have x6 := XT.out.c 6 _ rfl
              have x7 := XT.out.c 7 _ rfl
              go_simp
              have yT : BoxAt ((((((((w42.setCell ⟨T, 0, none⟩ (.bool b.l)).setCell ⟨T, 1, none⟩ (.string b.a)).setCell ⟨T, 2, none⟩ (.string b.b)).setCell ⟨T, 3, none⟩ (.string b.c)).setCell ⟨T, 4, none⟩ (.int .i64 b.tm)).setCell ⟨T, 5, none⟩ (.int .i64 b.ex)).setCell ⟨T, 6, none⟩ (.int .i64 b.kv)).setCell ⟨T, 7, none⟩ (.slice BA mm mm)) T (rpL b BA mm mm) := ((((((((XT.out.set 0 (.bool b.l) (by simp [zeroRp])).set 1 (.string b.a) (by simp [zeroRp])).set 2 (.string b.b) (by simp [zeroRp])).set 3 (.string b.c) (by simp [zeroRp])).set 4 (.int .i64 b.tm) (by simp [zeroRp])).set 5 (.int .i64 b.ex) (by simp [zeroRp])).set 6 (.int .i64 b.kv) (by simp [zeroRp])).set 7 (.slice BA mm mm) (by simp [zeroRp]))
              have gT : w42.grownBy ((((((((w42.setCell ⟨T, 0, none⟩ (.bool b.l)).setCell ⟨T, 1, none⟩ (.string b.a)).setCell ⟨T, 2, none⟩ (.string b.b)).setCell ⟨T, 3, none⟩ (.string b.c)).setCell ⟨T, 4, none⟩ (.int .i64 b.tm)).setCell ⟨T, 5, none⟩ (.int .i64 b.ex)).setCell ⟨T, 6, none⟩ (.int .i64 b.kv)).setCell ⟨T, 7, none⟩ (.slice BA mm mm)) (some T) := ((((((((grown_set w42 ⟨T, 0, none⟩ (.bool b.l)).trans (grown_set _ ⟨T, 1, none⟩ (.string b.a))).trans (grown_set _ ⟨T, 2, none⟩ (.string b.b))).trans (grown_set _ ⟨T, 3, none⟩ (.string b.c))).trans (grown_set _ ⟨T, 4, none⟩ (.int .i64 b.tm))).trans (grown_set _ ⟨T, 5, none⟩ (.int .i64 b.ex))).trans (grown_set _ ⟨T, 6, none⟩ (.int .i64 b.kv))).trans (grown_set _ ⟨T, 7, none⟩ (.slice BA mm mm)))
              generalize ((((((((w42.setCell ⟨T, 0, none⟩ (.bool b.l)).setCell ⟨T, 1, none⟩ (.string b.a)).setCell ⟨T, 2, none⟩ (.string b.b)).setCell ⟨T, 3, none⟩ (.string b.c)).setCell ⟨T, 4, none⟩ (.int .i64 b.tm)).setCell ⟨T, 5, none⟩ (.int .i64 b.ex)).setCell ⟨T, 6, none⟩ (.int .i64 b.kv)).setCell ⟨T, 7, none⟩ (.slice BA mm mm)) = w99 at yT gT ⊢
              have rl := cell_lt Rr.out.c0
              have hSn := And.intro (hS.1.grown gT hS.1.size (fun k e => by cases e; exact hTb)) (And.intro (hS.2.1.grown gT (by simp; omega)) (And.intro (hS.2.2.1.grown gT (by simp; omega)) (hS.2.2.2.grown gT (by simp; omega))))
              refine hK.out _ _ hSn (fun hS2 => ?_)
              clear hK K hS
              refine wpAnyH_done (by kernel_rfl) ?_ _
              go_wp2_with (fail)
              go_meet
              exact ⟨⟨T, b, BA, mm, mm, rfl, fb.out, RpAt.ofL yT, hB1.out.keep hSn.1, by omega⟩, hSn.1⟩
        case rest =>
          obtain ⟨⟨T, y, YA, yn, ycap, rfl, fy, TY, hy, hyn⟩, Bc⟩ := hcut
          obtain ⟨w20, hw20⟩ : ∃ w20, w20 = wc := ⟨_, rfl⟩
          subst hw20
          have B20 := Lib.hid (below_keep Bc Br)
          clear Bc Br Rr Rb hL1 hS1 hT1 hB1
          replace hy := Lib.hid hy
          have EC := Lib.hid (fun W h => krpenc_any y YA yn ycap fy W h)
          have EF := Lib.hid (fun W h => rpencode_any y YA yn ycap fy W h)
          unfold S9r.Rp.val S9r.Rp.cells at EC EF
          have TYc := TY
          obtain ⟨x0, x1, x2, x3, x4, x5, x6, x7⟩ := TYc
          go_wp2_with (fail)
          refine (EC.out _ hy.out).mono ?_
          rintro e w21 ⟨A1, n1, c1, rfl, hs1, hb1, _⟩
          clear x0 x1 x2 x3 x4 x5 x6 x7
          replace TY := TY.keep hb1
          have TYc := TY
          obtain ⟨x0, x1, x2, x3, x4, x5, x6, x7⟩ := TYc
          have B21 := Lib.hid (below_keep hb1 B20.out)
          replace hy := Lib.hid (hy.out.keep hb1)
          clear hb1 B20
          replace hs1 := Lib.hid hs1
          go_wp2_with (fail)
          refine (EF.out _ hy.out).mono ?_
          rintro e w22 ⟨A2, n2, c2, rfl, hs2, hb2, _⟩
          clear x0 x1 x2 x3 x4 x5 x6 x7
          replace TY := TY.keep hb2
          have B22 := Lib.hid (below_keep hb2 B21.out)
          replace hs1 := Lib.hid (hs1.out.keep hb2)
          replace hy := Lib.hid (hy.out.keep hb2)
          clear hb2 B21 EC EF
          have u1 := conv_sl hs1.out
          have u2 := conv_sl hs2
          clear hs2
          by_cases hc : S9r.chkE y = 0
          · have hne : (S9r.chkE y == 0) = true := by rw [hc]; rfl
            have hd := S9r.dec_enc fy hc
            have he : S9r.encB y = S9r.enc y := by unfold S9r.encB; rw [if_pos hc]
            have hn1 : n1 ≤ 100000 := by have := hs1.out.len; have := S9r.encB_len y; omega
            have DC := krpdec_any A1 n1 c1 _ w22 hs1.out hn1
            unfold RpDec at DC
            rw [he, hd.1, hd.2] at DC
            unfold S9r.Rp.val S9r.Rp.cells at DC
            replace DC := Lib.hid DC
            clear hd he hc
            go_wp2_with (fail)
            refine DC.out.mono ?_
            rintro e w23 ⟨Az, nz, cz, rfl, hsz, hb3, _⟩
            have TY3 := TY.keep hb3
            have TYc := TY3
            obtain ⟨x0, x1, x2, x3, x4, x5, x6, x7⟩ := TYc
            have hb4 : Below w23.heap.size w23 (w23.alloc (.cells #[.bool y.l, .string y.a, .string y.b, .string y.c, .int .i64 y.tm, .int .i64 y.ex, .int .i64 y.kv, .slice Az nz cz] 49)) := (Below.refl _ _).alloc (Nat.le_refl _) _
            have SR := samereply_any y Az YA nz cz yn ycap _ (hsz.keep hb4) ((hy.out.keep hb3).keep hb4)
            unfold S9r.Rp.val S9r.Rp.cells at SR
            replace SR := Lib.hid SR
            have B24 := Lib.hid (below_keep hb4 (below_keep hb3 B22.out))
            have ty := cell_lt x0
            clear hb3 hb4 B22 TY hsz hy
            go_wp2_with (fail)
            refine SR.out.mono ?_
            rintro e w25 ⟨rfl, hb5⟩
            have B25 := Lib.hid (below_keep hb5 B24.out)
            clear hb5 B24
            go_wp2_with (fail)
            go_roundw
            case rel => exact ⟨p + 1, by omega, by go_num, B25.out⟩
            case measure => simp [intOf]; omega
          · have hne : (S9r.chkE y == 0) = false := by simpa using hc
            clear hc
            go_wp2_with (fail)
            go_roundw
            case rel => exact ⟨p + 1, by omega, by go_num, B22.out⟩
            case measure => simp [intOf]; omega
      · go_wp2_with (fail)
        go_ret
        exact ⟨rfl, below_keep Br B5.out⟩

end Go.Proofs.Ytkhkmgblgonfoaa
