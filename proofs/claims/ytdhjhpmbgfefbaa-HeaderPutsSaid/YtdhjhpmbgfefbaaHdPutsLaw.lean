/-
  The law HeaderPuts: the two bytes of any type and byte order, and that they are read as they were, whatever follows.
-/
import Derived.Test.YtdhjhpmbgfefbaaHdH
import Derived.Test.YtdhjhpmbgfefbaaGrow
import Derived.Deep.RegionHeld3
import Derived.Deep.DeepCutAuto
namespace Go.Proofs.Ytdhjhpmbgfefbaa
open Go.RowKit

set_option maxRecDepth 100000 in
set_option maxHeartbeats 6400000 in
theorem putsLaw8_walk (raw small : Int) (little : Bool) (A : Option Addr) (n cap : Nat) (rs : List Int) (w : World) (_ : -9223372036854775808 ≤ raw) (_ : raw ≤ 9223372036854775807) (s0 : 0 ≤ small) (s1 : small ≤ 255) (h : Sl w A n cap rs) :
    Calls Try.prog 3 #[.int .i64 raw, .int .u8 small, .bool little, .slice A n cap] w fun e w' => e = .returned (.bool true) ∧ Below w.heap.size w w' := by
  have hmax := h.max
  unfold maxLen at hmax
  go_enter Try.func3, Try.ntmps3
  go_wp2_with (fail)
  refine (awake8_any _).mono ?_
  rintro e w1 ⟨rfl, hb1⟩
  by_cases k1 : 100 < (n : Int)
  · go_wp2_with (fail)
    go_ret
    exact ⟨rfl, hb1⟩
  · have B1 := Lib.hid hb1
    have h1 := Lib.hid (h.keep hb1)
    clear hb1
    go_wp2_with (fail)
    go_loopw [9] (fun i wr => ∃ p : Nat, p ≤ 2 ∧ i = .int .i64 p ∧ Below w1.heap.size w1 wr) (fun i _ => 2 - (intOf i).toNat)
    case atStart => exact ⟨0, by omega, rfl, Below.refl _ _⟩
    case round =>
      obtain ⟨p, hp, rfl, Br⟩ := hrel
      by_cases hlt : p < 2
      · go_upto_region 8 with (fail)
        go_cut [10] (fun x wx => ∃ v, x = .int .i64 v ∧ Below wr.heap.size wr wx)
        case first =>
          rcases (show p = 0 ∨ p = 1 by omega) with rfl | rfl
          all_goals
            go_wp2_with (fail)
            go_meet
            exact ⟨_, rfl, (Below.refl _ _).alloc (Nat.le_refl _) _⟩
        case rest =>
          obtain ⟨v, rfl, Bc⟩ := hcut
          obtain ⟨w20, hw20⟩ : ∃ w20, w20 = wc := ⟨_, rfl⟩
          subst hw20
          have B20 := Lib.hid (below_keep Bc Br)
          clear Bc Br
          go_wp2_with (fail)
          refine (hput_any v little _).mono ?_
          rintro e w21 ⟨A1, n1, c1, rfl, hs1, hb21, _⟩
          have B21 := Lib.hid (below_keep hb21 B20.out)
          have hn1 := hs1.len
          replace hs1 := Lib.hid hs1
          clear hb21 B20
          go_wp2_with (fail)
          refine wp_region_held_drew (S := (fun W => Below w21.heap.size w21 W ∧ Sl W A1 n1 c1 (S8.put v little))) (by kernel_rfl) ⟨(Below.refl _ _).drew, hs1.out.keep (Below.refl _ _).drew⟩ (fun hS => ?_)
          refine' wpAnyH_take (i := 0) (v := ?v0) rfl (by kernel_rfl) (by kernel_rfl) (by kernel_rfl) (fun _ _ _ h => h) (Or.inl ⟨by kernel_rfl, fun W hW => ?y0⟩) hS ?r0
          case y0 => (go_simp; first | done | with_reducible rfl | (rw [if_pos (by omega)]))
          refine' wpAnyH_take (i := 1) (v := ?v1) rfl (by kernel_rfl) (by kernel_rfl) (by kernel_rfl) (fun _ _ _ h => h) (Or.inl ⟨by kernel_rfl, fun W hW => ?y1⟩) hS ?r1
          case y1 => (have u1 := conv_sl hW.2; go_simp; first | done | with_reducible rfl | (rw [if_pos (by omega)]))
          refine' wpAnyH_take (i := 2) (v := ?v2) rfl (by kernel_rfl) (by kernel_rfl) (by kernel_rfl) (fun _ _ _ h => h) (Or.inl ⟨by kernel_rfl, fun W hW => ?y2⟩) hS ?r2
          case y2 => (go_simp; first | done | with_reducible rfl | (rw [if_pos (by omega)]))
          refine' wpAnyH_take (i := 3) (v := ?v3) rfl (by kernel_rfl) (by kernel_rfl) (by kernel_rfl) (fun _ _ _ h => h) (Or.inl ⟨by kernel_rfl, fun W hW => ?y3⟩) hS ?r3
          case y3 => (go_simp; first | done | with_reducible rfl | (rw [if_pos (by omega)]))
          refine wpAnyH_ready (rs := [4]) (by kernel_rfl) (by simp) ?_
          refine AllReadyH.cons rfl (fun K hK => ?_) AllReadyH.nil
          go_simp
          refine (r8put_any v little _).mono ?_
          rintro e w22 ⟨A2, n2, c2, rfl, hs2, hb2, _⟩
          go_wp2_with (fail)
          have hSn := And.intro (below_keep hb2 hS.1) (hS.2.keep hb2)
          refine hK.out _ _ hSn (fun hS2 => ?_)
          clear hK K hS2 hS hb2
          refine held_grow (S' := (fun W => Below w21.heap.size w21 W ∧ Sl W A1 n1 c1 (S8.put v little) ∧ Sl W A2 n2 c2 (S8.put v little))) (fun W hW => ⟨hW.1, hW.2.1⟩) _ _ _ _ ?_
          have hS : Below w21.heap.size w21 w22 ∧ Sl w22 A1 n1 c1 (S8.put v little) ∧ Sl w22 A2 n2 c2 (S8.put v little) := ⟨hSn.1, hSn.2, hs2⟩
          clear hSn hs2
          refine' wpAnyH_take (i := 5) (v := ?v5) rfl (by kernel_rfl) (by kernel_rfl) (by kernel_rfl) (fun _ _ _ h => h) (Or.inl ⟨by kernel_rfl, fun W hW => ?y5⟩) hS ?r5
          case y5 => (have u2 := conv_sl hW.2.2; go_simp; first | done | with_reducible rfl | (rw [if_pos (by omega)]))
          refine' wpAnyH_take (i := 6) (v := ?v6) rfl (by kernel_rfl) (by kernel_rfl) (by kernel_rfl) (fun _ _ _ h => h) (Or.inl ⟨by kernel_rfl, fun W hW => ?y6⟩) hS ?r6
          case y6 => (go_simp; first | done | with_reducible rfl | (rw [if_pos (by omega)]))
          refine wpAnyH_done (by kernel_rfl) ?_ _
          have B22 := Lib.hid (below_keep hS.1 B21.out)
          have hs22 := Lib.hid hS.2.1
          clear hS hs1 B21
          by_cases hv : 1 ≤ v ∧ v ≤ 10
          · have hp2 := S8.put_ok hv little
            have hl2 : n1 = 2 := by rw [hp2] at hn1; exact hn1.symm
            subst hl2
            have HR := Lib.hid (S8.rd_put hv little rs)
            have hh := Lib.hid (h1.out.keep B22.out)
            have hrg := Lib.hid (S8.put_range v little)
            have Ba := Lib.hid (show Below w22.heap.size w22 (w22.alloc (.cells #[] 5)) from (Below.refl _ _).alloc (Nat.le_refl _) _)
            have hO := Lib.hid (Own.new .u8 5 (w := w22) (Nat.le_refl _) [] (by decide))
            have hlr := Lib.hid h.len
            have hl0 := Lib.hid (S8.put_len v little)
            clear hn1 hp2
            go_wp2_with (first | (at_builtin; refine wpList_push_row rfl (.tmp 46) (.tmp 47) 22 rfl Try.underlying22 u8_infoB (base := w22.heap.size) (v := .slice (some ⟨w22.heap.size, 0, none⟩) 0 0) (zs := []) (ys := S8.put v little) (A := A1) (m := 2) (c := c1) rfl rfl hO.out (hs22.out.keep Ba.out).row (by simp) (by decide) Ba.out.size ?_; intro v4 w4 O4 hg4 _; have B24 := Own.grown Ba.out hO.out hg4; clear hg4; rw [List.nil_append] at O4) | (at_builtin; refine wpList_push_row rfl (.tmp 48) (.tmp 49) 22 rfl Try.underlying22 u8_infoB (base := w22.heap.size) (v := v4) (zs := S8.put v little) (ys := rs) (A := A) (m := n) (c := cap) rfl rfl O4 (hh.out.keep B24).row (by have := hl0.out; omega) (by decide) B24.size ?_; intro v5 w5 O5 hg5 _; have B25 := Own.grown B24 O4 hg5; clear hg5 B24 O4; obtain ⟨A5, n5, c5, rfl, hs5, _⟩ := O5.slf (range_app hrg.out h1.out.range); clear O5))
            have hn5 : n5 ≤ 100000 := by have h1 := hs5.len; have h2 := hlr.out; have h3 := hl0.out; rw [List.length_append] at h1; omega
            have RC := hread_any A5 n5 c5 _ w5 hs5 hn5
            unfold ReadOut at RC
            rw [HR.out.1, HR.out.2.1, HR.out.2.2] at RC
            have B5 := Lib.hid (below_keep B25 B22.out)
            replace RC := Lib.hid RC
            clear B25 hs5 B22
            refine RC.out.mono ?_
            rintro e w6 ⟨rfl, hb6⟩
            have B6 := Lib.hid (below_keep hb6 B5.out)
            clear hb6
            go_wp2_with (fail)
            go_roundw
            case rel => exact ⟨p + 1, by omega, by go_num, B6.out⟩
            case measure => simp [intOf]; omega
          · have hp2 := S8.put_no (by omega : v < 1 ∨ 10 < v) little
            have hl2 : n1 = 0 := by rw [hp2] at hn1; exact hn1.symm
            subst hl2
            clear hn1 hp2
            go_wp2_with (fail)
            go_roundw
            case rel => exact ⟨p + 1, by omega, by go_num, B22.out⟩
            case measure => simp [intOf]; omega
      · go_wp2_with (fail)
        go_ret
        exact ⟨rfl, below_keep Br B1.out⟩

end Go.Proofs.Ytdhjhpmbgfefbaa
