/-
  The law AuthenticatorSeals: the sealed form of any authenticator, and to what any bytes are opened, or the error.
-/
import Derived.Test.YtihacmonohjmaaaQAuL
import Derived.Test.YtihacmonohjmaaaQSpoil
import Derived.Deep.DeepCutAuto
namespace Go.Proofs.Ytihacmonohjmaaa
open Go.RowKit

theorem sealB_len7 (l : Bool) (t : S7.Au) (k : Int) : (S7.sealB l t k).length ≤ 160 := by
  unfold S7.sealB
  split
  · have := S4.mkB_len 2 k (S7.enc l t)
    have := S7.enc_len l ‹_›
    omega
  · simp

set_option maxRecDepth 100000 in
set_option maxHeartbeats 6400000 in
theorem sealsLaw7_walk (t : S7.Au) (LA : Option Addr) (ln lcap : Nat) (ls : List Int) (k n : Int) (A : Option Addr) (bn bcap : Nat) (bs : List Int) (little : Bool) (how : Int) (w : World) (f : t.Fit) (hL : Sl w LA ln lcap ls) (k0 : 0 ≤ k) (k9 : k ≤ 18446744073709551615) (n0 : 0 ≤ n) (n1 : n ≤ 255) (hB : Sl w A bn bcap bs) (h0 : 0 ≤ how) (h1 : how ≤ 65535) :
    Calls Try.prog 6 #[t.val, .slice LA ln lcap, .int .u64 k, .int .u8 n, .slice A bn bcap, .bool little, .int .u16 how] w fun e w' => e = .returned (.bool true) ∧ Below w.heap.size w w' := by
  have Bw := Lib.hid (show Below w.heap.size w (w.alloc (.cells t.cells 25)) from (Below.refl _ _).alloc (Nat.le_refl _) _)
  have R0 := Lib.hid (AuAt.new w t 25)
  have LG := Lib.hid (fun W => long7_any t f W)
  have hmax := hL.max
  have hmb := hB.max
  unfold maxLen at hmax hmb
  have hL0 := Lib.hid (hL.keep Bw.out)
  unfold S7.Au.val S7.Au.cells at LG
  unfold S7.Au.val S7.Au.cells
  unfold S7.Au.cells at Bw R0 hL0
  go_enter Try.func6, Try.ntmps6
  go_wp2_with (fail)
  refine (awake7_any _).mono ?_
  rintro e w1 ⟨rfl, hb1⟩
  have R1 := Lib.hid (R0.out.keep hb1)
  have TYc := R1.out
  obtain ⟨x0, x1, x2, x3, x4, x5⟩ := TYc
  have B1 := Lib.hid (below_keep hb1 Bw.out)
  clear hb1 R0
  go_wp2_with (fail)
  clear x0 x1 x2 x3 x4 x5
  refine (LG.out _).mono ?_
  rintro e w2 ⟨q, rfl, hb2⟩
  have R2 := Lib.hid (R1.out.keep hb2)
  have B2 := Lib.hid (below_keep hb2 B1.out)
  clear hb2 R1 B1
  have ways : q = true ∨ q = false ∧ 40 < (ln : Int) ∨ q = false ∧ (ln : Int) ≤ 40 ∧ 400 < (bn : Int) ∨ q = false ∧ (ln : Int) ≤ 40 ∧ (bn : Int) ≤ 400 := by
    rcases q
    · rcases Int.lt_or_le 40 (ln : Int) with g | g
      · exact .inr (.inl ⟨rfl, g⟩)
      · rcases Int.lt_or_le 400 (bn : Int) with g2 | g2
        · exact .inr (.inr (.inl ⟨rfl, g, g2⟩))
        · exact .inr (.inr (.inr ⟨rfl, g, g2⟩))
    · exact .inl rfl
  rcases ways with rfl | ⟨rfl, k1⟩ | ⟨rfl, k1, k2⟩ | ⟨rfl, k1, k2⟩
  · go_wp2_with (fail)
    go_ret
    exact ⟨rfl, B2.out⟩
  · go_wp2_with (fail)
    go_ret
    exact ⟨rfl, B2.out⟩
  · go_wp2_with (fail)
    go_ret
    exact ⟨rfl, B2.out⟩
  · have hL2 := Lib.hid (hL.keep B2.out)
    have hB4 := Lib.hid (hB.keep B2.out)
    go_wp2_with (fail)
    go_loopw [15] (fun i wr => ∃ p : Nat, p ≤ 4 ∧ i = .int .i64 p ∧ Below w2.heap.size w2 wr) (fun i _ => 4 - (intOf i).toNat)
    case atStart => exact ⟨0, by omega, rfl, Below.refl _ _⟩
    case round =>
      obtain ⟨p, hp, rfl, Br⟩ := hrel
      by_cases hlt : p < 4
      · have Rr := Lib.hid (R2.out.keep Br)
        have hL1 := Lib.hid (hL2.out.keep Br)
        go_upto_region 8 with (fail)
        go_cut [16] (fun x wx => ∃ T y, x = .pointer (some ⟨T, 0, none⟩) ∧ y.Fit ∧ AuAt wx T y ∧ Below wr.heap.size wr wx)
        case first =>
          have hw0 : IntKind.i64.wrap 0 = 0 := by decide
          have hw1 : IntKind.i64.wrap 1 = 1 := by decide
          rcases (show p = 0 ∨ p = 1 ∨ p = 2 ∨ p = 3 by omega) with rfl | rfl | rfl | rfl
          · refine wp_region_held_drew (S := (fun W => Below wr.heap.size wr W ∧ AuAt W w.heap.size t)) (by kernel_rfl) ⟨(Below.refl _ _).drew, Rr.out.drew⟩ (fun hS => ?_)
            generalize wr.drew = w5 at hS ⊢
            refine' wpAnyH_take (i := 0) (v := ?vp0a0) rfl (by kernel_rfl) (by kernel_rfl) (by kernel_rfl) (fun _ _ _ h => h) (Or.inl ⟨by kernel_rfl, fun W hW => ?yp0a0⟩) hS ?rp0a0
            case yp0a0 => (obtain ⟨x0, x1, x2, x3, x4, x5⟩ := hW.2; go_simp; first | done | with_reducible rfl | (rw [if_pos (by omega)]))
            refine' wpAnyH_take (i := 1) (v := ?vp0a1) rfl (by kernel_rfl) (by kernel_rfl) (by kernel_rfl) (fun _ _ _ h => h) (Or.inl ⟨by kernel_rfl, fun W hW => ?yp0a1⟩) hS ?rp0a1
            case yp0a1 => (go_simp; first | done | with_reducible rfl | (rw [if_pos (by omega)]))
            refine' wpAnyH_take (i := 4) (v := ?vp0a4) rfl (by kernel_rfl) (by kernel_rfl) (by kernel_rfl) (fun _ _ _ h => h) (Or.inl ⟨by kernel_rfl, fun W hW => ?yp0a4⟩) hS ?rp0a4
            case yp0a4 => (go_simp; first | done | with_reducible rfl | (rw [if_pos (by omega)]))
            refine' wpAnyH_take (i := 5) (v := ?vp0a5) rfl (by kernel_rfl) (by kernel_rfl) (by kernel_rfl) (fun _ _ _ h => h) (Or.inl ⟨by kernel_rfl, fun W hW => ?yp0a5⟩) hS ?rp0a5
            case yp0a5 => (go_simp; first | done | with_reducible rfl | (rw [if_pos (by omega)]))
            refine wpAnyH_ready (rs := [2, 8]) (by kernel_rfl) (by simp) ?_
            refine AllReadyH.cons rfl (fun K hK => ?_) (AllReadyH.cons rfl (fun K hK => ?_) AllReadyH.nil)
            · go_simp
              refine (authData_any LA ln lcap ls _ (hL1.out.keep hS.1) (by omega)).mono ?_
              rintro e w33 ⟨u, rfl, ou, hb⟩
              have fu := ou.fit
              replace fu := Lib.hid fu
              unfold S7.Au.val S7.Au.cells
              go_wp2_with (fail)
              have hSn := (And.intro (below_keep hb hS.1) (hS.2.keep hb))
              clear hb
              refine hK.out _ _ hSn (fun hS2 => ?_)
              clear hK K hS hSn
              have hS := hS2
              clear hS2
              refine wpAnyH_ready (rs := [3, 8]) (by kernel_rfl) (by simp) ?_
              refine AllReadyH.cons rfl (fun K hK => ?_) (AllReadyH.cons rfl (fun K hK => ?_) AllReadyH.nil)
              · go_simp
                have hb : Below w33.heap.size w33 (w33.alloc (.cells #[.string t.a, .string t.b, .string t.c, .int .i64 t.ck, .int .i64 t.ti, .int .i64 t.tm, .string u.a, .string u.b, .string u.c, .int .i64 u.ck, .int .i64 u.ti, .int .i64 u.tm] 25)) := (Below.refl _ _).alloc (Nat.le_refl _) _
                have XB : BoxAt (w33.alloc (.cells #[.string t.a, .string t.b, .string t.c, .int .i64 t.ck, .int .i64 t.ti, .int .i64 t.tm, .string u.a, .string u.b, .string u.c, .int .i64 u.ck, .int .i64 u.ti, .int .i64 u.tm] 25)) w33.heap.size [.string t.a, .string t.b, .string t.c, .int .i64 t.ck, .int .i64 t.ti, .int .i64 t.tm, .string u.a, .string u.b, .string u.c, .int .i64 u.ck, .int .i64 u.ti, .int .i64 u.tm] := BoxAt.new w33 [.string t.a, .string t.b, .string t.c, .int .i64 t.ck, .int .i64 t.ti, .int .i64 t.tm, .string u.a, .string u.b, .string u.c, .int .i64 u.ck, .int .i64 u.ti, .int .i64 u.tm] 25
                have hSn := (And.intro (below_keep hb hS.1) (hS.2.keep hb))

                obtain ⟨G, hG⟩ : ∃ G, G = w33.heap.size := ⟨_, rfl⟩
                rw [← hG] at XB

                rw [← hG]
                clear hG hb
                generalize (w33.alloc (.cells #[.string t.a, .string t.b, .string t.c, .int .i64 t.ck, .int .i64 t.ti, .int .i64 t.tm, .string u.a, .string u.b, .string u.c, .int .i64 u.ck, .int .i64 u.ti, .int .i64 u.tm] 25)) = w34 at XB hSn ⊢
                refine hK.out _ _ hSn (fun hS2 => ?_)
                clear hK K hS2
                refine held_grow (S' := (fun W => Below wr.heap.size wr W ∧ AuAt W w.heap.size t ∧ BoxAt W G [.string t.a, .string t.b, .string t.c, .int .i64 t.ck, .int .i64 t.ti, .int .i64 t.tm, .string u.a, .string u.b, .string u.c, .int .i64 u.ck, .int .i64 u.ti, .int .i64 u.tm])) (fun W hW => ⟨hW.1, hW.2.1⟩) _ _ _ _ ?_
                replace hS : Below wr.heap.size wr w34 ∧ AuAt w34 w.heap.size t ∧ BoxAt w34 G [.string t.a, .string t.b, .string t.c, .int .i64 t.ck, .int .i64 t.ti, .int .i64 t.tm, .string u.a, .string u.b, .string u.c, .int .i64 u.ck, .int .i64 u.ti, .int .i64 u.tm] := ⟨hSn.1, hSn.2, XB⟩
                clear XB
                refine' wpAnyH_take (i := 6) (v := ?vp0a23_24_6) rfl (by kernel_rfl) (by kernel_rfl) (by kernel_rfl) (fun _ _ _ h => h) (Or.inl ⟨by kernel_rfl, fun W hW => ?yp0a23_24_6⟩) hS ?rp0a23_24_6
                case yp0a23_24_6 => (go_simp; first | done | with_reducible rfl | (rw [if_pos (by omega)]))
                refine' wpAnyH_take (i := 7) (v := ?vp0a23_24_7) rfl (by kernel_rfl) (by kernel_rfl) (by kernel_rfl) (fun _ _ _ h => h) (Or.inl ⟨by kernel_rfl, fun W hW => ?yp0a23_24_7⟩) hS ?rp0a23_24_7
                case yp0a23_24_7 => (obtain ⟨_, _, hbs⟩ := hW; have y0 := hbs.c 0 _ rfl; have y1 := hbs.c 1 _ rfl; have y2 := hbs.c 2 _ rfl; have y3 := hbs.c 3 _ rfl; have y4 := hbs.c 4 _ rfl; have y5 := hbs.c 5 _ rfl; go_simp; first | done | with_reducible rfl | (rw [if_pos (by omega)]))
                refine wpAnyH_ready (rs := [8]) (by kernel_rfl) (by simp) ?_
                refine AllReadyH.cons rfl (fun K hK => ?_) AllReadyH.nil
                go_simp
                have hb : Below w34.heap.size w34 (w34.alloc (.cells #[.string ⟨#[]⟩, .string ⟨#[]⟩, .string ⟨#[]⟩, .int .i64 0, .int .i64 0, .int .i64 0] 25)) := (Below.refl _ _).alloc (Nat.le_refl _) _
                have XT : BoxAt (w34.alloc (.cells #[.string ⟨#[]⟩, .string ⟨#[]⟩, .string ⟨#[]⟩, .int .i64 0, .int .i64 0, .int .i64 0] 25)) w34.heap.size zeroA := BoxAt.new w34 zeroA 25
                have hSn := (And.intro (below_keep hb hS.1) (And.intro (hS.2.1.keep hb) (hS.2.2.keep hb)))
                have hTb := hS.1.size
                have hTG := hS.2.2.lt
                obtain ⟨T, hT⟩ : ∃ T, T = w34.heap.size := ⟨_, rfl⟩
                rw [← hT] at XT hTb hTG
                rw [← hT]
                clear hT hb
                generalize (w34.alloc (.cells #[.string ⟨#[]⟩, .string ⟨#[]⟩, .string ⟨#[]⟩, .int .i64 0, .int .i64 0, .int .i64 0] 25)) = w35 at XT hSn ⊢
                replace XT := Lib.hid XT
                refine hK.out _ _ hSn (fun hS2 => ?_)
                clear hK K hS hSn
                have hS := hS2
                clear hS2
                refine wpAnyH_ready (rs := [9]) (by kernel_rfl) (by simp) ?_
                refine AllReadyH.cons rfl (fun K hK => ?_) AllReadyH.nil
                have xf := XT.out.fz
                have xl := XT.out.lt
                have x0 := XT.out.c 0 _ rfl
                have x1 := XT.out.c 1 _ rfl
                have x2 := XT.out.c 2 _ rfl
                have x3 := XT.out.c 3 _ rfl
                have x4 := XT.out.c 4 _ rfl
                have x5 := XT.out.c 5 _ rfl
                go_simp
                have yT : BoxAt ((((((w35.setCell ⟨T, 0, none⟩ (.string t.a)).setCell ⟨T, 1, none⟩ (.string t.b)).setCell ⟨T, 2, none⟩ (.string t.c)).setCell ⟨T, 3, none⟩ (.int .i64 t.ck)).setCell ⟨T, 4, none⟩ (.int .i64 t.ti)).setCell ⟨T, 5, none⟩ (.int .i64 t.tm)) T (aL t) := ((((((XT.out.set 0 (.string t.a) (by simp [zeroA])).set 1 (.string t.b) (by simp [zeroA])).set 2 (.string t.c) (by simp [zeroA])).set 3 (.int .i64 t.ck) (by simp [zeroA])).set 4 (.int .i64 t.ti) (by simp [zeroA])).set 5 (.int .i64 t.tm) (by simp [zeroA]))
                have gT : w35.grownBy ((((((w35.setCell ⟨T, 0, none⟩ (.string t.a)).setCell ⟨T, 1, none⟩ (.string t.b)).setCell ⟨T, 2, none⟩ (.string t.c)).setCell ⟨T, 3, none⟩ (.int .i64 t.ck)).setCell ⟨T, 4, none⟩ (.int .i64 t.ti)).setCell ⟨T, 5, none⟩ (.int .i64 t.tm)) (some T) := ((((((grown_set w35 ⟨T, 0, none⟩ (.string t.a)).trans (grown_set _ ⟨T, 1, none⟩ (.string t.b))).trans (grown_set _ ⟨T, 2, none⟩ (.string t.c))).trans (grown_set _ ⟨T, 3, none⟩ (.int .i64 t.ck))).trans (grown_set _ ⟨T, 4, none⟩ (.int .i64 t.ti))).trans (grown_set _ ⟨T, 5, none⟩ (.int .i64 t.tm)))
                generalize ((((((w35.setCell ⟨T, 0, none⟩ (.string t.a)).setCell ⟨T, 1, none⟩ (.string t.b)).setCell ⟨T, 2, none⟩ (.string t.c)).setCell ⟨T, 3, none⟩ (.int .i64 t.ck)).setCell ⟨T, 4, none⟩ (.int .i64 t.ti)).setCell ⟨T, 5, none⟩ (.int .i64 t.tm)) = w99 at yT gT ⊢
                have rl := cell_lt Rr.out.c0
                have hSn := And.intro (hS.1.grown gT hS.1.size (fun k e => by cases e; exact hTb)) (And.intro (hS.2.1.grown gT (by simp; omega)) (hS.2.2.grown gT (by simp; omega)))
                refine hK.out _ _ hSn (fun hS2 => ?_)
                clear hK K hS
                refine wpAnyH_done (by kernel_rfl) ?_ _
                go_wp2_with (fail)
                go_meet
                exact ⟨T, t, rfl, f, AuAt.ofL yT, hSn.1⟩
              · go_simp
                have hb : Below w33.heap.size w33 (w33.alloc (.cells #[.string ⟨#[]⟩, .string ⟨#[]⟩, .string ⟨#[]⟩, .int .i64 0, .int .i64 0, .int .i64 0] 25)) := (Below.refl _ _).alloc (Nat.le_refl _) _
                have XT : BoxAt (w33.alloc (.cells #[.string ⟨#[]⟩, .string ⟨#[]⟩, .string ⟨#[]⟩, .int .i64 0, .int .i64 0, .int .i64 0] 25)) w33.heap.size zeroA := BoxAt.new w33 zeroA 25
                have hSn := (And.intro (below_keep hb hS.1) (hS.2.keep hb))
                have hTb := hS.1.size

                obtain ⟨T, hT⟩ : ∃ T, T = w33.heap.size := ⟨_, rfl⟩
                rw [← hT] at XT hTb
                rw [← hT]
                clear hT hb
                generalize (w33.alloc (.cells #[.string ⟨#[]⟩, .string ⟨#[]⟩, .string ⟨#[]⟩, .int .i64 0, .int .i64 0, .int .i64 0] 25)) = w37 at XT hSn ⊢
                replace XT := Lib.hid XT
                refine hK.out _ _ hSn (fun hS2 => ?_)
                clear hK K hS hSn
                have hS := hS2
                clear hS2
                refine wpAnyH_ready (rs := [3]) (by kernel_rfl) (by simp) ?_
                refine AllReadyH.cons rfl (fun K hK => ?_) AllReadyH.nil
                go_simp
                have hb : Below w37.heap.size w37 (w37.alloc (.cells #[.string t.a, .string t.b, .string t.c, .int .i64 t.ck, .int .i64 t.ti, .int .i64 t.tm, .string u.a, .string u.b, .string u.c, .int .i64 u.ck, .int .i64 u.ti, .int .i64 u.tm] 25)) := (Below.refl _ _).alloc (Nat.le_refl _) _
                have XB : BoxAt (w37.alloc (.cells #[.string t.a, .string t.b, .string t.c, .int .i64 t.ck, .int .i64 t.ti, .int .i64 t.tm, .string u.a, .string u.b, .string u.c, .int .i64 u.ck, .int .i64 u.ti, .int .i64 u.tm] 25)) w37.heap.size [.string t.a, .string t.b, .string t.c, .int .i64 t.ck, .int .i64 t.ti, .int .i64 t.tm, .string u.a, .string u.b, .string u.c, .int .i64 u.ck, .int .i64 u.ti, .int .i64 u.tm] := BoxAt.new w37 [.string t.a, .string t.b, .string t.c, .int .i64 t.ck, .int .i64 t.ti, .int .i64 t.tm, .string u.a, .string u.b, .string u.c, .int .i64 u.ck, .int .i64 u.ti, .int .i64 u.tm] 25
                have hSn := (And.intro (below_keep hb hS.1) (hS.2.keep hb))
                have hTG := XT.out.lt
                replace XT := Lib.hid (XT.out.keep hb)
                obtain ⟨G, hG⟩ : ∃ G, G = w37.heap.size := ⟨_, rfl⟩
                rw [← hG] at XB
                rw [← hG] at hTG
                rw [← hG]
                clear hG hb
                generalize (w37.alloc (.cells #[.string t.a, .string t.b, .string t.c, .int .i64 t.ck, .int .i64 t.ti, .int .i64 t.tm, .string u.a, .string u.b, .string u.c, .int .i64 u.ck, .int .i64 u.ti, .int .i64 u.tm] 25)) = w38 at XB hSn XT ⊢
                refine hK.out _ _ hSn (fun hS2 => ?_)
                clear hK K hS2
                refine held_grow (S' := (fun W => Below wr.heap.size wr W ∧ AuAt W w.heap.size t ∧ BoxAt W G [.string t.a, .string t.b, .string t.c, .int .i64 t.ck, .int .i64 t.ti, .int .i64 t.tm, .string u.a, .string u.b, .string u.c, .int .i64 u.ck, .int .i64 u.ti, .int .i64 u.tm])) (fun W hW => ⟨hW.1, hW.2.1⟩) _ _ _ _ ?_
                replace hS : Below wr.heap.size wr w38 ∧ AuAt w38 w.heap.size t ∧ BoxAt w38 G [.string t.a, .string t.b, .string t.c, .int .i64 t.ck, .int .i64 t.ti, .int .i64 t.tm, .string u.a, .string u.b, .string u.c, .int .i64 u.ck, .int .i64 u.ti, .int .i64 u.tm] := ⟨hSn.1, hSn.2, XB⟩
                clear XB
                refine' wpAnyH_take (i := 6) (v := ?vp0a23_27_28_6) rfl (by kernel_rfl) (by kernel_rfl) (by kernel_rfl) (fun _ _ _ h => h) (Or.inl ⟨by kernel_rfl, fun W hW => ?yp0a23_27_28_6⟩) hS ?rp0a23_27_28_6
                case yp0a23_27_28_6 => (go_simp; first | done | with_reducible rfl | (rw [if_pos (by omega)]))
                refine' wpAnyH_take (i := 7) (v := ?vp0a23_27_28_7) rfl (by kernel_rfl) (by kernel_rfl) (by kernel_rfl) (fun _ _ _ h => h) (Or.inl ⟨by kernel_rfl, fun W hW => ?yp0a23_27_28_7⟩) hS ?rp0a23_27_28_7
                case yp0a23_27_28_7 => (obtain ⟨_, _, hbs⟩ := hW; have y0 := hbs.c 0 _ rfl; have y1 := hbs.c 1 _ rfl; have y2 := hbs.c 2 _ rfl; have y3 := hbs.c 3 _ rfl; have y4 := hbs.c 4 _ rfl; have y5 := hbs.c 5 _ rfl; go_simp; first | done | with_reducible rfl | (rw [if_pos (by omega)]))
                refine wpAnyH_ready (rs := [9]) (by kernel_rfl) (by simp) ?_
                refine AllReadyH.cons rfl (fun K hK => ?_) AllReadyH.nil
                have xf := XT.out.fz
                have xl := XT.out.lt
                have x0 := XT.out.c 0 _ rfl
                have x1 := XT.out.c 1 _ rfl
                have x2 := XT.out.c 2 _ rfl
                have x3 := XT.out.c 3 _ rfl
                have x4 := XT.out.c 4 _ rfl
                have x5 := XT.out.c 5 _ rfl
                go_simp
                have yT : BoxAt ((((((w38.setCell ⟨T, 0, none⟩ (.string t.a)).setCell ⟨T, 1, none⟩ (.string t.b)).setCell ⟨T, 2, none⟩ (.string t.c)).setCell ⟨T, 3, none⟩ (.int .i64 t.ck)).setCell ⟨T, 4, none⟩ (.int .i64 t.ti)).setCell ⟨T, 5, none⟩ (.int .i64 t.tm)) T (aL t) := ((((((XT.out.set 0 (.string t.a) (by simp [zeroA])).set 1 (.string t.b) (by simp [zeroA])).set 2 (.string t.c) (by simp [zeroA])).set 3 (.int .i64 t.ck) (by simp [zeroA])).set 4 (.int .i64 t.ti) (by simp [zeroA])).set 5 (.int .i64 t.tm) (by simp [zeroA]))
                have gT : w38.grownBy ((((((w38.setCell ⟨T, 0, none⟩ (.string t.a)).setCell ⟨T, 1, none⟩ (.string t.b)).setCell ⟨T, 2, none⟩ (.string t.c)).setCell ⟨T, 3, none⟩ (.int .i64 t.ck)).setCell ⟨T, 4, none⟩ (.int .i64 t.ti)).setCell ⟨T, 5, none⟩ (.int .i64 t.tm)) (some T) := ((((((grown_set w38 ⟨T, 0, none⟩ (.string t.a)).trans (grown_set _ ⟨T, 1, none⟩ (.string t.b))).trans (grown_set _ ⟨T, 2, none⟩ (.string t.c))).trans (grown_set _ ⟨T, 3, none⟩ (.int .i64 t.ck))).trans (grown_set _ ⟨T, 4, none⟩ (.int .i64 t.ti))).trans (grown_set _ ⟨T, 5, none⟩ (.int .i64 t.tm)))
                generalize ((((((w38.setCell ⟨T, 0, none⟩ (.string t.a)).setCell ⟨T, 1, none⟩ (.string t.b)).setCell ⟨T, 2, none⟩ (.string t.c)).setCell ⟨T, 3, none⟩ (.int .i64 t.ck)).setCell ⟨T, 4, none⟩ (.int .i64 t.ti)).setCell ⟨T, 5, none⟩ (.int .i64 t.tm)) = w99 at yT gT ⊢
                have rl := cell_lt Rr.out.c0
                have hSn := And.intro (hS.1.grown gT hS.1.size (fun k e => by cases e; exact hTb)) (And.intro (hS.2.1.grown gT (by simp; omega)) (hS.2.2.grown gT (by simp; omega)))
                refine hK.out _ _ hSn (fun hS2 => ?_)
                clear hK K hS
                refine wpAnyH_done (by kernel_rfl) ?_ _
                go_wp2_with (fail)
                go_meet
                exact ⟨T, t, rfl, f, AuAt.ofL yT, hSn.1⟩
            · go_simp
              have hb : Below w5.heap.size w5 (w5.alloc (.cells #[.string ⟨#[]⟩, .string ⟨#[]⟩, .string ⟨#[]⟩, .int .i64 0, .int .i64 0, .int .i64 0] 25)) := (Below.refl _ _).alloc (Nat.le_refl _) _
              have XT : BoxAt (w5.alloc (.cells #[.string ⟨#[]⟩, .string ⟨#[]⟩, .string ⟨#[]⟩, .int .i64 0, .int .i64 0, .int .i64 0] 25)) w5.heap.size zeroA := BoxAt.new w5 zeroA 25
              have hSn := (And.intro (below_keep hb hS.1) (hS.2.keep hb))
              have hTb := hS.1.size

              obtain ⟨T, hT⟩ : ∃ T, T = w5.heap.size := ⟨_, rfl⟩
              rw [← hT] at XT hTb
              rw [← hT]
              clear hT hb
              generalize (w5.alloc (.cells #[.string ⟨#[]⟩, .string ⟨#[]⟩, .string ⟨#[]⟩, .int .i64 0, .int .i64 0, .int .i64 0] 25)) = w40 at XT hSn ⊢
              replace XT := Lib.hid XT
              refine hK.out _ _ hSn (fun hS2 => ?_)
              clear hK K hS hSn
              have hS := hS2
              clear hS2
              refine wpAnyH_ready (rs := [2]) (by kernel_rfl) (by simp) ?_
              refine AllReadyH.cons rfl (fun K hK => ?_) AllReadyH.nil
              go_simp
              refine (authData_any LA ln lcap ls _ (hL1.out.keep hS.1) (by omega)).mono ?_
              rintro e w41 ⟨u, rfl, ou, hb⟩
              have fu := ou.fit
              replace fu := Lib.hid fu
              unfold S7.Au.val S7.Au.cells
              go_wp2_with (fail)
              have hSn := (And.intro (below_keep hb hS.1) (hS.2.keep hb))
              replace XT := Lib.hid (XT.out.keep hb)
              clear hb
              refine hK.out _ _ hSn (fun hS2 => ?_)
              clear hK K hS hSn
              have hS := hS2
              clear hS2
              refine wpAnyH_ready (rs := [3]) (by kernel_rfl) (by simp) ?_
              refine AllReadyH.cons rfl (fun K hK => ?_) AllReadyH.nil
              go_simp
              have hb : Below w41.heap.size w41 (w41.alloc (.cells #[.string t.a, .string t.b, .string t.c, .int .i64 t.ck, .int .i64 t.ti, .int .i64 t.tm, .string u.a, .string u.b, .string u.c, .int .i64 u.ck, .int .i64 u.ti, .int .i64 u.tm] 25)) := (Below.refl _ _).alloc (Nat.le_refl _) _
              have XB : BoxAt (w41.alloc (.cells #[.string t.a, .string t.b, .string t.c, .int .i64 t.ck, .int .i64 t.ti, .int .i64 t.tm, .string u.a, .string u.b, .string u.c, .int .i64 u.ck, .int .i64 u.ti, .int .i64 u.tm] 25)) w41.heap.size [.string t.a, .string t.b, .string t.c, .int .i64 t.ck, .int .i64 t.ti, .int .i64 t.tm, .string u.a, .string u.b, .string u.c, .int .i64 u.ck, .int .i64 u.ti, .int .i64 u.tm] := BoxAt.new w41 [.string t.a, .string t.b, .string t.c, .int .i64 t.ck, .int .i64 t.ti, .int .i64 t.tm, .string u.a, .string u.b, .string u.c, .int .i64 u.ck, .int .i64 u.ti, .int .i64 u.tm] 25
              have hSn := (And.intro (below_keep hb hS.1) (hS.2.keep hb))
              have hTG := XT.out.lt
              replace XT := Lib.hid (XT.out.keep hb)
              obtain ⟨G, hG⟩ : ∃ G, G = w41.heap.size := ⟨_, rfl⟩
              rw [← hG] at XB
              rw [← hG] at hTG
              rw [← hG]
              clear hG hb
              generalize (w41.alloc (.cells #[.string t.a, .string t.b, .string t.c, .int .i64 t.ck, .int .i64 t.ti, .int .i64 t.tm, .string u.a, .string u.b, .string u.c, .int .i64 u.ck, .int .i64 u.ti, .int .i64 u.tm] 25)) = w42 at XB hSn XT ⊢
              refine hK.out _ _ hSn (fun hS2 => ?_)
              clear hK K hS2
              refine held_grow (S' := (fun W => Below wr.heap.size wr W ∧ AuAt W w.heap.size t ∧ BoxAt W G [.string t.a, .string t.b, .string t.c, .int .i64 t.ck, .int .i64 t.ti, .int .i64 t.tm, .string u.a, .string u.b, .string u.c, .int .i64 u.ck, .int .i64 u.ti, .int .i64 u.tm])) (fun W hW => ⟨hW.1, hW.2.1⟩) _ _ _ _ ?_
              replace hS : Below wr.heap.size wr w42 ∧ AuAt w42 w.heap.size t ∧ BoxAt w42 G [.string t.a, .string t.b, .string t.c, .int .i64 t.ck, .int .i64 t.ti, .int .i64 t.tm, .string u.a, .string u.b, .string u.c, .int .i64 u.ck, .int .i64 u.ti, .int .i64 u.tm] := ⟨hSn.1, hSn.2, XB⟩
              clear XB
              refine' wpAnyH_take (i := 6) (v := ?vp0a30_31_32_6) rfl (by kernel_rfl) (by kernel_rfl) (by kernel_rfl) (fun _ _ _ h => h) (Or.inl ⟨by kernel_rfl, fun W hW => ?yp0a30_31_32_6⟩) hS ?rp0a30_31_32_6
              case yp0a30_31_32_6 => (go_simp; first | done | with_reducible rfl | (rw [if_pos (by omega)]))
              refine' wpAnyH_take (i := 7) (v := ?vp0a30_31_32_7) rfl (by kernel_rfl) (by kernel_rfl) (by kernel_rfl) (fun _ _ _ h => h) (Or.inl ⟨by kernel_rfl, fun W hW => ?yp0a30_31_32_7⟩) hS ?rp0a30_31_32_7
              case yp0a30_31_32_7 => (obtain ⟨_, _, hbs⟩ := hW; have y0 := hbs.c 0 _ rfl; have y1 := hbs.c 1 _ rfl; have y2 := hbs.c 2 _ rfl; have y3 := hbs.c 3 _ rfl; have y4 := hbs.c 4 _ rfl; have y5 := hbs.c 5 _ rfl; go_simp; first | done | with_reducible rfl | (rw [if_pos (by omega)]))
              refine wpAnyH_ready (rs := [9]) (by kernel_rfl) (by simp) ?_
              refine AllReadyH.cons rfl (fun K hK => ?_) AllReadyH.nil
              have xf := XT.out.fz
              have xl := XT.out.lt
              have x0 := XT.out.c 0 _ rfl
              have x1 := XT.out.c 1 _ rfl
              have x2 := XT.out.c 2 _ rfl
              have x3 := XT.out.c 3 _ rfl
              have x4 := XT.out.c 4 _ rfl
              have x5 := XT.out.c 5 _ rfl
              go_simp
              have yT : BoxAt ((((((w42.setCell ⟨T, 0, none⟩ (.string t.a)).setCell ⟨T, 1, none⟩ (.string t.b)).setCell ⟨T, 2, none⟩ (.string t.c)).setCell ⟨T, 3, none⟩ (.int .i64 t.ck)).setCell ⟨T, 4, none⟩ (.int .i64 t.ti)).setCell ⟨T, 5, none⟩ (.int .i64 t.tm)) T (aL t) := ((((((XT.out.set 0 (.string t.a) (by simp [zeroA])).set 1 (.string t.b) (by simp [zeroA])).set 2 (.string t.c) (by simp [zeroA])).set 3 (.int .i64 t.ck) (by simp [zeroA])).set 4 (.int .i64 t.ti) (by simp [zeroA])).set 5 (.int .i64 t.tm) (by simp [zeroA]))
              have gT : w42.grownBy ((((((w42.setCell ⟨T, 0, none⟩ (.string t.a)).setCell ⟨T, 1, none⟩ (.string t.b)).setCell ⟨T, 2, none⟩ (.string t.c)).setCell ⟨T, 3, none⟩ (.int .i64 t.ck)).setCell ⟨T, 4, none⟩ (.int .i64 t.ti)).setCell ⟨T, 5, none⟩ (.int .i64 t.tm)) (some T) := ((((((grown_set w42 ⟨T, 0, none⟩ (.string t.a)).trans (grown_set _ ⟨T, 1, none⟩ (.string t.b))).trans (grown_set _ ⟨T, 2, none⟩ (.string t.c))).trans (grown_set _ ⟨T, 3, none⟩ (.int .i64 t.ck))).trans (grown_set _ ⟨T, 4, none⟩ (.int .i64 t.ti))).trans (grown_set _ ⟨T, 5, none⟩ (.int .i64 t.tm)))
              generalize ((((((w42.setCell ⟨T, 0, none⟩ (.string t.a)).setCell ⟨T, 1, none⟩ (.string t.b)).setCell ⟨T, 2, none⟩ (.string t.c)).setCell ⟨T, 3, none⟩ (.int .i64 t.ck)).setCell ⟨T, 4, none⟩ (.int .i64 t.ti)).setCell ⟨T, 5, none⟩ (.int .i64 t.tm)) = w99 at yT gT ⊢
              have rl := cell_lt Rr.out.c0
              have hSn := And.intro (hS.1.grown gT hS.1.size (fun k e => by cases e; exact hTb)) (And.intro (hS.2.1.grown gT (by simp; omega)) (hS.2.2.grown gT (by simp; omega)))
              refine hK.out _ _ hSn (fun hS2 => ?_)
              clear hK K hS
              refine wpAnyH_done (by kernel_rfl) ?_ _
              go_wp2_with (fail)
              go_meet
              exact ⟨T, t, rfl, f, AuAt.ofL yT, hSn.1⟩
          · refine wp_region_held_drew (S := (fun W => Below wr.heap.size wr W ∧ AuAt W w.heap.size t)) (by kernel_rfl) ⟨(Below.refl _ _).drew, Rr.out.drew⟩ (fun hS => ?_)
            generalize wr.drew = w5 at hS ⊢
            refine' wpAnyH_take (i := 0) (v := ?vp0b0) rfl (by kernel_rfl) (by kernel_rfl) (by kernel_rfl) (fun _ _ _ h => h) (Or.inl ⟨by kernel_rfl, fun W hW => ?yp0b0⟩) hS ?rp0b0
            case yp0b0 => (obtain ⟨x0, x1, x2, x3, x4, x5⟩ := hW.2; go_simp; first | done | with_reducible rfl | (rw [if_pos (by omega)]))
            refine' wpAnyH_take (i := 1) (v := ?vp0b1) rfl (by kernel_rfl) (by kernel_rfl) (by kernel_rfl) (fun _ _ _ h => h) (Or.inl ⟨by kernel_rfl, fun W hW => ?yp0b1⟩) hS ?rp0b1
            case yp0b1 => (go_simp; first | done | with_reducible rfl | (rw [if_pos (by omega)]))
            refine' wpAnyH_take (i := 4) (v := ?vp0b4) rfl (by kernel_rfl) (by kernel_rfl) (by kernel_rfl) (fun _ _ _ h => h) (Or.inl ⟨by kernel_rfl, fun W hW => ?yp0b4⟩) hS ?rp0b4
            case yp0b4 => (go_simp; first | done | with_reducible rfl | (rw [if_pos (by omega)]))
            refine' wpAnyH_take (i := 5) (v := ?vp0b5) rfl (by kernel_rfl) (by kernel_rfl) (by kernel_rfl) (fun _ _ _ h => h) (Or.inl ⟨by kernel_rfl, fun W hW => ?yp0b5⟩) hS ?rp0b5
            case yp0b5 => (go_simp; first | done | with_reducible rfl | (rw [if_pos (by omega)]))
            refine wpAnyH_ready (rs := [2, 8]) (by kernel_rfl) (by simp) ?_
            refine AllReadyH.cons rfl (fun K hK => ?_) (AllReadyH.cons rfl (fun K hK => ?_) AllReadyH.nil)
            · go_simp
              refine (authData_any LA ln lcap ls _ (hL1.out.keep hS.1) (by omega)).mono ?_
              rintro e w44 ⟨u, rfl, ou, hb⟩
              have fu := ou.fit
              replace fu := Lib.hid fu
              unfold S7.Au.val S7.Au.cells
              go_wp2_with (fail)
              have hSn := (And.intro (below_keep hb hS.1) (hS.2.keep hb))
              clear hb
              refine hK.out _ _ hSn (fun hS2 => ?_)
              clear hK K hS hSn
              have hS := hS2
              clear hS2
              refine wpAnyH_ready (rs := [3, 8]) (by kernel_rfl) (by simp) ?_
              refine AllReadyH.cons rfl (fun K hK => ?_) (AllReadyH.cons rfl (fun K hK => ?_) AllReadyH.nil)
              · go_simp
                have hb : Below w44.heap.size w44 (w44.alloc (.cells #[.string t.a, .string t.b, .string t.c, .int .i64 t.ck, .int .i64 t.ti, .int .i64 t.tm, .string u.a, .string u.b, .string u.c, .int .i64 u.ck, .int .i64 u.ti, .int .i64 u.tm] 25)) := (Below.refl _ _).alloc (Nat.le_refl _) _
                have XB : BoxAt (w44.alloc (.cells #[.string t.a, .string t.b, .string t.c, .int .i64 t.ck, .int .i64 t.ti, .int .i64 t.tm, .string u.a, .string u.b, .string u.c, .int .i64 u.ck, .int .i64 u.ti, .int .i64 u.tm] 25)) w44.heap.size [.string t.a, .string t.b, .string t.c, .int .i64 t.ck, .int .i64 t.ti, .int .i64 t.tm, .string u.a, .string u.b, .string u.c, .int .i64 u.ck, .int .i64 u.ti, .int .i64 u.tm] := BoxAt.new w44 [.string t.a, .string t.b, .string t.c, .int .i64 t.ck, .int .i64 t.ti, .int .i64 t.tm, .string u.a, .string u.b, .string u.c, .int .i64 u.ck, .int .i64 u.ti, .int .i64 u.tm] 25
                have hSn := (And.intro (below_keep hb hS.1) (hS.2.keep hb))

                obtain ⟨G, hG⟩ : ∃ G, G = w44.heap.size := ⟨_, rfl⟩
                rw [← hG] at XB

                rw [← hG]
                clear hG hb
                generalize (w44.alloc (.cells #[.string t.a, .string t.b, .string t.c, .int .i64 t.ck, .int .i64 t.ti, .int .i64 t.tm, .string u.a, .string u.b, .string u.c, .int .i64 u.ck, .int .i64 u.ti, .int .i64 u.tm] 25)) = w45 at XB hSn ⊢
                refine hK.out _ _ hSn (fun hS2 => ?_)
                clear hK K hS2
                refine held_grow (S' := (fun W => Below wr.heap.size wr W ∧ AuAt W w.heap.size t ∧ BoxAt W G [.string t.a, .string t.b, .string t.c, .int .i64 t.ck, .int .i64 t.ti, .int .i64 t.tm, .string u.a, .string u.b, .string u.c, .int .i64 u.ck, .int .i64 u.ti, .int .i64 u.tm])) (fun W hW => ⟨hW.1, hW.2.1⟩) _ _ _ _ ?_
                replace hS : Below wr.heap.size wr w45 ∧ AuAt w45 w.heap.size t ∧ BoxAt w45 G [.string t.a, .string t.b, .string t.c, .int .i64 t.ck, .int .i64 t.ti, .int .i64 t.tm, .string u.a, .string u.b, .string u.c, .int .i64 u.ck, .int .i64 u.ti, .int .i64 u.tm] := ⟨hSn.1, hSn.2, XB⟩
                clear XB
                refine' wpAnyH_take (i := 6) (v := ?vp0b34_35_6) rfl (by kernel_rfl) (by kernel_rfl) (by kernel_rfl) (fun _ _ _ h => h) (Or.inl ⟨by kernel_rfl, fun W hW => ?yp0b34_35_6⟩) hS ?rp0b34_35_6
                case yp0b34_35_6 => (go_simp; first | done | with_reducible rfl | (rw [if_pos (by omega)]))
                refine' wpAnyH_take (i := 7) (v := ?vp0b34_35_7) rfl (by kernel_rfl) (by kernel_rfl) (by kernel_rfl) (fun _ _ _ h => h) (Or.inl ⟨by kernel_rfl, fun W hW => ?yp0b34_35_7⟩) hS ?rp0b34_35_7
                case yp0b34_35_7 => (obtain ⟨_, _, hbs⟩ := hW; have y0 := hbs.c 0 _ rfl; have y1 := hbs.c 1 _ rfl; have y2 := hbs.c 2 _ rfl; have y3 := hbs.c 3 _ rfl; have y4 := hbs.c 4 _ rfl; have y5 := hbs.c 5 _ rfl; go_simp; first | done | with_reducible rfl | (rw [if_pos (by omega)]))
                refine wpAnyH_ready (rs := [8]) (by kernel_rfl) (by simp) ?_
                refine AllReadyH.cons rfl (fun K hK => ?_) AllReadyH.nil
                go_simp
                have hb : Below w45.heap.size w45 (w45.alloc (.cells #[.string ⟨#[]⟩, .string ⟨#[]⟩, .string ⟨#[]⟩, .int .i64 0, .int .i64 0, .int .i64 0] 25)) := (Below.refl _ _).alloc (Nat.le_refl _) _
                have XT : BoxAt (w45.alloc (.cells #[.string ⟨#[]⟩, .string ⟨#[]⟩, .string ⟨#[]⟩, .int .i64 0, .int .i64 0, .int .i64 0] 25)) w45.heap.size zeroA := BoxAt.new w45 zeroA 25
                have hSn := (And.intro (below_keep hb hS.1) (And.intro (hS.2.1.keep hb) (hS.2.2.keep hb)))
                have hTb := hS.1.size
                have hTG := hS.2.2.lt
                obtain ⟨T, hT⟩ : ∃ T, T = w45.heap.size := ⟨_, rfl⟩
                rw [← hT] at XT hTb hTG
                rw [← hT]
                clear hT hb
                generalize (w45.alloc (.cells #[.string ⟨#[]⟩, .string ⟨#[]⟩, .string ⟨#[]⟩, .int .i64 0, .int .i64 0, .int .i64 0] 25)) = w46 at XT hSn ⊢
                replace XT := Lib.hid XT
                refine hK.out _ _ hSn (fun hS2 => ?_)
                clear hK K hS hSn
                have hS := hS2
                clear hS2
                refine wpAnyH_ready (rs := [9]) (by kernel_rfl) (by simp) ?_
                refine AllReadyH.cons rfl (fun K hK => ?_) AllReadyH.nil
                have xf := XT.out.fz
                have xl := XT.out.lt
                have x0 := XT.out.c 0 _ rfl
                have x1 := XT.out.c 1 _ rfl
                have x2 := XT.out.c 2 _ rfl
                have x3 := XT.out.c 3 _ rfl
                have x4 := XT.out.c 4 _ rfl
                have x5 := XT.out.c 5 _ rfl
                go_simp
                have yT : BoxAt ((((((w46.setCell ⟨T, 0, none⟩ (.string t.a)).setCell ⟨T, 1, none⟩ (.string t.b)).setCell ⟨T, 2, none⟩ (.string t.c)).setCell ⟨T, 3, none⟩ (.int .i64 t.ck)).setCell ⟨T, 4, none⟩ (.int .i64 t.ti)).setCell ⟨T, 5, none⟩ (.int .i64 t.tm)) T (aL t) := ((((((XT.out.set 0 (.string t.a) (by simp [zeroA])).set 1 (.string t.b) (by simp [zeroA])).set 2 (.string t.c) (by simp [zeroA])).set 3 (.int .i64 t.ck) (by simp [zeroA])).set 4 (.int .i64 t.ti) (by simp [zeroA])).set 5 (.int .i64 t.tm) (by simp [zeroA]))
                have gT : w46.grownBy ((((((w46.setCell ⟨T, 0, none⟩ (.string t.a)).setCell ⟨T, 1, none⟩ (.string t.b)).setCell ⟨T, 2, none⟩ (.string t.c)).setCell ⟨T, 3, none⟩ (.int .i64 t.ck)).setCell ⟨T, 4, none⟩ (.int .i64 t.ti)).setCell ⟨T, 5, none⟩ (.int .i64 t.tm)) (some T) := ((((((grown_set w46 ⟨T, 0, none⟩ (.string t.a)).trans (grown_set _ ⟨T, 1, none⟩ (.string t.b))).trans (grown_set _ ⟨T, 2, none⟩ (.string t.c))).trans (grown_set _ ⟨T, 3, none⟩ (.int .i64 t.ck))).trans (grown_set _ ⟨T, 4, none⟩ (.int .i64 t.ti))).trans (grown_set _ ⟨T, 5, none⟩ (.int .i64 t.tm)))
                generalize ((((((w46.setCell ⟨T, 0, none⟩ (.string t.a)).setCell ⟨T, 1, none⟩ (.string t.b)).setCell ⟨T, 2, none⟩ (.string t.c)).setCell ⟨T, 3, none⟩ (.int .i64 t.ck)).setCell ⟨T, 4, none⟩ (.int .i64 t.ti)).setCell ⟨T, 5, none⟩ (.int .i64 t.tm)) = w99 at yT gT ⊢
                have rl := cell_lt Rr.out.c0
                have hSn := And.intro (hS.1.grown gT hS.1.size (fun k e => by cases e; exact hTb)) (And.intro (hS.2.1.grown gT (by simp; omega)) (hS.2.2.grown gT (by simp; omega)))
                refine hK.out _ _ hSn (fun hS2 => ?_)
                clear hK K hS
                refine wpAnyH_done (by kernel_rfl) ?_ _
                go_wp2_with (fail)
                go_meet
                exact ⟨T, t, rfl, f, AuAt.ofL yT, hSn.1⟩
              · go_simp
                have hb : Below w44.heap.size w44 (w44.alloc (.cells #[.string ⟨#[]⟩, .string ⟨#[]⟩, .string ⟨#[]⟩, .int .i64 0, .int .i64 0, .int .i64 0] 25)) := (Below.refl _ _).alloc (Nat.le_refl _) _
                have XT : BoxAt (w44.alloc (.cells #[.string ⟨#[]⟩, .string ⟨#[]⟩, .string ⟨#[]⟩, .int .i64 0, .int .i64 0, .int .i64 0] 25)) w44.heap.size zeroA := BoxAt.new w44 zeroA 25
                have hSn := (And.intro (below_keep hb hS.1) (hS.2.keep hb))
                have hTb := hS.1.size

                obtain ⟨T, hT⟩ : ∃ T, T = w44.heap.size := ⟨_, rfl⟩
                rw [← hT] at XT hTb
                rw [← hT]
                clear hT hb
                generalize (w44.alloc (.cells #[.string ⟨#[]⟩, .string ⟨#[]⟩, .string ⟨#[]⟩, .int .i64 0, .int .i64 0, .int .i64 0] 25)) = w48 at XT hSn ⊢
                replace XT := Lib.hid XT
                refine hK.out _ _ hSn (fun hS2 => ?_)
                clear hK K hS hSn
                have hS := hS2
                clear hS2
                refine wpAnyH_ready (rs := [3]) (by kernel_rfl) (by simp) ?_
                refine AllReadyH.cons rfl (fun K hK => ?_) AllReadyH.nil
                go_simp
                have hb : Below w48.heap.size w48 (w48.alloc (.cells #[.string t.a, .string t.b, .string t.c, .int .i64 t.ck, .int .i64 t.ti, .int .i64 t.tm, .string u.a, .string u.b, .string u.c, .int .i64 u.ck, .int .i64 u.ti, .int .i64 u.tm] 25)) := (Below.refl _ _).alloc (Nat.le_refl _) _
                have XB : BoxAt (w48.alloc (.cells #[.string t.a, .string t.b, .string t.c, .int .i64 t.ck, .int .i64 t.ti, .int .i64 t.tm, .string u.a, .string u.b, .string u.c, .int .i64 u.ck, .int .i64 u.ti, .int .i64 u.tm] 25)) w48.heap.size [.string t.a, .string t.b, .string t.c, .int .i64 t.ck, .int .i64 t.ti, .int .i64 t.tm, .string u.a, .string u.b, .string u.c, .int .i64 u.ck, .int .i64 u.ti, .int .i64 u.tm] := BoxAt.new w48 [.string t.a, .string t.b, .string t.c, .int .i64 t.ck, .int .i64 t.ti, .int .i64 t.tm, .string u.a, .string u.b, .string u.c, .int .i64 u.ck, .int .i64 u.ti, .int .i64 u.tm] 25
                have hSn := (And.intro (below_keep hb hS.1) (hS.2.keep hb))
                have hTG := XT.out.lt
                replace XT := Lib.hid (XT.out.keep hb)
                obtain ⟨G, hG⟩ : ∃ G, G = w48.heap.size := ⟨_, rfl⟩
                rw [← hG] at XB
                rw [← hG] at hTG
                rw [← hG]
                clear hG hb
                generalize (w48.alloc (.cells #[.string t.a, .string t.b, .string t.c, .int .i64 t.ck, .int .i64 t.ti, .int .i64 t.tm, .string u.a, .string u.b, .string u.c, .int .i64 u.ck, .int .i64 u.ti, .int .i64 u.tm] 25)) = w49 at XB hSn XT ⊢
                refine hK.out _ _ hSn (fun hS2 => ?_)
                clear hK K hS2
                refine held_grow (S' := (fun W => Below wr.heap.size wr W ∧ AuAt W w.heap.size t ∧ BoxAt W G [.string t.a, .string t.b, .string t.c, .int .i64 t.ck, .int .i64 t.ti, .int .i64 t.tm, .string u.a, .string u.b, .string u.c, .int .i64 u.ck, .int .i64 u.ti, .int .i64 u.tm])) (fun W hW => ⟨hW.1, hW.2.1⟩) _ _ _ _ ?_
                replace hS : Below wr.heap.size wr w49 ∧ AuAt w49 w.heap.size t ∧ BoxAt w49 G [.string t.a, .string t.b, .string t.c, .int .i64 t.ck, .int .i64 t.ti, .int .i64 t.tm, .string u.a, .string u.b, .string u.c, .int .i64 u.ck, .int .i64 u.ti, .int .i64 u.tm] := ⟨hSn.1, hSn.2, XB⟩
                clear XB
                refine' wpAnyH_take (i := 6) (v := ?vp0b34_38_39_6) rfl (by kernel_rfl) (by kernel_rfl) (by kernel_rfl) (fun _ _ _ h => h) (Or.inl ⟨by kernel_rfl, fun W hW => ?yp0b34_38_39_6⟩) hS ?rp0b34_38_39_6
                case yp0b34_38_39_6 => (go_simp; first | done | with_reducible rfl | (rw [if_pos (by omega)]))
                refine' wpAnyH_take (i := 7) (v := ?vp0b34_38_39_7) rfl (by kernel_rfl) (by kernel_rfl) (by kernel_rfl) (fun _ _ _ h => h) (Or.inl ⟨by kernel_rfl, fun W hW => ?yp0b34_38_39_7⟩) hS ?rp0b34_38_39_7
                case yp0b34_38_39_7 => (obtain ⟨_, _, hbs⟩ := hW; have y0 := hbs.c 0 _ rfl; have y1 := hbs.c 1 _ rfl; have y2 := hbs.c 2 _ rfl; have y3 := hbs.c 3 _ rfl; have y4 := hbs.c 4 _ rfl; have y5 := hbs.c 5 _ rfl; go_simp; first | done | with_reducible rfl | (rw [if_pos (by omega)]))
                refine wpAnyH_ready (rs := [9]) (by kernel_rfl) (by simp) ?_
                refine AllReadyH.cons rfl (fun K hK => ?_) AllReadyH.nil
                have xf := XT.out.fz
                have xl := XT.out.lt
                have x0 := XT.out.c 0 _ rfl
                have x1 := XT.out.c 1 _ rfl
                have x2 := XT.out.c 2 _ rfl
                have x3 := XT.out.c 3 _ rfl
                have x4 := XT.out.c 4 _ rfl
                have x5 := XT.out.c 5 _ rfl
                go_simp
                have yT : BoxAt ((((((w49.setCell ⟨T, 0, none⟩ (.string t.a)).setCell ⟨T, 1, none⟩ (.string t.b)).setCell ⟨T, 2, none⟩ (.string t.c)).setCell ⟨T, 3, none⟩ (.int .i64 t.ck)).setCell ⟨T, 4, none⟩ (.int .i64 t.ti)).setCell ⟨T, 5, none⟩ (.int .i64 t.tm)) T (aL t) := ((((((XT.out.set 0 (.string t.a) (by simp [zeroA])).set 1 (.string t.b) (by simp [zeroA])).set 2 (.string t.c) (by simp [zeroA])).set 3 (.int .i64 t.ck) (by simp [zeroA])).set 4 (.int .i64 t.ti) (by simp [zeroA])).set 5 (.int .i64 t.tm) (by simp [zeroA]))
                have gT : w49.grownBy ((((((w49.setCell ⟨T, 0, none⟩ (.string t.a)).setCell ⟨T, 1, none⟩ (.string t.b)).setCell ⟨T, 2, none⟩ (.string t.c)).setCell ⟨T, 3, none⟩ (.int .i64 t.ck)).setCell ⟨T, 4, none⟩ (.int .i64 t.ti)).setCell ⟨T, 5, none⟩ (.int .i64 t.tm)) (some T) := ((((((grown_set w49 ⟨T, 0, none⟩ (.string t.a)).trans (grown_set _ ⟨T, 1, none⟩ (.string t.b))).trans (grown_set _ ⟨T, 2, none⟩ (.string t.c))).trans (grown_set _ ⟨T, 3, none⟩ (.int .i64 t.ck))).trans (grown_set _ ⟨T, 4, none⟩ (.int .i64 t.ti))).trans (grown_set _ ⟨T, 5, none⟩ (.int .i64 t.tm)))
                generalize ((((((w49.setCell ⟨T, 0, none⟩ (.string t.a)).setCell ⟨T, 1, none⟩ (.string t.b)).setCell ⟨T, 2, none⟩ (.string t.c)).setCell ⟨T, 3, none⟩ (.int .i64 t.ck)).setCell ⟨T, 4, none⟩ (.int .i64 t.ti)).setCell ⟨T, 5, none⟩ (.int .i64 t.tm)) = w99 at yT gT ⊢
                have rl := cell_lt Rr.out.c0
                have hSn := And.intro (hS.1.grown gT hS.1.size (fun k e => by cases e; exact hTb)) (And.intro (hS.2.1.grown gT (by simp; omega)) (hS.2.2.grown gT (by simp; omega)))
                refine hK.out _ _ hSn (fun hS2 => ?_)
                clear hK K hS
                refine wpAnyH_done (by kernel_rfl) ?_ _
                go_wp2_with (fail)
                go_meet
                exact ⟨T, t, rfl, f, AuAt.ofL yT, hSn.1⟩
            · go_simp
              have hb : Below w5.heap.size w5 (w5.alloc (.cells #[.string ⟨#[]⟩, .string ⟨#[]⟩, .string ⟨#[]⟩, .int .i64 0, .int .i64 0, .int .i64 0] 25)) := (Below.refl _ _).alloc (Nat.le_refl _) _
              have XT : BoxAt (w5.alloc (.cells #[.string ⟨#[]⟩, .string ⟨#[]⟩, .string ⟨#[]⟩, .int .i64 0, .int .i64 0, .int .i64 0] 25)) w5.heap.size zeroA := BoxAt.new w5 zeroA 25
              have hSn := (And.intro (below_keep hb hS.1) (hS.2.keep hb))
              have hTb := hS.1.size

              obtain ⟨T, hT⟩ : ∃ T, T = w5.heap.size := ⟨_, rfl⟩
              rw [← hT] at XT hTb
              rw [← hT]
              clear hT hb
              generalize (w5.alloc (.cells #[.string ⟨#[]⟩, .string ⟨#[]⟩, .string ⟨#[]⟩, .int .i64 0, .int .i64 0, .int .i64 0] 25)) = w51 at XT hSn ⊢
              replace XT := Lib.hid XT
              refine hK.out _ _ hSn (fun hS2 => ?_)
              clear hK K hS hSn
              have hS := hS2
              clear hS2
              refine wpAnyH_ready (rs := [2]) (by kernel_rfl) (by simp) ?_
              refine AllReadyH.cons rfl (fun K hK => ?_) AllReadyH.nil
              go_simp
              refine (authData_any LA ln lcap ls _ (hL1.out.keep hS.1) (by omega)).mono ?_
              rintro e w52 ⟨u, rfl, ou, hb⟩
              have fu := ou.fit
              replace fu := Lib.hid fu
              unfold S7.Au.val S7.Au.cells
              go_wp2_with (fail)
              have hSn := (And.intro (below_keep hb hS.1) (hS.2.keep hb))
              replace XT := Lib.hid (XT.out.keep hb)
              clear hb
              refine hK.out _ _ hSn (fun hS2 => ?_)
              clear hK K hS hSn
              have hS := hS2
              clear hS2
              refine wpAnyH_ready (rs := [3]) (by kernel_rfl) (by simp) ?_
              refine AllReadyH.cons rfl (fun K hK => ?_) AllReadyH.nil
              go_simp
              have hb : Below w52.heap.size w52 (w52.alloc (.cells #[.string t.a, .string t.b, .string t.c, .int .i64 t.ck, .int .i64 t.ti, .int .i64 t.tm, .string u.a, .string u.b, .string u.c, .int .i64 u.ck, .int .i64 u.ti, .int .i64 u.tm] 25)) := (Below.refl _ _).alloc (Nat.le_refl _) _
              have XB : BoxAt (w52.alloc (.cells #[.string t.a, .string t.b, .string t.c, .int .i64 t.ck, .int .i64 t.ti, .int .i64 t.tm, .string u.a, .string u.b, .string u.c, .int .i64 u.ck, .int .i64 u.ti, .int .i64 u.tm] 25)) w52.heap.size [.string t.a, .string t.b, .string t.c, .int .i64 t.ck, .int .i64 t.ti, .int .i64 t.tm, .string u.a, .string u.b, .string u.c, .int .i64 u.ck, .int .i64 u.ti, .int .i64 u.tm] := BoxAt.new w52 [.string t.a, .string t.b, .string t.c, .int .i64 t.ck, .int .i64 t.ti, .int .i64 t.tm, .string u.a, .string u.b, .string u.c, .int .i64 u.ck, .int .i64 u.ti, .int .i64 u.tm] 25
              have hSn := (And.intro (below_keep hb hS.1) (hS.2.keep hb))
              have hTG := XT.out.lt
              replace XT := Lib.hid (XT.out.keep hb)
              obtain ⟨G, hG⟩ : ∃ G, G = w52.heap.size := ⟨_, rfl⟩
              rw [← hG] at XB
              rw [← hG] at hTG
              rw [← hG]
              clear hG hb
              generalize (w52.alloc (.cells #[.string t.a, .string t.b, .string t.c, .int .i64 t.ck, .int .i64 t.ti, .int .i64 t.tm, .string u.a, .string u.b, .string u.c, .int .i64 u.ck, .int .i64 u.ti, .int .i64 u.tm] 25)) = w53 at XB hSn XT ⊢
              refine hK.out _ _ hSn (fun hS2 => ?_)
              clear hK K hS2
              refine held_grow (S' := (fun W => Below wr.heap.size wr W ∧ AuAt W w.heap.size t ∧ BoxAt W G [.string t.a, .string t.b, .string t.c, .int .i64 t.ck, .int .i64 t.ti, .int .i64 t.tm, .string u.a, .string u.b, .string u.c, .int .i64 u.ck, .int .i64 u.ti, .int .i64 u.tm])) (fun W hW => ⟨hW.1, hW.2.1⟩) _ _ _ _ ?_
              replace hS : Below wr.heap.size wr w53 ∧ AuAt w53 w.heap.size t ∧ BoxAt w53 G [.string t.a, .string t.b, .string t.c, .int .i64 t.ck, .int .i64 t.ti, .int .i64 t.tm, .string u.a, .string u.b, .string u.c, .int .i64 u.ck, .int .i64 u.ti, .int .i64 u.tm] := ⟨hSn.1, hSn.2, XB⟩
              clear XB
              refine' wpAnyH_take (i := 6) (v := ?vp0b41_42_43_6) rfl (by kernel_rfl) (by kernel_rfl) (by kernel_rfl) (fun _ _ _ h => h) (Or.inl ⟨by kernel_rfl, fun W hW => ?yp0b41_42_43_6⟩) hS ?rp0b41_42_43_6
              case yp0b41_42_43_6 => (go_simp; first | done | with_reducible rfl | (rw [if_pos (by omega)]))
              refine' wpAnyH_take (i := 7) (v := ?vp0b41_42_43_7) rfl (by kernel_rfl) (by kernel_rfl) (by kernel_rfl) (fun _ _ _ h => h) (Or.inl ⟨by kernel_rfl, fun W hW => ?yp0b41_42_43_7⟩) hS ?rp0b41_42_43_7
              case yp0b41_42_43_7 => (obtain ⟨_, _, hbs⟩ := hW; have y0 := hbs.c 0 _ rfl; have y1 := hbs.c 1 _ rfl; have y2 := hbs.c 2 _ rfl; have y3 := hbs.c 3 _ rfl; have y4 := hbs.c 4 _ rfl; have y5 := hbs.c 5 _ rfl; go_simp; first | done | with_reducible rfl | (rw [if_pos (by omega)]))
              refine wpAnyH_ready (rs := [9]) (by kernel_rfl) (by simp) ?_
              refine AllReadyH.cons rfl (fun K hK => ?_) AllReadyH.nil
              have xf := XT.out.fz
              have xl := XT.out.lt
              have x0 := XT.out.c 0 _ rfl
              have x1 := XT.out.c 1 _ rfl
              have x2 := XT.out.c 2 _ rfl
              have x3 := XT.out.c 3 _ rfl
              have x4 := XT.out.c 4 _ rfl
              have x5 := XT.out.c 5 _ rfl
              go_simp
              have yT : BoxAt ((((((w53.setCell ⟨T, 0, none⟩ (.string t.a)).setCell ⟨T, 1, none⟩ (.string t.b)).setCell ⟨T, 2, none⟩ (.string t.c)).setCell ⟨T, 3, none⟩ (.int .i64 t.ck)).setCell ⟨T, 4, none⟩ (.int .i64 t.ti)).setCell ⟨T, 5, none⟩ (.int .i64 t.tm)) T (aL t) := ((((((XT.out.set 0 (.string t.a) (by simp [zeroA])).set 1 (.string t.b) (by simp [zeroA])).set 2 (.string t.c) (by simp [zeroA])).set 3 (.int .i64 t.ck) (by simp [zeroA])).set 4 (.int .i64 t.ti) (by simp [zeroA])).set 5 (.int .i64 t.tm) (by simp [zeroA]))
              have gT : w53.grownBy ((((((w53.setCell ⟨T, 0, none⟩ (.string t.a)).setCell ⟨T, 1, none⟩ (.string t.b)).setCell ⟨T, 2, none⟩ (.string t.c)).setCell ⟨T, 3, none⟩ (.int .i64 t.ck)).setCell ⟨T, 4, none⟩ (.int .i64 t.ti)).setCell ⟨T, 5, none⟩ (.int .i64 t.tm)) (some T) := ((((((grown_set w53 ⟨T, 0, none⟩ (.string t.a)).trans (grown_set _ ⟨T, 1, none⟩ (.string t.b))).trans (grown_set _ ⟨T, 2, none⟩ (.string t.c))).trans (grown_set _ ⟨T, 3, none⟩ (.int .i64 t.ck))).trans (grown_set _ ⟨T, 4, none⟩ (.int .i64 t.ti))).trans (grown_set _ ⟨T, 5, none⟩ (.int .i64 t.tm)))
              generalize ((((((w53.setCell ⟨T, 0, none⟩ (.string t.a)).setCell ⟨T, 1, none⟩ (.string t.b)).setCell ⟨T, 2, none⟩ (.string t.c)).setCell ⟨T, 3, none⟩ (.int .i64 t.ck)).setCell ⟨T, 4, none⟩ (.int .i64 t.ti)).setCell ⟨T, 5, none⟩ (.int .i64 t.tm)) = w99 at yT gT ⊢
              have rl := cell_lt Rr.out.c0
              have hSn := And.intro (hS.1.grown gT hS.1.size (fun k e => by cases e; exact hTb)) (And.intro (hS.2.1.grown gT (by simp; omega)) (hS.2.2.grown gT (by simp; omega)))
              refine hK.out _ _ hSn (fun hS2 => ?_)
              clear hK K hS
              refine wpAnyH_done (by kernel_rfl) ?_ _
              go_wp2_with (fail)
              go_meet
              exact ⟨T, t, rfl, f, AuAt.ofL yT, hSn.1⟩
          · refine wp_region_held_drew (S := (fun W => Below wr.heap.size wr W ∧ AuAt W w.heap.size t)) (by kernel_rfl) ⟨(Below.refl _ _).drew, Rr.out.drew⟩ (fun hS => ?_)
            generalize wr.drew = w5 at hS ⊢
            refine' wpAnyH_take (i := 0) (v := ?vp1c0) rfl (by kernel_rfl) (by kernel_rfl) (by kernel_rfl) (fun _ _ _ h => h) (Or.inl ⟨by kernel_rfl, fun W hW => ?yp1c0⟩) hS ?rp1c0
            case yp1c0 => (obtain ⟨x0, x1, x2, x3, x4, x5⟩ := hW.2; go_simp; first | done | with_reducible rfl | (rw [if_pos (by omega)]))
            refine' wpAnyH_take (i := 1) (v := ?vp1c1) rfl (by kernel_rfl) (by kernel_rfl) (by kernel_rfl) (fun _ _ _ h => h) (Or.inl ⟨by kernel_rfl, fun W hW => ?yp1c1⟩) hS ?rp1c1
            case yp1c1 => (go_simp; first | done | with_reducible rfl | (rw [if_pos (by omega)]))
            refine' wpAnyH_take (i := 4) (v := ?vp1c4) rfl (by kernel_rfl) (by kernel_rfl) (by kernel_rfl) (fun _ _ _ h => h) (Or.inl ⟨by kernel_rfl, fun W hW => ?yp1c4⟩) hS ?rp1c4
            case yp1c4 => (go_simp; first | done | with_reducible rfl | (rw [if_pos (by omega)]))
            refine' wpAnyH_take (i := 5) (v := ?vp1c5) rfl (by kernel_rfl) (by kernel_rfl) (by kernel_rfl) (fun _ _ _ h => h) (Or.inl ⟨by kernel_rfl, fun W hW => ?yp1c5⟩) hS ?rp1c5
            case yp1c5 => (go_simp; first | done | with_reducible rfl | (rw [if_pos (by omega)]))
            refine wpAnyH_ready (rs := [2, 8]) (by kernel_rfl) (by simp) ?_
            refine AllReadyH.cons rfl (fun K hK => ?_) (AllReadyH.cons rfl (fun K hK => ?_) AllReadyH.nil)
            · go_simp
              refine (authData_any LA ln lcap ls _ (hL1.out.keep hS.1) (by omega)).mono ?_
              rintro e w55 ⟨u, rfl, ou, hb⟩
              have fu := ou.fit
              replace fu := Lib.hid fu
              unfold S7.Au.val S7.Au.cells
              go_wp2_with (fail)
              have hSn := (And.intro (below_keep hb hS.1) (hS.2.keep hb))
              clear hb
              refine hK.out _ _ hSn (fun hS2 => ?_)
              clear hK K hS hSn
              have hS := hS2
              clear hS2
              refine wpAnyH_ready (rs := [3, 8]) (by kernel_rfl) (by simp) ?_
              refine AllReadyH.cons rfl (fun K hK => ?_) (AllReadyH.cons rfl (fun K hK => ?_) AllReadyH.nil)
              · go_simp
                have hb : Below w55.heap.size w55 (w55.alloc (.cells #[.string t.a, .string t.b, .string t.c, .int .i64 t.ck, .int .i64 t.ti, .int .i64 t.tm, .string u.a, .string u.b, .string u.c, .int .i64 u.ck, .int .i64 u.ti, .int .i64 u.tm] 25)) := (Below.refl _ _).alloc (Nat.le_refl _) _
                have XB : BoxAt (w55.alloc (.cells #[.string t.a, .string t.b, .string t.c, .int .i64 t.ck, .int .i64 t.ti, .int .i64 t.tm, .string u.a, .string u.b, .string u.c, .int .i64 u.ck, .int .i64 u.ti, .int .i64 u.tm] 25)) w55.heap.size [.string t.a, .string t.b, .string t.c, .int .i64 t.ck, .int .i64 t.ti, .int .i64 t.tm, .string u.a, .string u.b, .string u.c, .int .i64 u.ck, .int .i64 u.ti, .int .i64 u.tm] := BoxAt.new w55 [.string t.a, .string t.b, .string t.c, .int .i64 t.ck, .int .i64 t.ti, .int .i64 t.tm, .string u.a, .string u.b, .string u.c, .int .i64 u.ck, .int .i64 u.ti, .int .i64 u.tm] 25
                have hSn := (And.intro (below_keep hb hS.1) (hS.2.keep hb))

                obtain ⟨G, hG⟩ : ∃ G, G = w55.heap.size := ⟨_, rfl⟩
                rw [← hG] at XB

                rw [← hG]
                clear hG hb
                generalize (w55.alloc (.cells #[.string t.a, .string t.b, .string t.c, .int .i64 t.ck, .int .i64 t.ti, .int .i64 t.tm, .string u.a, .string u.b, .string u.c, .int .i64 u.ck, .int .i64 u.ti, .int .i64 u.tm] 25)) = w56 at XB hSn ⊢
                refine hK.out _ _ hSn (fun hS2 => ?_)
                clear hK K hS2
                refine held_grow (S' := (fun W => Below wr.heap.size wr W ∧ AuAt W w.heap.size t ∧ BoxAt W G [.string t.a, .string t.b, .string t.c, .int .i64 t.ck, .int .i64 t.ti, .int .i64 t.tm, .string u.a, .string u.b, .string u.c, .int .i64 u.ck, .int .i64 u.ti, .int .i64 u.tm])) (fun W hW => ⟨hW.1, hW.2.1⟩) _ _ _ _ ?_
                replace hS : Below wr.heap.size wr w56 ∧ AuAt w56 w.heap.size t ∧ BoxAt w56 G [.string t.a, .string t.b, .string t.c, .int .i64 t.ck, .int .i64 t.ti, .int .i64 t.tm, .string u.a, .string u.b, .string u.c, .int .i64 u.ck, .int .i64 u.ti, .int .i64 u.tm] := ⟨hSn.1, hSn.2, XB⟩
                clear XB
                refine' wpAnyH_take (i := 6) (v := ?vp1c45_46_6) rfl (by kernel_rfl) (by kernel_rfl) (by kernel_rfl) (fun _ _ _ h => h) (Or.inl ⟨by kernel_rfl, fun W hW => ?yp1c45_46_6⟩) hS ?rp1c45_46_6
                case yp1c45_46_6 => (go_simp; first | done | with_reducible rfl | (rw [if_pos (by omega)]))
                refine' wpAnyH_take (i := 7) (v := ?vp1c45_46_7) rfl (by kernel_rfl) (by kernel_rfl) (by kernel_rfl) (fun _ _ _ h => h) (Or.inl ⟨by kernel_rfl, fun W hW => ?yp1c45_46_7⟩) hS ?rp1c45_46_7
                case yp1c45_46_7 => (obtain ⟨_, _, hbs⟩ := hW; have y0 := hbs.c 6 _ rfl; have y1 := hbs.c 7 _ rfl; have y2 := hbs.c 8 _ rfl; have y3 := hbs.c 9 _ rfl; have y4 := hbs.c 10 _ rfl; have y5 := hbs.c 11 _ rfl; go_simp; first | done | with_reducible rfl | (rw [if_pos (by omega)]))
                refine wpAnyH_ready (rs := [8]) (by kernel_rfl) (by simp) ?_
                refine AllReadyH.cons rfl (fun K hK => ?_) AllReadyH.nil
                go_simp
                have hb : Below w56.heap.size w56 (w56.alloc (.cells #[.string ⟨#[]⟩, .string ⟨#[]⟩, .string ⟨#[]⟩, .int .i64 0, .int .i64 0, .int .i64 0] 25)) := (Below.refl _ _).alloc (Nat.le_refl _) _
                have XT : BoxAt (w56.alloc (.cells #[.string ⟨#[]⟩, .string ⟨#[]⟩, .string ⟨#[]⟩, .int .i64 0, .int .i64 0, .int .i64 0] 25)) w56.heap.size zeroA := BoxAt.new w56 zeroA 25
                have hSn := (And.intro (below_keep hb hS.1) (And.intro (hS.2.1.keep hb) (hS.2.2.keep hb)))
                have hTb := hS.1.size
                have hTG := hS.2.2.lt
                obtain ⟨T, hT⟩ : ∃ T, T = w56.heap.size := ⟨_, rfl⟩
                rw [← hT] at XT hTb hTG
                rw [← hT]
                clear hT hb
                generalize (w56.alloc (.cells #[.string ⟨#[]⟩, .string ⟨#[]⟩, .string ⟨#[]⟩, .int .i64 0, .int .i64 0, .int .i64 0] 25)) = w57 at XT hSn ⊢
                replace XT := Lib.hid XT
                refine hK.out _ _ hSn (fun hS2 => ?_)
                clear hK K hS hSn
                have hS := hS2
                clear hS2
                refine wpAnyH_ready (rs := [9]) (by kernel_rfl) (by simp) ?_
                refine AllReadyH.cons rfl (fun K hK => ?_) AllReadyH.nil
                have xf := XT.out.fz
                have xl := XT.out.lt
                have x0 := XT.out.c 0 _ rfl
                have x1 := XT.out.c 1 _ rfl
                have x2 := XT.out.c 2 _ rfl
                have x3 := XT.out.c 3 _ rfl
                have x4 := XT.out.c 4 _ rfl
                have x5 := XT.out.c 5 _ rfl
                go_simp
                have yT : BoxAt ((((((w57.setCell ⟨T, 0, none⟩ (.string u.a)).setCell ⟨T, 1, none⟩ (.string u.b)).setCell ⟨T, 2, none⟩ (.string u.c)).setCell ⟨T, 3, none⟩ (.int .i64 u.ck)).setCell ⟨T, 4, none⟩ (.int .i64 u.ti)).setCell ⟨T, 5, none⟩ (.int .i64 u.tm)) T (aL u) := ((((((XT.out.set 0 (.string u.a) (by simp [zeroA])).set 1 (.string u.b) (by simp [zeroA])).set 2 (.string u.c) (by simp [zeroA])).set 3 (.int .i64 u.ck) (by simp [zeroA])).set 4 (.int .i64 u.ti) (by simp [zeroA])).set 5 (.int .i64 u.tm) (by simp [zeroA]))
                have gT : w57.grownBy ((((((w57.setCell ⟨T, 0, none⟩ (.string u.a)).setCell ⟨T, 1, none⟩ (.string u.b)).setCell ⟨T, 2, none⟩ (.string u.c)).setCell ⟨T, 3, none⟩ (.int .i64 u.ck)).setCell ⟨T, 4, none⟩ (.int .i64 u.ti)).setCell ⟨T, 5, none⟩ (.int .i64 u.tm)) (some T) := ((((((grown_set w57 ⟨T, 0, none⟩ (.string u.a)).trans (grown_set _ ⟨T, 1, none⟩ (.string u.b))).trans (grown_set _ ⟨T, 2, none⟩ (.string u.c))).trans (grown_set _ ⟨T, 3, none⟩ (.int .i64 u.ck))).trans (grown_set _ ⟨T, 4, none⟩ (.int .i64 u.ti))).trans (grown_set _ ⟨T, 5, none⟩ (.int .i64 u.tm)))
                generalize ((((((w57.setCell ⟨T, 0, none⟩ (.string u.a)).setCell ⟨T, 1, none⟩ (.string u.b)).setCell ⟨T, 2, none⟩ (.string u.c)).setCell ⟨T, 3, none⟩ (.int .i64 u.ck)).setCell ⟨T, 4, none⟩ (.int .i64 u.ti)).setCell ⟨T, 5, none⟩ (.int .i64 u.tm)) = w99 at yT gT ⊢
                have rl := cell_lt Rr.out.c0
                have hSn := And.intro (hS.1.grown gT hS.1.size (fun k e => by cases e; exact hTb)) (And.intro (hS.2.1.grown gT (by simp; omega)) (hS.2.2.grown gT (by simp; omega)))
                refine hK.out _ _ hSn (fun hS2 => ?_)
                clear hK K hS
                refine wpAnyH_done (by kernel_rfl) ?_ _
                go_wp2_with (fail)
                go_meet
                exact ⟨T, u, rfl, fu.out, AuAt.ofL yT, hSn.1⟩
              · go_simp
                have hb : Below w55.heap.size w55 (w55.alloc (.cells #[.string ⟨#[]⟩, .string ⟨#[]⟩, .string ⟨#[]⟩, .int .i64 0, .int .i64 0, .int .i64 0] 25)) := (Below.refl _ _).alloc (Nat.le_refl _) _
                have XT : BoxAt (w55.alloc (.cells #[.string ⟨#[]⟩, .string ⟨#[]⟩, .string ⟨#[]⟩, .int .i64 0, .int .i64 0, .int .i64 0] 25)) w55.heap.size zeroA := BoxAt.new w55 zeroA 25
                have hSn := (And.intro (below_keep hb hS.1) (hS.2.keep hb))
                have hTb := hS.1.size

                obtain ⟨T, hT⟩ : ∃ T, T = w55.heap.size := ⟨_, rfl⟩
                rw [← hT] at XT hTb
                rw [← hT]
                clear hT hb
                generalize (w55.alloc (.cells #[.string ⟨#[]⟩, .string ⟨#[]⟩, .string ⟨#[]⟩, .int .i64 0, .int .i64 0, .int .i64 0] 25)) = w59 at XT hSn ⊢
                replace XT := Lib.hid XT
                refine hK.out _ _ hSn (fun hS2 => ?_)
                clear hK K hS hSn
                have hS := hS2
                clear hS2
                refine wpAnyH_ready (rs := [3]) (by kernel_rfl) (by simp) ?_
                refine AllReadyH.cons rfl (fun K hK => ?_) AllReadyH.nil
                go_simp
                have hb : Below w59.heap.size w59 (w59.alloc (.cells #[.string t.a, .string t.b, .string t.c, .int .i64 t.ck, .int .i64 t.ti, .int .i64 t.tm, .string u.a, .string u.b, .string u.c, .int .i64 u.ck, .int .i64 u.ti, .int .i64 u.tm] 25)) := (Below.refl _ _).alloc (Nat.le_refl _) _
                have XB : BoxAt (w59.alloc (.cells #[.string t.a, .string t.b, .string t.c, .int .i64 t.ck, .int .i64 t.ti, .int .i64 t.tm, .string u.a, .string u.b, .string u.c, .int .i64 u.ck, .int .i64 u.ti, .int .i64 u.tm] 25)) w59.heap.size [.string t.a, .string t.b, .string t.c, .int .i64 t.ck, .int .i64 t.ti, .int .i64 t.tm, .string u.a, .string u.b, .string u.c, .int .i64 u.ck, .int .i64 u.ti, .int .i64 u.tm] := BoxAt.new w59 [.string t.a, .string t.b, .string t.c, .int .i64 t.ck, .int .i64 t.ti, .int .i64 t.tm, .string u.a, .string u.b, .string u.c, .int .i64 u.ck, .int .i64 u.ti, .int .i64 u.tm] 25
                have hSn := (And.intro (below_keep hb hS.1) (hS.2.keep hb))
                have hTG := XT.out.lt
                replace XT := Lib.hid (XT.out.keep hb)
                obtain ⟨G, hG⟩ : ∃ G, G = w59.heap.size := ⟨_, rfl⟩
                rw [← hG] at XB
                rw [← hG] at hTG
                rw [← hG]
                clear hG hb
                generalize (w59.alloc (.cells #[.string t.a, .string t.b, .string t.c, .int .i64 t.ck, .int .i64 t.ti, .int .i64 t.tm, .string u.a, .string u.b, .string u.c, .int .i64 u.ck, .int .i64 u.ti, .int .i64 u.tm] 25)) = w60 at XB hSn XT ⊢
                refine hK.out _ _ hSn (fun hS2 => ?_)
                clear hK K hS2
                refine held_grow (S' := (fun W => Below wr.heap.size wr W ∧ AuAt W w.heap.size t ∧ BoxAt W G [.string t.a, .string t.b, .string t.c, .int .i64 t.ck, .int .i64 t.ti, .int .i64 t.tm, .string u.a, .string u.b, .string u.c, .int .i64 u.ck, .int .i64 u.ti, .int .i64 u.tm])) (fun W hW => ⟨hW.1, hW.2.1⟩) _ _ _ _ ?_
                replace hS : Below wr.heap.size wr w60 ∧ AuAt w60 w.heap.size t ∧ BoxAt w60 G [.string t.a, .string t.b, .string t.c, .int .i64 t.ck, .int .i64 t.ti, .int .i64 t.tm, .string u.a, .string u.b, .string u.c, .int .i64 u.ck, .int .i64 u.ti, .int .i64 u.tm] := ⟨hSn.1, hSn.2, XB⟩
                clear XB
                refine' wpAnyH_take (i := 6) (v := ?vp1c45_49_50_6) rfl (by kernel_rfl) (by kernel_rfl) (by kernel_rfl) (fun _ _ _ h => h) (Or.inl ⟨by kernel_rfl, fun W hW => ?yp1c45_49_50_6⟩) hS ?rp1c45_49_50_6
                case yp1c45_49_50_6 => (go_simp; first | done | with_reducible rfl | (rw [if_pos (by omega)]))
                refine' wpAnyH_take (i := 7) (v := ?vp1c45_49_50_7) rfl (by kernel_rfl) (by kernel_rfl) (by kernel_rfl) (fun _ _ _ h => h) (Or.inl ⟨by kernel_rfl, fun W hW => ?yp1c45_49_50_7⟩) hS ?rp1c45_49_50_7
                case yp1c45_49_50_7 => (obtain ⟨_, _, hbs⟩ := hW; have y0 := hbs.c 6 _ rfl; have y1 := hbs.c 7 _ rfl; have y2 := hbs.c 8 _ rfl; have y3 := hbs.c 9 _ rfl; have y4 := hbs.c 10 _ rfl; have y5 := hbs.c 11 _ rfl; go_simp; first | done | with_reducible rfl | (rw [if_pos (by omega)]))
                refine wpAnyH_ready (rs := [9]) (by kernel_rfl) (by simp) ?_
                refine AllReadyH.cons rfl (fun K hK => ?_) AllReadyH.nil
                have xf := XT.out.fz
                have xl := XT.out.lt
                have x0 := XT.out.c 0 _ rfl
                have x1 := XT.out.c 1 _ rfl
                have x2 := XT.out.c 2 _ rfl
                have x3 := XT.out.c 3 _ rfl
                have x4 := XT.out.c 4 _ rfl
                have x5 := XT.out.c 5 _ rfl
                go_simp
                have yT : BoxAt ((((((w60.setCell ⟨T, 0, none⟩ (.string u.a)).setCell ⟨T, 1, none⟩ (.string u.b)).setCell ⟨T, 2, none⟩ (.string u.c)).setCell ⟨T, 3, none⟩ (.int .i64 u.ck)).setCell ⟨T, 4, none⟩ (.int .i64 u.ti)).setCell ⟨T, 5, none⟩ (.int .i64 u.tm)) T (aL u) := ((((((XT.out.set 0 (.string u.a) (by simp [zeroA])).set 1 (.string u.b) (by simp [zeroA])).set 2 (.string u.c) (by simp [zeroA])).set 3 (.int .i64 u.ck) (by simp [zeroA])).set 4 (.int .i64 u.ti) (by simp [zeroA])).set 5 (.int .i64 u.tm) (by simp [zeroA]))
                have gT : w60.grownBy ((((((w60.setCell ⟨T, 0, none⟩ (.string u.a)).setCell ⟨T, 1, none⟩ (.string u.b)).setCell ⟨T, 2, none⟩ (.string u.c)).setCell ⟨T, 3, none⟩ (.int .i64 u.ck)).setCell ⟨T, 4, none⟩ (.int .i64 u.ti)).setCell ⟨T, 5, none⟩ (.int .i64 u.tm)) (some T) := ((((((grown_set w60 ⟨T, 0, none⟩ (.string u.a)).trans (grown_set _ ⟨T, 1, none⟩ (.string u.b))).trans (grown_set _ ⟨T, 2, none⟩ (.string u.c))).trans (grown_set _ ⟨T, 3, none⟩ (.int .i64 u.ck))).trans (grown_set _ ⟨T, 4, none⟩ (.int .i64 u.ti))).trans (grown_set _ ⟨T, 5, none⟩ (.int .i64 u.tm)))
                generalize ((((((w60.setCell ⟨T, 0, none⟩ (.string u.a)).setCell ⟨T, 1, none⟩ (.string u.b)).setCell ⟨T, 2, none⟩ (.string u.c)).setCell ⟨T, 3, none⟩ (.int .i64 u.ck)).setCell ⟨T, 4, none⟩ (.int .i64 u.ti)).setCell ⟨T, 5, none⟩ (.int .i64 u.tm)) = w99 at yT gT ⊢
                have rl := cell_lt Rr.out.c0
                have hSn := And.intro (hS.1.grown gT hS.1.size (fun k e => by cases e; exact hTb)) (And.intro (hS.2.1.grown gT (by simp; omega)) (hS.2.2.grown gT (by simp; omega)))
                refine hK.out _ _ hSn (fun hS2 => ?_)
                clear hK K hS
                refine wpAnyH_done (by kernel_rfl) ?_ _
                go_wp2_with (fail)
                go_meet
                exact ⟨T, u, rfl, fu.out, AuAt.ofL yT, hSn.1⟩
            · go_simp
              have hb : Below w5.heap.size w5 (w5.alloc (.cells #[.string ⟨#[]⟩, .string ⟨#[]⟩, .string ⟨#[]⟩, .int .i64 0, .int .i64 0, .int .i64 0] 25)) := (Below.refl _ _).alloc (Nat.le_refl _) _
              have XT : BoxAt (w5.alloc (.cells #[.string ⟨#[]⟩, .string ⟨#[]⟩, .string ⟨#[]⟩, .int .i64 0, .int .i64 0, .int .i64 0] 25)) w5.heap.size zeroA := BoxAt.new w5 zeroA 25
              have hSn := (And.intro (below_keep hb hS.1) (hS.2.keep hb))
              have hTb := hS.1.size

              obtain ⟨T, hT⟩ : ∃ T, T = w5.heap.size := ⟨_, rfl⟩
              rw [← hT] at XT hTb
              rw [← hT]
              clear hT hb
              generalize (w5.alloc (.cells #[.string ⟨#[]⟩, .string ⟨#[]⟩, .string ⟨#[]⟩, .int .i64 0, .int .i64 0, .int .i64 0] 25)) = w62 at XT hSn ⊢
              replace XT := Lib.hid XT
              refine hK.out _ _ hSn (fun hS2 => ?_)
              clear hK K hS hSn
              have hS := hS2
              clear hS2
              refine wpAnyH_ready (rs := [2]) (by kernel_rfl) (by simp) ?_
              refine AllReadyH.cons rfl (fun K hK => ?_) AllReadyH.nil
              go_simp
              refine (authData_any LA ln lcap ls _ (hL1.out.keep hS.1) (by omega)).mono ?_
              rintro e w63 ⟨u, rfl, ou, hb⟩
              have fu := ou.fit
              replace fu := Lib.hid fu
              unfold S7.Au.val S7.Au.cells
              go_wp2_with (fail)
              have hSn := (And.intro (below_keep hb hS.1) (hS.2.keep hb))
              replace XT := Lib.hid (XT.out.keep hb)
              clear hb
              refine hK.out _ _ hSn (fun hS2 => ?_)
              clear hK K hS hSn
              have hS := hS2
              clear hS2
              refine wpAnyH_ready (rs := [3]) (by kernel_rfl) (by simp) ?_
              refine AllReadyH.cons rfl (fun K hK => ?_) AllReadyH.nil
              go_simp
              have hb : Below w63.heap.size w63 (w63.alloc (.cells #[.string t.a, .string t.b, .string t.c, .int .i64 t.ck, .int .i64 t.ti, .int .i64 t.tm, .string u.a, .string u.b, .string u.c, .int .i64 u.ck, .int .i64 u.ti, .int .i64 u.tm] 25)) := (Below.refl _ _).alloc (Nat.le_refl _) _
              have XB : BoxAt (w63.alloc (.cells #[.string t.a, .string t.b, .string t.c, .int .i64 t.ck, .int .i64 t.ti, .int .i64 t.tm, .string u.a, .string u.b, .string u.c, .int .i64 u.ck, .int .i64 u.ti, .int .i64 u.tm] 25)) w63.heap.size [.string t.a, .string t.b, .string t.c, .int .i64 t.ck, .int .i64 t.ti, .int .i64 t.tm, .string u.a, .string u.b, .string u.c, .int .i64 u.ck, .int .i64 u.ti, .int .i64 u.tm] := BoxAt.new w63 [.string t.a, .string t.b, .string t.c, .int .i64 t.ck, .int .i64 t.ti, .int .i64 t.tm, .string u.a, .string u.b, .string u.c, .int .i64 u.ck, .int .i64 u.ti, .int .i64 u.tm] 25
              have hSn := (And.intro (below_keep hb hS.1) (hS.2.keep hb))
              have hTG := XT.out.lt
              replace XT := Lib.hid (XT.out.keep hb)
              obtain ⟨G, hG⟩ : ∃ G, G = w63.heap.size := ⟨_, rfl⟩
              rw [← hG] at XB
              rw [← hG] at hTG
              rw [← hG]
              clear hG hb
              generalize (w63.alloc (.cells #[.string t.a, .string t.b, .string t.c, .int .i64 t.ck, .int .i64 t.ti, .int .i64 t.tm, .string u.a, .string u.b, .string u.c, .int .i64 u.ck, .int .i64 u.ti, .int .i64 u.tm] 25)) = w64 at XB hSn XT ⊢
              refine hK.out _ _ hSn (fun hS2 => ?_)
              clear hK K hS2
              refine held_grow (S' := (fun W => Below wr.heap.size wr W ∧ AuAt W w.heap.size t ∧ BoxAt W G [.string t.a, .string t.b, .string t.c, .int .i64 t.ck, .int .i64 t.ti, .int .i64 t.tm, .string u.a, .string u.b, .string u.c, .int .i64 u.ck, .int .i64 u.ti, .int .i64 u.tm])) (fun W hW => ⟨hW.1, hW.2.1⟩) _ _ _ _ ?_
              replace hS : Below wr.heap.size wr w64 ∧ AuAt w64 w.heap.size t ∧ BoxAt w64 G [.string t.a, .string t.b, .string t.c, .int .i64 t.ck, .int .i64 t.ti, .int .i64 t.tm, .string u.a, .string u.b, .string u.c, .int .i64 u.ck, .int .i64 u.ti, .int .i64 u.tm] := ⟨hSn.1, hSn.2, XB⟩
              clear XB
              refine' wpAnyH_take (i := 6) (v := ?vp1c52_53_54_6) rfl (by kernel_rfl) (by kernel_rfl) (by kernel_rfl) (fun _ _ _ h => h) (Or.inl ⟨by kernel_rfl, fun W hW => ?yp1c52_53_54_6⟩) hS ?rp1c52_53_54_6
              case yp1c52_53_54_6 => (go_simp; first | done | with_reducible rfl | (rw [if_pos (by omega)]))
              refine' wpAnyH_take (i := 7) (v := ?vp1c52_53_54_7) rfl (by kernel_rfl) (by kernel_rfl) (by kernel_rfl) (fun _ _ _ h => h) (Or.inl ⟨by kernel_rfl, fun W hW => ?yp1c52_53_54_7⟩) hS ?rp1c52_53_54_7
              case yp1c52_53_54_7 => (obtain ⟨_, _, hbs⟩ := hW; have y0 := hbs.c 6 _ rfl; have y1 := hbs.c 7 _ rfl; have y2 := hbs.c 8 _ rfl; have y3 := hbs.c 9 _ rfl; have y4 := hbs.c 10 _ rfl; have y5 := hbs.c 11 _ rfl; go_simp; first | done | with_reducible rfl | (rw [if_pos (by omega)]))
              refine wpAnyH_ready (rs := [9]) (by kernel_rfl) (by simp) ?_
              refine AllReadyH.cons rfl (fun K hK => ?_) AllReadyH.nil
              have xf := XT.out.fz
              have xl := XT.out.lt
              have x0 := XT.out.c 0 _ rfl
              have x1 := XT.out.c 1 _ rfl
              have x2 := XT.out.c 2 _ rfl
              have x3 := XT.out.c 3 _ rfl
              have x4 := XT.out.c 4 _ rfl
              have x5 := XT.out.c 5 _ rfl
              go_simp
              have yT : BoxAt ((((((w64.setCell ⟨T, 0, none⟩ (.string u.a)).setCell ⟨T, 1, none⟩ (.string u.b)).setCell ⟨T, 2, none⟩ (.string u.c)).setCell ⟨T, 3, none⟩ (.int .i64 u.ck)).setCell ⟨T, 4, none⟩ (.int .i64 u.ti)).setCell ⟨T, 5, none⟩ (.int .i64 u.tm)) T (aL u) := ((((((XT.out.set 0 (.string u.a) (by simp [zeroA])).set 1 (.string u.b) (by simp [zeroA])).set 2 (.string u.c) (by simp [zeroA])).set 3 (.int .i64 u.ck) (by simp [zeroA])).set 4 (.int .i64 u.ti) (by simp [zeroA])).set 5 (.int .i64 u.tm) (by simp [zeroA]))
              have gT : w64.grownBy ((((((w64.setCell ⟨T, 0, none⟩ (.string u.a)).setCell ⟨T, 1, none⟩ (.string u.b)).setCell ⟨T, 2, none⟩ (.string u.c)).setCell ⟨T, 3, none⟩ (.int .i64 u.ck)).setCell ⟨T, 4, none⟩ (.int .i64 u.ti)).setCell ⟨T, 5, none⟩ (.int .i64 u.tm)) (some T) := ((((((grown_set w64 ⟨T, 0, none⟩ (.string u.a)).trans (grown_set _ ⟨T, 1, none⟩ (.string u.b))).trans (grown_set _ ⟨T, 2, none⟩ (.string u.c))).trans (grown_set _ ⟨T, 3, none⟩ (.int .i64 u.ck))).trans (grown_set _ ⟨T, 4, none⟩ (.int .i64 u.ti))).trans (grown_set _ ⟨T, 5, none⟩ (.int .i64 u.tm)))
              generalize ((((((w64.setCell ⟨T, 0, none⟩ (.string u.a)).setCell ⟨T, 1, none⟩ (.string u.b)).setCell ⟨T, 2, none⟩ (.string u.c)).setCell ⟨T, 3, none⟩ (.int .i64 u.ck)).setCell ⟨T, 4, none⟩ (.int .i64 u.ti)).setCell ⟨T, 5, none⟩ (.int .i64 u.tm)) = w99 at yT gT ⊢
              have rl := cell_lt Rr.out.c0
              have hSn := And.intro (hS.1.grown gT hS.1.size (fun k e => by cases e; exact hTb)) (And.intro (hS.2.1.grown gT (by simp; omega)) (hS.2.2.grown gT (by simp; omega)))
              refine hK.out _ _ hSn (fun hS2 => ?_)
              clear hK K hS
              refine wpAnyH_done (by kernel_rfl) ?_ _
              go_wp2_with (fail)
              go_meet
              exact ⟨T, u, rfl, fu.out, AuAt.ofL yT, hSn.1⟩
          · refine wp_region_held_drew (S := (fun W => Below wr.heap.size wr W ∧ AuAt W w.heap.size t)) (by kernel_rfl) ⟨(Below.refl _ _).drew, Rr.out.drew⟩ (fun hS => ?_)
            generalize wr.drew = w5 at hS ⊢
            refine' wpAnyH_take (i := 0) (v := ?vp1d0) rfl (by kernel_rfl) (by kernel_rfl) (by kernel_rfl) (fun _ _ _ h => h) (Or.inl ⟨by kernel_rfl, fun W hW => ?yp1d0⟩) hS ?rp1d0
            case yp1d0 => (obtain ⟨x0, x1, x2, x3, x4, x5⟩ := hW.2; go_simp; first | done | with_reducible rfl | (rw [if_pos (by omega)]))
            refine' wpAnyH_take (i := 1) (v := ?vp1d1) rfl (by kernel_rfl) (by kernel_rfl) (by kernel_rfl) (fun _ _ _ h => h) (Or.inl ⟨by kernel_rfl, fun W hW => ?yp1d1⟩) hS ?rp1d1
            case yp1d1 => (go_simp; first | done | with_reducible rfl | (rw [if_pos (by omega)]))
            refine' wpAnyH_take (i := 4) (v := ?vp1d4) rfl (by kernel_rfl) (by kernel_rfl) (by kernel_rfl) (fun _ _ _ h => h) (Or.inl ⟨by kernel_rfl, fun W hW => ?yp1d4⟩) hS ?rp1d4
            case yp1d4 => (go_simp; first | done | with_reducible rfl | (rw [if_pos (by omega)]))
            refine' wpAnyH_take (i := 5) (v := ?vp1d5) rfl (by kernel_rfl) (by kernel_rfl) (by kernel_rfl) (fun _ _ _ h => h) (Or.inl ⟨by kernel_rfl, fun W hW => ?yp1d5⟩) hS ?rp1d5
            case yp1d5 => (go_simp; first | done | with_reducible rfl | (rw [if_pos (by omega)]))
            refine wpAnyH_ready (rs := [2, 8]) (by kernel_rfl) (by simp) ?_
            refine AllReadyH.cons rfl (fun K hK => ?_) (AllReadyH.cons rfl (fun K hK => ?_) AllReadyH.nil)
            · go_simp
              refine (authData_any LA ln lcap ls _ (hL1.out.keep hS.1) (by omega)).mono ?_
              rintro e w66 ⟨u, rfl, ou, hb⟩
              have fu := ou.fit
              replace fu := Lib.hid fu
              unfold S7.Au.val S7.Au.cells
              go_wp2_with (fail)
              have hSn := (And.intro (below_keep hb hS.1) (hS.2.keep hb))
              clear hb
              refine hK.out _ _ hSn (fun hS2 => ?_)
              clear hK K hS hSn
              have hS := hS2
              clear hS2
              refine wpAnyH_ready (rs := [3, 8]) (by kernel_rfl) (by simp) ?_
              refine AllReadyH.cons rfl (fun K hK => ?_) (AllReadyH.cons rfl (fun K hK => ?_) AllReadyH.nil)
              · go_simp
                have hb : Below w66.heap.size w66 (w66.alloc (.cells #[.string t.a, .string t.b, .string t.c, .int .i64 t.ck, .int .i64 t.ti, .int .i64 t.tm, .string u.a, .string u.b, .string u.c, .int .i64 u.ck, .int .i64 u.ti, .int .i64 u.tm] 25)) := (Below.refl _ _).alloc (Nat.le_refl _) _
                have XB : BoxAt (w66.alloc (.cells #[.string t.a, .string t.b, .string t.c, .int .i64 t.ck, .int .i64 t.ti, .int .i64 t.tm, .string u.a, .string u.b, .string u.c, .int .i64 u.ck, .int .i64 u.ti, .int .i64 u.tm] 25)) w66.heap.size [.string t.a, .string t.b, .string t.c, .int .i64 t.ck, .int .i64 t.ti, .int .i64 t.tm, .string u.a, .string u.b, .string u.c, .int .i64 u.ck, .int .i64 u.ti, .int .i64 u.tm] := BoxAt.new w66 [.string t.a, .string t.b, .string t.c, .int .i64 t.ck, .int .i64 t.ti, .int .i64 t.tm, .string u.a, .string u.b, .string u.c, .int .i64 u.ck, .int .i64 u.ti, .int .i64 u.tm] 25
                have hSn := (And.intro (below_keep hb hS.1) (hS.2.keep hb))

                obtain ⟨G, hG⟩ : ∃ G, G = w66.heap.size := ⟨_, rfl⟩
                rw [← hG] at XB

                rw [← hG]
                clear hG hb
                generalize (w66.alloc (.cells #[.string t.a, .string t.b, .string t.c, .int .i64 t.ck, .int .i64 t.ti, .int .i64 t.tm, .string u.a, .string u.b, .string u.c, .int .i64 u.ck, .int .i64 u.ti, .int .i64 u.tm] 25)) = w67 at XB hSn ⊢
                refine hK.out _ _ hSn (fun hS2 => ?_)
                clear hK K hS2
                refine held_grow (S' := (fun W => Below wr.heap.size wr W ∧ AuAt W w.heap.size t ∧ BoxAt W G [.string t.a, .string t.b, .string t.c, .int .i64 t.ck, .int .i64 t.ti, .int .i64 t.tm, .string u.a, .string u.b, .string u.c, .int .i64 u.ck, .int .i64 u.ti, .int .i64 u.tm])) (fun W hW => ⟨hW.1, hW.2.1⟩) _ _ _ _ ?_
                replace hS : Below wr.heap.size wr w67 ∧ AuAt w67 w.heap.size t ∧ BoxAt w67 G [.string t.a, .string t.b, .string t.c, .int .i64 t.ck, .int .i64 t.ti, .int .i64 t.tm, .string u.a, .string u.b, .string u.c, .int .i64 u.ck, .int .i64 u.ti, .int .i64 u.tm] := ⟨hSn.1, hSn.2, XB⟩
                clear XB
                refine' wpAnyH_take (i := 6) (v := ?vp1d56_57_6) rfl (by kernel_rfl) (by kernel_rfl) (by kernel_rfl) (fun _ _ _ h => h) (Or.inl ⟨by kernel_rfl, fun W hW => ?yp1d56_57_6⟩) hS ?rp1d56_57_6
                case yp1d56_57_6 => (go_simp; first | done | with_reducible rfl | (rw [if_pos (by omega)]))
                refine' wpAnyH_take (i := 7) (v := ?vp1d56_57_7) rfl (by kernel_rfl) (by kernel_rfl) (by kernel_rfl) (fun _ _ _ h => h) (Or.inl ⟨by kernel_rfl, fun W hW => ?yp1d56_57_7⟩) hS ?rp1d56_57_7
                case yp1d56_57_7 => (obtain ⟨_, _, hbs⟩ := hW; have y0 := hbs.c 6 _ rfl; have y1 := hbs.c 7 _ rfl; have y2 := hbs.c 8 _ rfl; have y3 := hbs.c 9 _ rfl; have y4 := hbs.c 10 _ rfl; have y5 := hbs.c 11 _ rfl; go_simp; first | done | with_reducible rfl | (rw [if_pos (by omega)]))
                refine wpAnyH_ready (rs := [8]) (by kernel_rfl) (by simp) ?_
                refine AllReadyH.cons rfl (fun K hK => ?_) AllReadyH.nil
                go_simp
                have hb : Below w67.heap.size w67 (w67.alloc (.cells #[.string ⟨#[]⟩, .string ⟨#[]⟩, .string ⟨#[]⟩, .int .i64 0, .int .i64 0, .int .i64 0] 25)) := (Below.refl _ _).alloc (Nat.le_refl _) _
                have XT : BoxAt (w67.alloc (.cells #[.string ⟨#[]⟩, .string ⟨#[]⟩, .string ⟨#[]⟩, .int .i64 0, .int .i64 0, .int .i64 0] 25)) w67.heap.size zeroA := BoxAt.new w67 zeroA 25
                have hSn := (And.intro (below_keep hb hS.1) (And.intro (hS.2.1.keep hb) (hS.2.2.keep hb)))
                have hTb := hS.1.size
                have hTG := hS.2.2.lt
                obtain ⟨T, hT⟩ : ∃ T, T = w67.heap.size := ⟨_, rfl⟩
                rw [← hT] at XT hTb hTG
                rw [← hT]
                clear hT hb
                generalize (w67.alloc (.cells #[.string ⟨#[]⟩, .string ⟨#[]⟩, .string ⟨#[]⟩, .int .i64 0, .int .i64 0, .int .i64 0] 25)) = w68 at XT hSn ⊢
                replace XT := Lib.hid XT
                refine hK.out _ _ hSn (fun hS2 => ?_)
                clear hK K hS hSn
                have hS := hS2
                clear hS2
                refine wpAnyH_ready (rs := [9]) (by kernel_rfl) (by simp) ?_
                refine AllReadyH.cons rfl (fun K hK => ?_) AllReadyH.nil
                have xf := XT.out.fz
                have xl := XT.out.lt
                have x0 := XT.out.c 0 _ rfl
                have x1 := XT.out.c 1 _ rfl
                have x2 := XT.out.c 2 _ rfl
                have x3 := XT.out.c 3 _ rfl
                have x4 := XT.out.c 4 _ rfl
                have x5 := XT.out.c 5 _ rfl
                go_simp
                have yT : BoxAt ((((((w68.setCell ⟨T, 0, none⟩ (.string u.a)).setCell ⟨T, 1, none⟩ (.string u.b)).setCell ⟨T, 2, none⟩ (.string u.c)).setCell ⟨T, 3, none⟩ (.int .i64 u.ck)).setCell ⟨T, 4, none⟩ (.int .i64 u.ti)).setCell ⟨T, 5, none⟩ (.int .i64 u.tm)) T (aL u) := ((((((XT.out.set 0 (.string u.a) (by simp [zeroA])).set 1 (.string u.b) (by simp [zeroA])).set 2 (.string u.c) (by simp [zeroA])).set 3 (.int .i64 u.ck) (by simp [zeroA])).set 4 (.int .i64 u.ti) (by simp [zeroA])).set 5 (.int .i64 u.tm) (by simp [zeroA]))
                have gT : w68.grownBy ((((((w68.setCell ⟨T, 0, none⟩ (.string u.a)).setCell ⟨T, 1, none⟩ (.string u.b)).setCell ⟨T, 2, none⟩ (.string u.c)).setCell ⟨T, 3, none⟩ (.int .i64 u.ck)).setCell ⟨T, 4, none⟩ (.int .i64 u.ti)).setCell ⟨T, 5, none⟩ (.int .i64 u.tm)) (some T) := ((((((grown_set w68 ⟨T, 0, none⟩ (.string u.a)).trans (grown_set _ ⟨T, 1, none⟩ (.string u.b))).trans (grown_set _ ⟨T, 2, none⟩ (.string u.c))).trans (grown_set _ ⟨T, 3, none⟩ (.int .i64 u.ck))).trans (grown_set _ ⟨T, 4, none⟩ (.int .i64 u.ti))).trans (grown_set _ ⟨T, 5, none⟩ (.int .i64 u.tm)))
                generalize ((((((w68.setCell ⟨T, 0, none⟩ (.string u.a)).setCell ⟨T, 1, none⟩ (.string u.b)).setCell ⟨T, 2, none⟩ (.string u.c)).setCell ⟨T, 3, none⟩ (.int .i64 u.ck)).setCell ⟨T, 4, none⟩ (.int .i64 u.ti)).setCell ⟨T, 5, none⟩ (.int .i64 u.tm)) = w99 at yT gT ⊢
                have rl := cell_lt Rr.out.c0
                have hSn := And.intro (hS.1.grown gT hS.1.size (fun k e => by cases e; exact hTb)) (And.intro (hS.2.1.grown gT (by simp; omega)) (hS.2.2.grown gT (by simp; omega)))
                refine hK.out _ _ hSn (fun hS2 => ?_)
                clear hK K hS
                refine wpAnyH_done (by kernel_rfl) ?_ _
                go_wp2_with (fail)
                go_meet
                exact ⟨T, u, rfl, fu.out, AuAt.ofL yT, hSn.1⟩
              · go_simp
                have hb : Below w66.heap.size w66 (w66.alloc (.cells #[.string ⟨#[]⟩, .string ⟨#[]⟩, .string ⟨#[]⟩, .int .i64 0, .int .i64 0, .int .i64 0] 25)) := (Below.refl _ _).alloc (Nat.le_refl _) _
                have XT : BoxAt (w66.alloc (.cells #[.string ⟨#[]⟩, .string ⟨#[]⟩, .string ⟨#[]⟩, .int .i64 0, .int .i64 0, .int .i64 0] 25)) w66.heap.size zeroA := BoxAt.new w66 zeroA 25
                have hSn := (And.intro (below_keep hb hS.1) (hS.2.keep hb))
                have hTb := hS.1.size

                obtain ⟨T, hT⟩ : ∃ T, T = w66.heap.size := ⟨_, rfl⟩
                rw [← hT] at XT hTb
                rw [← hT]
                clear hT hb
                generalize (w66.alloc (.cells #[.string ⟨#[]⟩, .string ⟨#[]⟩, .string ⟨#[]⟩, .int .i64 0, .int .i64 0, .int .i64 0] 25)) = w70 at XT hSn ⊢
                replace XT := Lib.hid XT
                refine hK.out _ _ hSn (fun hS2 => ?_)
                clear hK K hS hSn
                have hS := hS2
                clear hS2
                refine wpAnyH_ready (rs := [3]) (by kernel_rfl) (by simp) ?_
                refine AllReadyH.cons rfl (fun K hK => ?_) AllReadyH.nil
                go_simp
                have hb : Below w70.heap.size w70 (w70.alloc (.cells #[.string t.a, .string t.b, .string t.c, .int .i64 t.ck, .int .i64 t.ti, .int .i64 t.tm, .string u.a, .string u.b, .string u.c, .int .i64 u.ck, .int .i64 u.ti, .int .i64 u.tm] 25)) := (Below.refl _ _).alloc (Nat.le_refl _) _
                have XB : BoxAt (w70.alloc (.cells #[.string t.a, .string t.b, .string t.c, .int .i64 t.ck, .int .i64 t.ti, .int .i64 t.tm, .string u.a, .string u.b, .string u.c, .int .i64 u.ck, .int .i64 u.ti, .int .i64 u.tm] 25)) w70.heap.size [.string t.a, .string t.b, .string t.c, .int .i64 t.ck, .int .i64 t.ti, .int .i64 t.tm, .string u.a, .string u.b, .string u.c, .int .i64 u.ck, .int .i64 u.ti, .int .i64 u.tm] := BoxAt.new w70 [.string t.a, .string t.b, .string t.c, .int .i64 t.ck, .int .i64 t.ti, .int .i64 t.tm, .string u.a, .string u.b, .string u.c, .int .i64 u.ck, .int .i64 u.ti, .int .i64 u.tm] 25
                have hSn := (And.intro (below_keep hb hS.1) (hS.2.keep hb))
                have hTG := XT.out.lt
                replace XT := Lib.hid (XT.out.keep hb)
                obtain ⟨G, hG⟩ : ∃ G, G = w70.heap.size := ⟨_, rfl⟩
                rw [← hG] at XB
                rw [← hG] at hTG
                rw [← hG]
                clear hG hb
                generalize (w70.alloc (.cells #[.string t.a, .string t.b, .string t.c, .int .i64 t.ck, .int .i64 t.ti, .int .i64 t.tm, .string u.a, .string u.b, .string u.c, .int .i64 u.ck, .int .i64 u.ti, .int .i64 u.tm] 25)) = w71 at XB hSn XT ⊢
                refine hK.out _ _ hSn (fun hS2 => ?_)
                clear hK K hS2
                refine held_grow (S' := (fun W => Below wr.heap.size wr W ∧ AuAt W w.heap.size t ∧ BoxAt W G [.string t.a, .string t.b, .string t.c, .int .i64 t.ck, .int .i64 t.ti, .int .i64 t.tm, .string u.a, .string u.b, .string u.c, .int .i64 u.ck, .int .i64 u.ti, .int .i64 u.tm])) (fun W hW => ⟨hW.1, hW.2.1⟩) _ _ _ _ ?_
                replace hS : Below wr.heap.size wr w71 ∧ AuAt w71 w.heap.size t ∧ BoxAt w71 G [.string t.a, .string t.b, .string t.c, .int .i64 t.ck, .int .i64 t.ti, .int .i64 t.tm, .string u.a, .string u.b, .string u.c, .int .i64 u.ck, .int .i64 u.ti, .int .i64 u.tm] := ⟨hSn.1, hSn.2, XB⟩
                clear XB
                refine' wpAnyH_take (i := 6) (v := ?vp1d56_60_61_6) rfl (by kernel_rfl) (by kernel_rfl) (by kernel_rfl) (fun _ _ _ h => h) (Or.inl ⟨by kernel_rfl, fun W hW => ?yp1d56_60_61_6⟩) hS ?rp1d56_60_61_6
                case yp1d56_60_61_6 => (go_simp; first | done | with_reducible rfl | (rw [if_pos (by omega)]))
                refine' wpAnyH_take (i := 7) (v := ?vp1d56_60_61_7) rfl (by kernel_rfl) (by kernel_rfl) (by kernel_rfl) (fun _ _ _ h => h) (Or.inl ⟨by kernel_rfl, fun W hW => ?yp1d56_60_61_7⟩) hS ?rp1d56_60_61_7
                case yp1d56_60_61_7 => (obtain ⟨_, _, hbs⟩ := hW; have y0 := hbs.c 6 _ rfl; have y1 := hbs.c 7 _ rfl; have y2 := hbs.c 8 _ rfl; have y3 := hbs.c 9 _ rfl; have y4 := hbs.c 10 _ rfl; have y5 := hbs.c 11 _ rfl; go_simp; first | done | with_reducible rfl | (rw [if_pos (by omega)]))
                refine wpAnyH_ready (rs := [9]) (by kernel_rfl) (by simp) ?_
                refine AllReadyH.cons rfl (fun K hK => ?_) AllReadyH.nil
                have xf := XT.out.fz
                have xl := XT.out.lt
                have x0 := XT.out.c 0 _ rfl
                have x1 := XT.out.c 1 _ rfl
                have x2 := XT.out.c 2 _ rfl
                have x3 := XT.out.c 3 _ rfl
                have x4 := XT.out.c 4 _ rfl
                have x5 := XT.out.c 5 _ rfl
                go_simp
                have yT : BoxAt ((((((w71.setCell ⟨T, 0, none⟩ (.string u.a)).setCell ⟨T, 1, none⟩ (.string u.b)).setCell ⟨T, 2, none⟩ (.string u.c)).setCell ⟨T, 3, none⟩ (.int .i64 u.ck)).setCell ⟨T, 4, none⟩ (.int .i64 u.ti)).setCell ⟨T, 5, none⟩ (.int .i64 u.tm)) T (aL u) := ((((((XT.out.set 0 (.string u.a) (by simp [zeroA])).set 1 (.string u.b) (by simp [zeroA])).set 2 (.string u.c) (by simp [zeroA])).set 3 (.int .i64 u.ck) (by simp [zeroA])).set 4 (.int .i64 u.ti) (by simp [zeroA])).set 5 (.int .i64 u.tm) (by simp [zeroA]))
                have gT : w71.grownBy ((((((w71.setCell ⟨T, 0, none⟩ (.string u.a)).setCell ⟨T, 1, none⟩ (.string u.b)).setCell ⟨T, 2, none⟩ (.string u.c)).setCell ⟨T, 3, none⟩ (.int .i64 u.ck)).setCell ⟨T, 4, none⟩ (.int .i64 u.ti)).setCell ⟨T, 5, none⟩ (.int .i64 u.tm)) (some T) := ((((((grown_set w71 ⟨T, 0, none⟩ (.string u.a)).trans (grown_set _ ⟨T, 1, none⟩ (.string u.b))).trans (grown_set _ ⟨T, 2, none⟩ (.string u.c))).trans (grown_set _ ⟨T, 3, none⟩ (.int .i64 u.ck))).trans (grown_set _ ⟨T, 4, none⟩ (.int .i64 u.ti))).trans (grown_set _ ⟨T, 5, none⟩ (.int .i64 u.tm)))
                generalize ((((((w71.setCell ⟨T, 0, none⟩ (.string u.a)).setCell ⟨T, 1, none⟩ (.string u.b)).setCell ⟨T, 2, none⟩ (.string u.c)).setCell ⟨T, 3, none⟩ (.int .i64 u.ck)).setCell ⟨T, 4, none⟩ (.int .i64 u.ti)).setCell ⟨T, 5, none⟩ (.int .i64 u.tm)) = w99 at yT gT ⊢
                have rl := cell_lt Rr.out.c0
                have hSn := And.intro (hS.1.grown gT hS.1.size (fun k e => by cases e; exact hTb)) (And.intro (hS.2.1.grown gT (by simp; omega)) (hS.2.2.grown gT (by simp; omega)))
                refine hK.out _ _ hSn (fun hS2 => ?_)
                clear hK K hS
                refine wpAnyH_done (by kernel_rfl) ?_ _
                go_wp2_with (fail)
                go_meet
                exact ⟨T, u, rfl, fu.out, AuAt.ofL yT, hSn.1⟩
            · go_simp
              have hb : Below w5.heap.size w5 (w5.alloc (.cells #[.string ⟨#[]⟩, .string ⟨#[]⟩, .string ⟨#[]⟩, .int .i64 0, .int .i64 0, .int .i64 0] 25)) := (Below.refl _ _).alloc (Nat.le_refl _) _
              have XT : BoxAt (w5.alloc (.cells #[.string ⟨#[]⟩, .string ⟨#[]⟩, .string ⟨#[]⟩, .int .i64 0, .int .i64 0, .int .i64 0] 25)) w5.heap.size zeroA := BoxAt.new w5 zeroA 25
              have hSn := (And.intro (below_keep hb hS.1) (hS.2.keep hb))
              have hTb := hS.1.size

              obtain ⟨T, hT⟩ : ∃ T, T = w5.heap.size := ⟨_, rfl⟩
              rw [← hT] at XT hTb
              rw [← hT]
              clear hT hb
              generalize (w5.alloc (.cells #[.string ⟨#[]⟩, .string ⟨#[]⟩, .string ⟨#[]⟩, .int .i64 0, .int .i64 0, .int .i64 0] 25)) = w73 at XT hSn ⊢
              replace XT := Lib.hid XT
              refine hK.out _ _ hSn (fun hS2 => ?_)
              clear hK K hS hSn
              have hS := hS2
              clear hS2
              refine wpAnyH_ready (rs := [2]) (by kernel_rfl) (by simp) ?_
              refine AllReadyH.cons rfl (fun K hK => ?_) AllReadyH.nil
              go_simp
              refine (authData_any LA ln lcap ls _ (hL1.out.keep hS.1) (by omega)).mono ?_
              rintro e w74 ⟨u, rfl, ou, hb⟩
              have fu := ou.fit
              replace fu := Lib.hid fu
              unfold S7.Au.val S7.Au.cells
              go_wp2_with (fail)
              have hSn := (And.intro (below_keep hb hS.1) (hS.2.keep hb))
              replace XT := Lib.hid (XT.out.keep hb)
              clear hb
              refine hK.out _ _ hSn (fun hS2 => ?_)
              clear hK K hS hSn
              have hS := hS2
              clear hS2
              refine wpAnyH_ready (rs := [3]) (by kernel_rfl) (by simp) ?_
              refine AllReadyH.cons rfl (fun K hK => ?_) AllReadyH.nil
              go_simp
              have hb : Below w74.heap.size w74 (w74.alloc (.cells #[.string t.a, .string t.b, .string t.c, .int .i64 t.ck, .int .i64 t.ti, .int .i64 t.tm, .string u.a, .string u.b, .string u.c, .int .i64 u.ck, .int .i64 u.ti, .int .i64 u.tm] 25)) := (Below.refl _ _).alloc (Nat.le_refl _) _
              have XB : BoxAt (w74.alloc (.cells #[.string t.a, .string t.b, .string t.c, .int .i64 t.ck, .int .i64 t.ti, .int .i64 t.tm, .string u.a, .string u.b, .string u.c, .int .i64 u.ck, .int .i64 u.ti, .int .i64 u.tm] 25)) w74.heap.size [.string t.a, .string t.b, .string t.c, .int .i64 t.ck, .int .i64 t.ti, .int .i64 t.tm, .string u.a, .string u.b, .string u.c, .int .i64 u.ck, .int .i64 u.ti, .int .i64 u.tm] := BoxAt.new w74 [.string t.a, .string t.b, .string t.c, .int .i64 t.ck, .int .i64 t.ti, .int .i64 t.tm, .string u.a, .string u.b, .string u.c, .int .i64 u.ck, .int .i64 u.ti, .int .i64 u.tm] 25
              have hSn := (And.intro (below_keep hb hS.1) (hS.2.keep hb))
              have hTG := XT.out.lt
              replace XT := Lib.hid (XT.out.keep hb)
              obtain ⟨G, hG⟩ : ∃ G, G = w74.heap.size := ⟨_, rfl⟩
              rw [← hG] at XB
              rw [← hG] at hTG
              rw [← hG]
              clear hG hb
              generalize (w74.alloc (.cells #[.string t.a, .string t.b, .string t.c, .int .i64 t.ck, .int .i64 t.ti, .int .i64 t.tm, .string u.a, .string u.b, .string u.c, .int .i64 u.ck, .int .i64 u.ti, .int .i64 u.tm] 25)) = w75 at XB hSn XT ⊢
              refine hK.out _ _ hSn (fun hS2 => ?_)
              clear hK K hS2
              refine held_grow (S' := (fun W => Below wr.heap.size wr W ∧ AuAt W w.heap.size t ∧ BoxAt W G [.string t.a, .string t.b, .string t.c, .int .i64 t.ck, .int .i64 t.ti, .int .i64 t.tm, .string u.a, .string u.b, .string u.c, .int .i64 u.ck, .int .i64 u.ti, .int .i64 u.tm])) (fun W hW => ⟨hW.1, hW.2.1⟩) _ _ _ _ ?_
              replace hS : Below wr.heap.size wr w75 ∧ AuAt w75 w.heap.size t ∧ BoxAt w75 G [.string t.a, .string t.b, .string t.c, .int .i64 t.ck, .int .i64 t.ti, .int .i64 t.tm, .string u.a, .string u.b, .string u.c, .int .i64 u.ck, .int .i64 u.ti, .int .i64 u.tm] := ⟨hSn.1, hSn.2, XB⟩
              clear XB
              refine' wpAnyH_take (i := 6) (v := ?vp1d63_64_65_6) rfl (by kernel_rfl) (by kernel_rfl) (by kernel_rfl) (fun _ _ _ h => h) (Or.inl ⟨by kernel_rfl, fun W hW => ?yp1d63_64_65_6⟩) hS ?rp1d63_64_65_6
              case yp1d63_64_65_6 => (go_simp; first | done | with_reducible rfl | (rw [if_pos (by omega)]))
              refine' wpAnyH_take (i := 7) (v := ?vp1d63_64_65_7) rfl (by kernel_rfl) (by kernel_rfl) (by kernel_rfl) (fun _ _ _ h => h) (Or.inl ⟨by kernel_rfl, fun W hW => ?yp1d63_64_65_7⟩) hS ?rp1d63_64_65_7
              case yp1d63_64_65_7 => (obtain ⟨_, _, hbs⟩ := hW; have y0 := hbs.c 6 _ rfl; have y1 := hbs.c 7 _ rfl; have y2 := hbs.c 8 _ rfl; have y3 := hbs.c 9 _ rfl; have y4 := hbs.c 10 _ rfl; have y5 := hbs.c 11 _ rfl; go_simp; first | done | with_reducible rfl | (rw [if_pos (by omega)]))
              refine wpAnyH_ready (rs := [9]) (by kernel_rfl) (by simp) ?_
              refine AllReadyH.cons rfl (fun K hK => ?_) AllReadyH.nil
              have xf := XT.out.fz
              have xl := XT.out.lt
              have x0 := XT.out.c 0 _ rfl
              have x1 := XT.out.c 1 _ rfl
              have x2 := XT.out.c 2 _ rfl
              have x3 := XT.out.c 3 _ rfl
              have x4 := XT.out.c 4 _ rfl
              have x5 := XT.out.c 5 _ rfl
              go_simp
              have yT : BoxAt ((((((w75.setCell ⟨T, 0, none⟩ (.string u.a)).setCell ⟨T, 1, none⟩ (.string u.b)).setCell ⟨T, 2, none⟩ (.string u.c)).setCell ⟨T, 3, none⟩ (.int .i64 u.ck)).setCell ⟨T, 4, none⟩ (.int .i64 u.ti)).setCell ⟨T, 5, none⟩ (.int .i64 u.tm)) T (aL u) := ((((((XT.out.set 0 (.string u.a) (by simp [zeroA])).set 1 (.string u.b) (by simp [zeroA])).set 2 (.string u.c) (by simp [zeroA])).set 3 (.int .i64 u.ck) (by simp [zeroA])).set 4 (.int .i64 u.ti) (by simp [zeroA])).set 5 (.int .i64 u.tm) (by simp [zeroA]))
              have gT : w75.grownBy ((((((w75.setCell ⟨T, 0, none⟩ (.string u.a)).setCell ⟨T, 1, none⟩ (.string u.b)).setCell ⟨T, 2, none⟩ (.string u.c)).setCell ⟨T, 3, none⟩ (.int .i64 u.ck)).setCell ⟨T, 4, none⟩ (.int .i64 u.ti)).setCell ⟨T, 5, none⟩ (.int .i64 u.tm)) (some T) := ((((((grown_set w75 ⟨T, 0, none⟩ (.string u.a)).trans (grown_set _ ⟨T, 1, none⟩ (.string u.b))).trans (grown_set _ ⟨T, 2, none⟩ (.string u.c))).trans (grown_set _ ⟨T, 3, none⟩ (.int .i64 u.ck))).trans (grown_set _ ⟨T, 4, none⟩ (.int .i64 u.ti))).trans (grown_set _ ⟨T, 5, none⟩ (.int .i64 u.tm)))
              generalize ((((((w75.setCell ⟨T, 0, none⟩ (.string u.a)).setCell ⟨T, 1, none⟩ (.string u.b)).setCell ⟨T, 2, none⟩ (.string u.c)).setCell ⟨T, 3, none⟩ (.int .i64 u.ck)).setCell ⟨T, 4, none⟩ (.int .i64 u.ti)).setCell ⟨T, 5, none⟩ (.int .i64 u.tm)) = w99 at yT gT ⊢
              have rl := cell_lt Rr.out.c0
              have hSn := And.intro (hS.1.grown gT hS.1.size (fun k e => by cases e; exact hTb)) (And.intro (hS.2.1.grown gT (by simp; omega)) (hS.2.2.grown gT (by simp; omega)))
              refine hK.out _ _ hSn (fun hS2 => ?_)
              clear hK K hS
              refine wpAnyH_done (by kernel_rfl) ?_ _
              go_wp2_with (fail)
              go_meet
              exact ⟨T, u, rfl, fu.out, AuAt.ofL yT, hSn.1⟩
        case rest =>
          obtain ⟨T, y, rfl, fy, TY, Bc⟩ := hcut
          obtain ⟨w5, hw5⟩ : ∃ w5, w5 = wc := ⟨_, rfl⟩
          subst hw5
          have B5 := Lib.hid (below_keep Bc Br)
          clear Bc Br Rr hL1
          replace TY := Lib.hid TY
          go_upto_region 9 with (fail)
          go_cut [17] (fun x wx => ∃ k' : Int, x = .int .u64 k' ∧ 0 ≤ k' ∧ k' ≤ 18446744073709551615 ∧ Below w5.heap.size w5 wx)
          case first =>
            have hk3 := (keyOf_facts (c := 2) (n := n) (.inr rfl) n0 n1).2
            rcases (show p = 0 ∨ p = 1 ∨ p = 2 ∨ p = 3 by omega) with rfl | rfl | rfl | rfl
            all_goals
              go_wp2_with (first | (go_at_call 18; refine (session_any _ _ n0 n1).mono ?_; rintro e w' ⟨rfl, rfl⟩))
              go_meet
              first
                | exact ⟨k, rfl, k0, k9, (Below.refl _ _).alloc (Nat.le_refl _) _⟩
                | exact ⟨_, rfl, hk3.1, hk3.2, (Below.refl _ _).alloc (Nat.le_refl _) _⟩
          case rest =>
            obtain ⟨k', rfl, k0', k1', Bc⟩ := hcut
            obtain ⟨w6, hw6⟩ : ∃ w6, w6 = wc := ⟨_, rfl⟩
            subst hw6
            have B6 := Lib.hid (below_keep Bc B5.out)
            have T6 := Lib.hid (TY.out.keep Bc)
            clear Bc B5 TY
            have SC := Lib.hid (fun W => aseal_any little y fy k' W k0' k1')
            have SF := Lib.hid (fun W => r7seal_any little y fy k' W k0' k1')
            unfold S7.Au.val S7.Au.cells at SC SF
            have TYc := T6.out
            obtain ⟨x0, x1, x2, x3, x4, x5⟩ := TYc
            go_wp2_with (fail)
            refine (SC.out _).mono ?_
            rintro e w7 ⟨A7, n7, c7, rfl, hs7, hb7⟩
            clear x0 x1 x2 x3 x4 x5
            have T7 := Lib.hid (T6.out.keep hb7)
            have TYc := T7.out
            obtain ⟨x0, x1, x2, x3, x4, x5⟩ := TYc
            have B7 := Lib.hid (below_keep hb7 B6.out)
            replace hs7 := Lib.hid hs7
            clear hb7 B6 T6
            go_wp2_with (fail)
            refine (SF.out _).mono ?_
            rintro e w8 ⟨A8, n8, c8, rfl, hs8, hb8⟩
            clear x0 x1 x2 x3 x4 x5
            have B8 := Lib.hid (below_keep hb8 B7.out)
            have u1 := conv_sl (hs7.out.keep hb8)
            have u2 := conv_sl hs8
            have hn8 : n8 ≤ 160 := by have := hs8.len; have := sealB_len7 little y k'; omega
            have hs8h := Lib.hid hs8
            clear hb8 B7 T7 hs7 SC SF hs8
            have hB8 := Lib.hid (hB4.out.keep B8.out)
            go_wp2_with (fail)
            clear u1 u2
            obtain ⟨ys, hys⟩ : ∃ ys, ys = S7.sealB little y k' := ⟨_, rfl⟩
            rw [← hys] at hs8h
            clear hys
            go_loopw [22] (fun i wr => ∃ q : Nat, q ≤ 3 ∧ i = .int .i64 q ∧ Below w8.heap.size w8 wr) (fun i _ => 3 - (intOf i).toNat)
            case atStart => exact ⟨0, by omega, rfl, Below.refl _ _⟩
            case round =>
              obtain ⟨q, hq, rfl, Bq⟩ := hrel
              by_cases hlq : q < 3
              · have hB9 := Lib.hid (hB8.out.keep Bq)
                have hC9 := Lib.hid (hs8h.out.keep Bq)
                go_upto_region 17 with (fail)
                go_cut [23] (fun x wx => SomeSl7 wx x ∧ Below wr.heap.size wr wx)
                case first =>
                  rcases (show q = 0 ∨ q = 1 ∨ q = 2 by omega) with rfl | rfl | rfl
                  all_goals
                    go_wp2_with (fail)
                    refine (spoil_any A8 n8 c8 ys how _ hC9.out (by omega) h0 h1).mono ?_
                    rintro e w17 ⟨AS, nS, cS, yS, rfl, hsS, hnS, hb17, _⟩
                    have hB7 := Lib.hid (hB9.out.keep hb17)
                    have hC7 := Lib.hid (hC9.out.keep hb17)
                    replace hsS := Lib.hid hsS
                    go_wp2_with (fail)
                    go_meet
                    have hb18 := (Below.refl w17.heap.size w17).alloc (Nat.le_refl _) (.cells #[.slice A bn bcap, .slice A8 n8 c8, .slice AS nS cS] 26)
                    exact ⟨by first | exact ⟨_, _, _, _, rfl, hB7.out.keep hb18, by omega⟩ | exact ⟨_, _, _, _, rfl, hC7.out.keep hb18, by omega⟩ | exact ⟨_, _, _, _, rfl, hsS.out.keep hb18, by omega⟩, below_keep hb18 hb17⟩
                case rest =>
                  obtain ⟨⟨XA, xn, xcap, xs, rfl, hX, hxn⟩, Bc⟩ := hcut
                  obtain ⟨w20, hw20⟩ : ∃ w20, w20 = wc := ⟨_, rfl⟩
                  subst hw20
                  have B20 := Lib.hid (below_keep Bc Bq)
                  clear Bc Bq hB9 hC9
                  replace hX := Lib.hid hX
                  have DC := Lib.hid (aopen_any little XA xn xcap xs k' w20 hX.out (by omega) k0' k1')
                  unfold OpnOut7 at DC
                  obtain ⟨V, hV⟩ : ∃ V, V = S7.openT little xs k' := ⟨_, rfl⟩
                  have hT2 := Lib.hid hV
                  rw [← hV] at DC
                  clear hV
                  unfold S7.Au.val S7.Au.cells at DC
                  go_wp2_with (fail)
                  refine DC.out.mono ?_
                  rintro e w21 ⟨rfl, hb21⟩
                  have hb22 : Below w21.heap.size w21 (w21.alloc (.cells #[.string V.a, .string V.b, .string V.c, .int .i64 V.ck, .int .i64 V.ti, .int .i64 V.tm] 25)) := (Below.refl _ _).alloc (Nat.le_refl _) _
                  have DF := r7open_any little XA xn xcap xs k' _ ((hX.out.keep hb21).keep hb22) (by omega)
                  unfold OpnOut7 at DF
                  rw [← hT2.out] at DF
                  unfold S7.Au.val S7.Au.cells at DF
                  replace DF := Lib.hid DF
                  have B22 := Lib.hid (below_keep hb22 (below_keep hb21 B20.out))
                  have VT := AuAt.new w21 V 25
                  unfold S7.Au.cells at VT
                  replace VT := Lib.hid VT
                  clear hb21 hb22 B20
                  go_wp2_with (fail)
                  refine DF.out.mono ?_
                  rintro e w23 ⟨rfl, hb23⟩
                  obtain ⟨x0, x1, x2, x3, x4, x5⟩ := VT.out.keep hb23
                  have vl := cell_lt x0
                  have B23 := Lib.hid (below_keep hb23 B22.out)
                  clear hb23
                  go_wp2_with (fail)
                  go_roundw
                  case rel => exact ⟨q + 1, by omega, by go_num, B23.out.alloc B23.out.size _⟩
                  case measure => simp [intOf]; omega
              · go_wp2_with (fail)
                go_roundw
                case rel => exact ⟨p + 1, by omega, by go_num, below_keep Bq B8.out⟩
                case measure => simp [intOf]; omega
      · go_wp2_with (fail)
        go_ret
        exact ⟨rfl, below_keep Br B2.out⟩

end Go.Proofs.Ytihacmonohjmaaa
