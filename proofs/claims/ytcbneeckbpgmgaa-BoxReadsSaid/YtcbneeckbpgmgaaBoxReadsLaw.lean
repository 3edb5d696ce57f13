/-
  The law BoxReads: which box any bytes begin with, or the error.
-/
import Derived.Test.YtcbneeckbpgmgaaBoxReadsA
namespace Go.Proofs.Ytcbneeckbpgmgaa
open Go.RowKit

set_option maxRecDepth 100000 in
set_option maxHeartbeats 6400000 in
theorem readsLaw_walk (RA : Option Addr) (rn rcap : Nat) (rs : List Int) (A : Option Addr) (bn bcap : Nat) (bs : List Int) (TA : Option Addr) (tn tcap : Nat) (ts : List Int) (kind nn s : Int) (w : World) (hR : Sl w RA rn rcap rs) (hB : Sl w A bn bcap bs) (hT : Sl w TA tn tcap ts)
    (q0 : 0 ≤ kind) (q1 : kind ≤ 255) (n0 : 0 ≤ nn) (n1 : nn ≤ 255) (s0 : 0 ≤ s) (s1 : s ≤ 65535) :
    Calls Try.prog 4 #[.slice RA rn rcap, .slice A bn bcap, .slice TA tn tcap, .int .u8 kind, .int .u8 nn, .int .u16 s] w fun e w' => e = .returned (.bool true) ∧ Below w.heap.size w w' := by
  have hmaxr := hR.max
  have hmaxb := hB.max
  have hmaxt := hT.max
  unfold maxLen at hmaxr hmaxb hmaxt
  by_cases h1 : 1100 < (rn : Int) ∨ 900 < (bn : Int) ∨ 100 < (tn : Int)
  · rcases h1 with h1 | h1 | h1
    all_goals
      go_enter Try.func4, Try.ntmps4
      go_wp2_with (fail)
      refine (awake4_any _).mono ?_
      rintro e w1 ⟨rfl, B⟩
      go_wp2_with (fail)
      all_goals
        go_ret
        exact ⟨rfl, B⟩
  · have h2 : (rn : Int) ≤ 1100 := by omega
    have h3 : (bn : Int) ≤ 900 := by omega
    have h4 : (tn : Int) ≤ 100 := by omega
    clear h1
    have hX := Lib.hid (show S4.isK (1 + kind % 10) = true by rw [S4.isK_iff]; omega)
    obtain ⟨v1, v2, v3⟩ := keyOf_facts (c := 2) (.inr rfl) n0 n1
    have hl := Lib.hid (show (bs.length : Int) ≤ 1000 by have := hB.len; omega)
    have HM := S4.mk_ok (body := bs) hX.out v1 hl.out
    replace HM := Lib.hid HM
    clear v1
    go_enter Try.func4, Try.ntmps4
    go_wp2_with (fail)
    refine (awake4_any _).mono ?_
    rintro e w1 ⟨rfl, B⟩
    have hB1 := hB.keep B
    have hR1 := hR.keep B
    have hT1 := hT.keep B
    have MK := r4make_any (1 + kind % 10) (keyOf 2 nn) _ _ _ _ _ hB1 v2 v3
    unfold MadeB at MK
    rw [HM.out.1, HM.out.2] at MK
    replace MK := Lib.hid MK
    clear hB1
    go_wp2_with (first | (go_at_call 13; refine (session_any _ _ n0 n1).mono ?_; rintro e w' ⟨rfl, rfl⟩))
    refine MK.out.mono ?_
    rintro e w2 ⟨A2, n2, c2, rfl, hs2, hb2⟩
    have B2 := Lib.hid (below_keep hb2 B)
    have hR2 := Lib.hid (hR1.keep hb2)
    have hT2 := Lib.hid (hT1.keep hb2)
    clear MK hb2 B hR1 hT1
    have hn2 : 12 ≤ n2 ∧ n2 ≤ 1012 := by have := hs2.len; rw [S4.boxOf_len] at this; have := hl.out; omega
    obtain ⟨m2, m3⟩ := hn2
    obtain ⟨b, off, rfl⟩ : ∃ b off, A2 = some ⟨b, off, none⟩ := by
      obtain ⟨b, off, _, e, _⟩ := hs2.row.at (i := 0) (by omega)
      exact ⟨b, off, e⟩
    generalize S4.boxOf (1 + kind % 10) (keyOf 2 nn) bs = xs at *
    clear HM hX v2 v3
    have hxl := hs2.len
    have hcc := hs2.2.1
    have hX2 := Lib.hid hs2
    clear hs2
    have e0 : 0 ≤ s % ((n2 : Int) + 1) := Int.emod_nonneg _ (by omega)
    have e1 : s % ((n2 : Int) + 1) < (n2 : Int) + 1 := Int.emod_lt_of_pos _ (by omega)
    obtain ⟨kk, hk⟩ := Int.eq_ofNat_of_zero_le e0
    have hkn : kk ≤ n2 := by omega
    have hct := Lib.hid (hX2.out.cut kk hkn)
    have PA := Lib.hid ((Below.refl w2.heap.size w2).alloc (Nat.le_refl _) (.cells #[] 5))
    have own0 := Lib.hid (Own.new .u8 5 (w := w2) (Nat.le_refl _) [] (by decide))
    have Ba := Lib.hid (fun (x : World) (o : Obj) => (Below.refl x.heap.size x).alloc (Nat.le_refl _) o)
    have SP := Lib.hid (fun (W : World) (hb : Below w2.heap.size w2 W) => spoil_any (some ⟨b, off, none⟩) n2 c2 xs s W (hX2.out.keep hb) (by omega) s0 s1)
    have h63a := Lib.hid (show ([] : List Int).length + n2 < 1000000 by simp; omega)
    have h63b := Lib.hid (show ([] ++ xs : List Int).length + tn < 1000000 by simp; omega)
    have hrg := Lib.hid (show ∀ z ∈ [] ++ xs ++ ts, 0 ≤ z ∧ z ≤ 255 by
      intro z hz
      rw [List.nil_append] at hz
      rcases List.mem_append.1 hz with hz | hz
      · exact hX2.out.range z hz
      · exact hT2.out.range z hz)
    have hw0 : IntKind.i64.wrap s = s := IntWalk.i64_in _ (by omega)
    have hw1 : IntKind.i64.wrap ((n2 : Int) + 1) = (n2 : Int) + 1 := IntWalk.i64_in _ (by omega)
    have hw2 : s.tmod ((n2 : Int) + 1) = (kk : Int) := by rw [Int.tmod_eq_emod_of_nonneg s0]; exact hk
    have hw3 : IntKind.i64.wrap (kk : Int) = (kk : Int) := IntWalk.i64_in _ (by omega)
    have hw4 : (kk : Int) ≤ (c2 : Int) := by omega
    have hw5 : ¬ (n2 : Int) + 1 = 0 := by omega
    have hw6 : ¬ c2 = 0 := by omega
    clear e0 e1 hxl
    go_upto_region 6 with (fail)
    go_cut [15] (fun l wx => ∃ g, l = .slice (some ⟨g, 0, none⟩) 4 4 ∧ Rows4 wx g ∧ Below w.heap.size w wx)
    case first =>
      go_region_law (first
            | (with_reducible refine step_push_row (w := (w2.alloc (.cells #[] 5)).drew) ?_ (.tmp 51) (.tmp 52) 24 ?_ Try.underlying24 u8_infoB (base := w2.heap.size) (v := .slice (some ⟨w2.heap.size, 0, none⟩) 0 0) (zs := []) (ys := xs) (A := some ⟨b, off, none⟩) (m := n2) (c := c2) ?_ ?_ ?_ ?_ ?_ (by decide) ?_ ?_
               · rfl
               · rfl
               · kernel_rfl
               · kernel_rfl
               · exact Own.drew own0.out
               · exact (hX2.out.keep PA.out.drew).row
               · exact h63a.out
               · exact PA.out.drew.size
               intro v1 u1 O1 hg1 _
               have P1 := Lib.hid (Own.grown PA.out.drew (Own.drew own0.out) hg1)
               replace O1 := Lib.hid O1
               clear hg1)
            | (with_reducible refine step_push_row (w := u1) ?_ (.tmp 53) (.tmp 54) 24 ?_ Try.underlying24 u8_infoB (base := w2.heap.size) (v := v1) (zs := [] ++ xs) (ys := ts) (A := TA) (m := tn) (c := tcap) ?_ ?_ ?_ ?_ ?_ (by decide) ?_ ?_
               · rfl
               · rfl
               · kernel_rfl
               · kernel_rfl
               · exact O1.out
               · exact (hT2.out.keep P1.out).row
               · exact h63b.out
               · exact P1.out.size
               intro v2 u2 O2 hg2 _
               have P2 := Lib.hid (Own.grown P1.out O1.out hg2)
               obtain ⟨A7, n7, c7, rfl, hs7⟩ := O2.sl hrg.out
               replace hs7 := Lib.hid hs7
               clear hg2)
            | (go_simp
               go_at_call 14
               refine (SP.out _ P2.out).mono ?_
               rintro e wS ⟨AS, nS, cS, ss, rfl, hS, hnS, bS, _⟩
               have PS := Lib.hid (below_keep bS P2.out)
               have hs8 := Lib.hid (hs7.out.keep bS)
               replace hS := Lib.hid hS)
            | fail)
      go_wp2_with (fail)
      go_meet
      exact ⟨wS.heap.size, rfl, rows4_new _ (hR2.out.keep PS.out) hs8.out hS.out (hct.out.keep PS.out), below_keep (Ba.out wS _) (below_keep PS.out B2.out)⟩
    case rest =>
      obtain ⟨g, rfl, HL, BC⟩ := hcut
      replace HL := Lib.hid HL
      replace BC := Lib.hid BC
      clear PA own0 Ba SP h63a h63b hrg hw0 hw1 hw2 hw3 hw4 hw5 hw6 hR2 hT2 hX2 B2
      obtain ⟨W0, hW0⟩ : ∃ W0, W0 = wc := ⟨_, rfl⟩
      subst hW0
      go_wp2_with (fail)
      go_loopw [16] (fun i wr => ∃ p : Nat, p ≤ 4 ∧ i = .int .i64 p ∧ Below W0.heap.size W0 wr) (fun i _ => 4 - (intOf i).toNat)
      case atStart => exact ⟨0, by omega, rfl, Below.refl _ _⟩
      case round =>
        obtain ⟨p, hp, rfl, BR⟩ := hrel
        by_cases hlt : p < 4
        · obtain ⟨X, m, c, zs, hx, hsl⟩ := HL.out p hlt
          have hx0 := cell_keep BR hx
          have hz0 := hsl.keep BR
          have i1 : (0 : Int) ≤ (p : Int) := by omega
          have i2 : (p : Int) < (4 : Int) := by omega
          replace BR := Lib.hid BR
          clear hx hsl
          go_wp2_with (fail)
          refine (bread_any _ _ _ zs _ hz0).mono ?_
          rintro e w5 ⟨A5, n5, c5, rfl, hs5, hb5, _⟩
          have hx5 := cell_keep hb5 hx0
          have hz5 := hz0.keep hb5
          have B5 := Lib.hid (below_keep hb5 BR.out)
          have hxa : ∀ o, (w5.alloc o).cell? ⟨g, p, none⟩ = some (.slice X m c) := fun o => cell_keep ((Below.refl _ _).alloc (Nat.le_refl _) o) hx5
          have hza := Lib.hid (fun o => hz5.keep ((Below.refl w5.heap.size w5).alloc (Nat.le_refl _) o))
          have hsa := Lib.hid (fun o => hs5.keep ((Below.refl w5.heap.size w5).alloc (Nat.le_refl _) o))
          have Bb := Lib.hid (fun o => B5.out.alloc B5.out.size o)
          clear hb5 hx0 hz0 BR hs5 hz5
          go_wp2_with (fail)
          refine (r4read_any _ _ _ zs _ (hza.out _)).mono ?_
          rintro e w6 ⟨A6, n6, c6, rfl, hs6, hb6, _⟩
          have a0 : w6.cell? ⟨w5.heap.size, 0, none⟩ = some (.int .i64 (S4.rdK zs)) := cell_keep hb6 (by simp [go_sem])
          have a1 : w6.cell? ⟨w5.heap.size, 1, none⟩ = some (.int .u64 (S4.rdY zs)) := cell_keep hb6 (by simp [go_sem])
          have a2 : w6.cell? ⟨w5.heap.size, 2, none⟩ = some (.slice A5 n5 c5) := cell_keep hb6 (by simp [go_sem])
          have hx6 := cell_keep hb6 (hxa _)
          have hz6 := (hza.out _).keep hb6
          have hs5 := (hsa.out _).keep hb6
          have B6 := below_keep hb6 (Bb.out _)
          have BA : Below w6.heap.size w6 (w6.alloc (.cells #[.int .i64 (S4.rdK zs), .int .u64 (S4.rdY zs), .slice A6 n6 c6] 37)) := (Below.refl _ _).alloc (Nat.le_refl _) _
          have b0 : (w6.alloc (.cells #[.int .i64 (S4.rdK zs), .int .u64 (S4.rdY zs), .slice A6 n6 c6] 37)).cell? ⟨w6.heap.size, 0, none⟩ = some (.int .i64 (S4.rdK zs)) := by simp [go_sem]
          have b1 : (w6.alloc (.cells #[.int .i64 (S4.rdK zs), .int .u64 (S4.rdY zs), .slice A6 n6 c6] 37)).cell? ⟨w6.heap.size, 1, none⟩ = some (.int .u64 (S4.rdY zs)) := by simp [go_sem]
          have b2 : (w6.alloc (.cells #[.int .i64 (S4.rdK zs), .int .u64 (S4.rdY zs), .slice A6 n6 c6] 37)).cell? ⟨w6.heap.size, 2, none⟩ = some (.slice A6 n6 c6) := by simp [go_sem]
          replace a0 := cell_keep BA a0
          replace a1 := cell_keep BA a1
          replace a2 := cell_keep BA a2
          replace hx6 := cell_keep BA hx6
          replace hz6 := Lib.hid (hz6.keep BA)
          replace hs5 := Lib.hid (hs5.keep BA)
          replace hs6 := Lib.hid (hs6.keep BA)
          replace B6 := Lib.hid (below_keep BA B6)
          clear hb6 hxa hza hsa Bb BA hx5 B5
          go_wp2_with (fail)
          generalize (w6.alloc (.cells #[.int .i64 (S4.rdK zs), .int .u64 (S4.rdY zs), .slice A6 n6 c6] 37)) = W7 at *
          have CV5 := Lib.hid (fun (W : World) (hb : Below W7.heap.size W7 W) => conv_sl (hs5.out.keep hb))
          have CV6 := Lib.hid (fun (W : World) (hb : Below W7.heap.size W7 W) => conv_sl (hs6.out.keep hb))
          have I1 := Lib.hid (fun (W : World) (hb : Below W7.heap.size W7 W) => bis_any X m c zs W (hz6.out.keep hb))
          have I2 := Lib.hid (fun (W : World) (hb : Below W7.heap.size W7 W) => r4is_any X m c zs W (hz6.out.keep hb))
          clear hz6 hs5 hs6
          generalize S4.rdK zs = K0 at *
          generalize S4.rdY zs = Y0 at *
          generalize S4.rdN zs = N0 at *
          generalize S4.rdE zs = E0 at *
          generalize strOfNums (S4.rdB zs) = T0 at *
          generalize S4.isB zs = Q0 at *
          go_region_held3 (fun W => Below W7.heap.size W7 W ∧ W.cell? ⟨g, p, none⟩ = some (.slice X m c) ∧ W.cell? ⟨w5.heap.size, 0, none⟩ = some (.int .i64 K0) ∧ W.cell? ⟨w5.heap.size, 1, none⟩ = some (.int .u64 Y0) ∧ W.cell? ⟨w5.heap.size, 2, none⟩ = some (.slice A5 n5 c5) ∧
              W.cell? ⟨w6.heap.size, 0, none⟩ = some (.int .i64 K0) ∧ W.cell? ⟨w6.heap.size, 1, none⟩ = some (.int .u64 Y0) ∧ W.cell? ⟨w6.heap.size, 2, none⟩ = some (.slice A6 n6 c6) ∧
              (convert 24 9 (.slice A5 n5 c5)).run Try.prog W = .ok (.string T0) W ∧ (convert 24 9 (.slice A6 n6 c6)).run Try.prog W = .ok (.string T0) W)
            (first | (go_keep; done) | ((repeat' apply And.intro) <;> first | (go_keep; done) | exact (Below.refl _ _).drew | exact below_keep hb8 (by go_keep) | exact cell_keep hb8 (by go_keep) | exact CV5.out _ (Below.refl _ _).drew | exact CV6.out _ (Below.refl _ _).drew | exact CV5.out _ (below_keep hb8 (by go_keep)) | exact CV6.out _ (below_keep hb8 (by go_keep))))
            (first
              | (go_at_call 17; refine (I1.out _ ?_).mono ?_; exact And.left ‹Below W7.heap.size W7 _ ∧ _›; rintro e w8 ⟨rfl, hb8⟩)
              | (go_at_call 18; refine (I2.out _ ?_).mono ?_; exact And.left ‹Below W7.heap.size W7 _ ∧ _›; rintro e w8 ⟨rfl, hb8⟩))
          all_goals
            have hS := And.left ‹Below W7.heap.size W7 _ ∧ _›
            have B8 := Lib.hid (below_keep hS B6.out)
            go_wp2_with (fail)
            go_roundw
            case rel => exact ⟨p + 1, by omega, by go_num, B8.out⟩
            case measure => simp [intOf]; omega
        · go_wp2_with (fail)
          go_ret
          exact ⟨ret_bool (by simp), below_keep BR BC.out⟩

end Go.Proofs.Ytcbneeckbpgmgaa
