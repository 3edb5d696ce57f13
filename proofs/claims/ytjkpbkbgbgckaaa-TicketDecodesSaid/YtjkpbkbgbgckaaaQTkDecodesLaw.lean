/-
  The law TicketDecodes: which ticket any bytes are, also an encoding in which something was changed, or the error.
-/
import Derived.Test.YtjkpbkbgbgckaaaQTkH
import Derived.Test.YtjkpbkbgbgckaaaQSpoil
import Derived.Deep.DeepCutAuto
namespace Go.Proofs.Ytjkpbkbgbgckaaa
open Go.RowKit

/-- Some slice of bytes. -/
def SomeSl (w : World) (v : Value) : Prop := ∃ A n cap zs, v = .slice A n cap ∧ Sl w A n cap zs ∧ n ≤ 1000
theorem enc_pos (t : S6.Tk) : 0 < (S6.enc t).length := by
  unfold S6.enc S5.pad S6.raw S5.num1
  simp

set_option maxRecDepth 100000 in
set_option maxHeartbeats 6400000 in
theorem decodesLaw_walk (A : Option Addr) (bn bcap : Nat) (bs : List Int) (LA : Option Addr) (ln lcap : Nat) (ls : List Int) (how fl : Int) (w : World) (hB : Sl w A bn bcap bs) (hL : Sl w LA ln lcap ls) (h0 : 0 ≤ how) (h1 : how ≤ 65535) (f0 : 0 ≤ fl) (f1 : fl ≤ 255) :
    Calls Try.prog 5 #[.slice A bn bcap, .slice LA ln lcap, .int .u16 how, .int .u8 fl] w fun e w' => e = .returned (.bool true) ∧ Below w.heap.size w w' := by
  have hmax := hL.max
  unfold maxLen at hmax
  have hmb := hB.max
  unfold maxLen at hmb
  go_enter Try.func5, Try.ntmps5
  go_wp2_with (fail)
  refine (awake6_any _).mono ?_
  rintro e w1 ⟨rfl, hb1⟩
  have ways : 300 < (bn : Int) ∨ (bn : Int) ≤ 300 ∧ 40 < (ln : Int) ∨ (bn : Int) ≤ 300 ∧ (ln : Int) ≤ 40 := by omega
  rcases ways with k1 | ⟨k1, k2⟩ | ⟨k1, k2⟩
  · go_wp2_with (fail)
    go_ret
    exact ⟨rfl, hb1⟩
  · go_wp2_with (fail)
    go_ret
    exact ⟨rfl, hb1⟩
  · have hL1 := Lib.hid (hL.keep hb1)
    have B1 := Lib.hid hb1
    clear hb1
    go_wp2_with (fail)
    refine (ticketData_any LA ln lcap ls _ hL1.out (by omega)).mono ?_
    rintro e w2 ⟨u, rfl, fu, cu, hb2⟩
    have B2 := Lib.hid (below_keep hb2 B1.out)
    clear hb2 B1 hL1
    have EF := Lib.hid (fun W => r6encode_any u fu W)
    have he : S6.encB u = S6.enc u := by unfold S6.encB; rw [if_pos cu]
    unfold EncOut at EF
    rw [he] at EF
    have hlen := S6.enc_len cu
    have hpos := enc_pos u
    have hrg := Lib.hid (S6.enc_range u)
    clear he cu
    unfold S6.Tk.val S6.Tk.cells at EF
    unfold S6.Tk.val S6.Tk.cells
    go_wp2_with (fail)
    refine (EF.out _).mono ?_
    rintro e w3 ⟨A1, n1, c1, rfl, hs1, hb3, _⟩
    have B3 := Lib.hid (below_keep hb3 B2.out)
    have hl1 := hs1.len
    clear hb3 B2 EF
    obtain ⟨zs, hzs⟩ : ∃ zs, zs = S6.enc u := ⟨_, rfl⟩
    rw [← hzs] at hs1 hl1 hlen hpos hrg
    clear hzs
    replace hs1 := Lib.hid hs1
    have Ba := Lib.hid (show Below w3.heap.size w3 (w3.alloc (.cells #[] 5)) from (Below.refl _ _).alloc (Nat.le_refl _) _)
    have hO := Lib.hid (Own.new .u8 5 (w := w3) (Nat.le_refl _) [] (by decide))
    go_wp2_with (at_builtin; refine wpList_push_row rfl (.tmp 34) (.tmp 35) 28 rfl Try.underlying28 u8_infoB (base := w3.heap.size) (v := .slice (some ⟨w3.heap.size, 0, none⟩) 0 0) (zs := []) (ys := zs) (A := A1) (m := n1) (c := c1) rfl rfl hO.out (hs1.out.keep Ba.out).row (by simp; omega) (by decide) Ba.out.size ?_; intro v4 w4 O4 hg4 _; have B34 := Own.grown Ba.out hO.out hg4; clear hg4; rw [List.nil_append] at O4; obtain ⟨g, cap4, rfl, hs4, hg4⟩ := O4.slG hrg.out hl1 (by omega); have fz4 := O4.thawed 0; obtain ⟨b', off', z0, ha0, hz0, _, _, d0⟩ := hs4.row.at (i := 0) (by omega); cases ha0; rw [Nat.add_zero] at d0; have gl4 := cell_lt d0; replace O4 := Lib.hid O4; clear hs4 hz0)
    obtain ⟨O5, _⟩ := O4.out.store 0 (fl % 4)
    have B35 : Below w3.heap.size w3 (w4.setCell ⟨g, 0, none⟩ (.int .u8 (fl % 4))) := B34.setCell (by simp; omega) _
    generalize (w4.setCell ⟨g, 0, none⟩ (.int .u8 (fl % 4))) = w5 at O5 B35 ⊢
    obtain ⟨DA, dn, dcap, hd, hs5⟩ := O5.sl (by
      intro z hz
      rcases List.mem_or_eq_of_mem_set hz with hz | hz
      · exact hrg.out z hz
      · omega)
    have hdn : dn ≤ 300 := by have := hs5.len; rw [List.length_set] at this; omega
    cases hd
    have B5 := Lib.hid (below_keep B35 B3.out)
    have hB5 := Lib.hid (hB.keep B5.out)
    have hC5 := Lib.hid (hs1.out.keep B35)
    have hD5 := Lib.hid hs5
    clear O5 hs5 O4 B34 B35 Ba hO hs1 fz4 d0 gl4 B3
    go_loopw [12] (fun i wr => ∃ p : Nat, p ≤ 4 ∧ i = .int .i64 p ∧ Below w5.heap.size w5 wr) (fun i _ => 4 - (intOf i).toNat)
    case atStart => exact ⟨0, by omega, rfl, Below.refl _ _⟩
    case round =>
      obtain ⟨p, hp, rfl, Br⟩ := hrel
      by_cases hlt : p < 4
      · have hB6 := Lib.hid (hB5.out.keep Br)
        have hC6 := Lib.hid (hC5.out.keep Br)
        have hD6 := Lib.hid (hD5.out.keep Br)
        go_upto_region 11 with (fail)
        go_cut [13] (fun x wx => SomeSl wx x ∧ Below wr.heap.size wr wx)
        case first =>
          rcases (show p = 0 ∨ p = 1 ∨ p = 2 ∨ p = 3 by omega) with rfl | rfl | rfl | rfl
          all_goals
            go_wp2_with (fail)
            refine (spoil_any A1 n1 c1 zs how _ hC6.out (by omega) h0 h1).mono ?_
            rintro e w7 ⟨AS, nS, cS, yS, rfl, hsS, hnS, hb7, _⟩
            have hB7 := Lib.hid (hB6.out.keep hb7)
            have hC7 := Lib.hid (hC6.out.keep hb7)
            have hD7 := Lib.hid (hD6.out.keep hb7)
            replace hsS := Lib.hid hsS
            go_wp2_with (fail)
            go_meet
            have hb8 := (Below.refl w7.heap.size w7).alloc (Nat.le_refl _) (.cells #[.slice A bn bcap, .slice A1 n1 c1, .slice AS nS cS, .slice (some ⟨g, 0, none⟩) n1 cap4] 28)
            exact ⟨by first | exact ⟨_, _, _, _, rfl, hB7.out.keep hb8, by omega⟩ | exact ⟨_, _, _, _, rfl, hC7.out.keep hb8, by omega⟩ | exact ⟨_, _, _, _, rfl, hsS.out.keep hb8, by omega⟩ | exact ⟨_, _, _, _, rfl, hD7.out.keep hb8, by omega⟩, below_keep hb8 hb7⟩
        case rest =>
          obtain ⟨⟨XA, xn, xcap, xs, rfl, hX, hxn⟩, Bc⟩ := hcut
          obtain ⟨w20, hw20⟩ : ∃ w20, w20 = wc := ⟨_, rfl⟩
          subst hw20
          have B20 := Lib.hid (below_keep Bc Br)
          clear Bc Br hB6 hC6 hD6
          replace hX := Lib.hid hX
          have DC := Lib.hid (tdecode_any XA xn xcap xs w20 hX.out (by omega))
          unfold DecOut at DC
          obtain ⟨T, hT⟩ : ∃ T, T = S6.decT xs := ⟨_, rfl⟩
          have hT2 := Lib.hid hT
          rw [← hT] at DC
          clear hT
          unfold S6.Tk.val S6.Tk.cells at DC
          go_wp2_with (fail)
          refine DC.out.mono ?_
          rintro e w21 ⟨rfl, hb21⟩
          have hb22 : Below w21.heap.size w21 (w21.alloc (.cells #[.bool T.l, .string T.a, .string T.b, .string T.c, .int .i64 T.ad, .int .u64 T.k, .int .i64 T.li, .int .i64 T.is, .string T.s, .string T.i] 27)) := (Below.refl _ _).alloc (Nat.le_refl _) _
          have DF := r6decode_any XA xn xcap xs _ ((hX.out.keep hb21).keep hb22) (by omega)
          unfold DecOut at DF
          rw [← hT2.out] at DF
          unfold S6.Tk.val S6.Tk.cells at DF
          replace DF := Lib.hid DF
          have B22 := Lib.hid (below_keep hb22 (below_keep hb21 B20.out))
          have V := TkAt.new w21 T 27
          unfold S6.Tk.cells at V
          replace V := Lib.hid V
          clear hb21 hb22 B20
          go_wp2_with (fail)
          refine DF.out.mono ?_
          rintro e w23 ⟨rfl, hb23⟩
          obtain ⟨x0, x1, x2, x3, x4, x5, x6, x7, x8, x9⟩ := V.out.keep hb23
          have vl := cell_lt x0
          have B23 := Lib.hid (below_keep hb23 B22.out)
          clear hb23
          go_wp2_with (fail)
          go_roundw
          case rel => exact ⟨p + 1, by omega, by go_num, B23.out.alloc B23.out.size _⟩
          case measure => simp [intOf]; omega
      · go_wp2_with (fail)
        go_ret
        exact ⟨rfl, below_keep Br B5.out⟩

end Go.Proofs.Ytjkpbkbgbgckaaa
