/-
  The law AuthenticatorDecodes: which authenticator any bytes are, also an encoding in which something was changed, or the error.
-/
import Derived.Test.YtihacmonohjmaaaQAuL
import Derived.Test.YtihacmonohjmaaaQSpoil
import Derived.Deep.DeepCutAuto
namespace Go.Proofs.Ytihacmonohjmaaa
open Go.RowKit

set_option maxRecDepth 100000 in
set_option maxHeartbeats 6400000 in
theorem decodesLaw7_walk (A : Option Addr) (bn bcap : Nat) (bs : List Int) (LA : Option Addr) (ln lcap : Nat) (ls : List Int) (little other : Bool) (how : Int) (w : World) (hB : Sl w A bn bcap bs) (hL : Sl w LA ln lcap ls) (h0 : 0 ≤ how) (h1 : how ≤ 65535) :
    Calls Try.prog 5 #[.slice A bn bcap, .slice LA ln lcap, .bool little, .bool other, .int .u16 how] w fun e w' => e = .returned (.bool true) ∧ Below w.heap.size w w' := by
  have hmax := hL.max
  unfold maxLen at hmax
  have hmb := hB.max
  unfold maxLen at hmb
  go_enter Try.func5, Try.ntmps5
  go_wp2_with (fail)
  refine (awake7_any _).mono ?_
  rintro e w1 ⟨rfl, hb1⟩
  have ways : 300 < (bn : Int) ∨ (bn : Int) ≤ 300 ∧ 40 < (ln : Int) ∨ (bn : Int) ≤ 300 ∧ (ln : Int) ≤ 40 := by omega
  rcases ways with k1 | ⟨k1, k2⟩ | ⟨k1, k2⟩
  · go_wp2_with (fail)
    go_ret
    exact ⟨rfl, hb1⟩
  · go_wp2_with (fail)
    go_ret
    exact ⟨rfl, hb1⟩
  · have hL1 := Lib.hid (hL.keep hb1)
    have B1 := Lib.hid hb1
    clear hb1
    go_wp2_with (fail)
    refine (authData_any LA ln lcap ls _ hL1.out (by omega)).mono ?_
    rintro e w2 ⟨u, rfl, ou, hb2⟩
    have fu := ou.fit
    have cu := ou.chk
    have B2 := Lib.hid (below_keep hb2 B1.out)
    clear hb2 B1 hL1
    have EF := Lib.hid (fun W => r7encode_any other u fu W)
    have he : S7.encB other u = S7.enc other u := by unfold S7.encB; rw [if_pos cu]
    unfold EncOut7 at EF
    rw [he] at EF
    have hlen := S7.enc_len other cu
    have hrg := Lib.hid (S7.enc_range other u)
    clear he cu
    unfold S7.Au.val S7.Au.cells at EF
    unfold S7.Au.val S7.Au.cells
    go_wp2_with (fail)
    refine (EF.out _).mono ?_
    rintro e w3 ⟨A1, n1, c1, rfl, hs1, hb3, _⟩
    have B3 := Lib.hid (below_keep hb3 B2.out)
    have hl1 := hs1.len
    clear hb3 B2 EF
    obtain ⟨zs, hzs⟩ : ∃ zs, zs = S7.enc other u := ⟨_, rfl⟩
    rw [← hzs] at hs1 hl1 hlen hrg
    clear hzs
    replace hs1 := Lib.hid hs1
    have hB5 := Lib.hid (hB.keep B3.out)
    have hC5 := hs1
    clear hs1
    go_wp2_with (fail)
    go_loopw [13] (fun i wr => ∃ p : Nat, p ≤ 3 ∧ i = .int .i64 p ∧ Below w3.heap.size w3 wr) (fun i _ => 3 - (intOf i).toNat)
    case atStart => exact ⟨0, by omega, rfl, Below.refl _ _⟩
    case round =>
      obtain ⟨p, hp, rfl, Br⟩ := hrel
      by_cases hlt : p < 3
      · have hB6 := Lib.hid (hB5.out.keep Br)
        have hC6 := Lib.hid (hC5.out.keep Br)
        go_upto_region 9 with (fail)
        go_cut [14] (fun x wx => SomeSl7 wx x ∧ Below wr.heap.size wr wx)
        case first =>
          rcases (show p = 0 ∨ p = 1 ∨ p = 2 by omega) with rfl | rfl | rfl
          all_goals
            go_wp2_with (fail)
            refine (spoil_any A1 n1 c1 zs how _ hC6.out (by omega) h0 h1).mono ?_
            rintro e w7 ⟨AS, nS, cS, yS, rfl, hsS, hnS, hb7, _⟩
            have hB7 := Lib.hid (hB6.out.keep hb7)
            have hC7 := Lib.hid (hC6.out.keep hb7)
            replace hsS := Lib.hid hsS
            go_wp2_with (fail)
            go_meet
            have hb8 := (Below.refl w7.heap.size w7).alloc (Nat.le_refl _) (.cells #[.slice A bn bcap, .slice A1 n1 c1, .slice AS nS cS] 26)
            exact ⟨by first | exact ⟨_, _, _, _, rfl, hB7.out.keep hb8, by omega⟩ | exact ⟨_, _, _, _, rfl, hC7.out.keep hb8, by omega⟩ | exact ⟨_, _, _, _, rfl, hsS.out.keep hb8, by omega⟩, below_keep hb8 hb7⟩
        case rest =>
          obtain ⟨⟨XA, xn, xcap, xs, rfl, hX, hxn⟩, Bc⟩ := hcut
          obtain ⟨w20, hw20⟩ : ∃ w20, w20 = wc := ⟨_, rfl⟩
          subst hw20
          have B20 := Lib.hid (below_keep Bc Br)
          clear Bc Br hB6 hC6
          replace hX := Lib.hid hX
          have DC := Lib.hid (adecode_any little XA xn xcap xs w20 hX.out (by omega))
          unfold DecOut7 at DC
          obtain ⟨T, hT⟩ : ∃ T, T = S7.decT little xs := ⟨_, rfl⟩
          have hT2 := Lib.hid hT
          rw [← hT] at DC
          clear hT
          unfold S7.Au.val S7.Au.cells at DC
          go_wp2_with (fail)
          refine DC.out.mono ?_
          rintro e w21 ⟨rfl, hb21⟩
          have hb22 : Below w21.heap.size w21 (w21.alloc (.cells #[.string T.a, .string T.b, .string T.c, .int .i64 T.ck, .int .i64 T.ti, .int .i64 T.tm] 25)) := (Below.refl _ _).alloc (Nat.le_refl _) _
          have DF := r7decode_any little XA xn xcap xs _ ((hX.out.keep hb21).keep hb22) (by omega)
          unfold DecOut7 at DF
          rw [← hT2.out] at DF
          unfold S7.Au.val S7.Au.cells at DF
          replace DF := Lib.hid DF
          have B22 := Lib.hid (below_keep hb22 (below_keep hb21 B20.out))
          have V := AuAt.new w21 T 25
          unfold S7.Au.cells at V
          replace V := Lib.hid V
          clear hb21 hb22 B20
          go_wp2_with (fail)
          refine DF.out.mono ?_
          rintro e w23 ⟨rfl, hb23⟩
          obtain ⟨x0, x1, x2, x3, x4, x5⟩ := V.out.keep hb23
          have vl := cell_lt x0
          have B23 := Lib.hid (below_keep hb23 B22.out)
          clear hb23
          go_wp2_with (fail)
          go_roundw
          case rel => exact ⟨p + 1, by omega, by go_num, B23.out.alloc B23.out.size _⟩
          case measure => simp [intOf]; omega
      · go_wp2_with (fail)
        go_ret
        exact ⟨rfl, below_keep Br B3.out⟩

end Go.Proofs.Ytihacmonohjmaaa
