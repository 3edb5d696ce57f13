/-
  The law KdcDecodes: what the four functions decode from any bytes, and from messages in which something was changed, or the error.
-/
import Derived.Test.YtkhkmgblgonfoaaGreatQKdS
import Derived.Test.YtkhkmgblgonfoaaGreatQMakeB
import Derived.Test.YtkhkmgblgonfoaaGreatQKdCode
import Derived.Deep.DeepCutAuto
import Derived.Deep.CutBlock
namespace Go.Proofs.YtkhkmgblgonfoaaGreat
open Go.RowKit

/-- Some slice of bytes. -/
def SomeSl9 (m : Nat) (w : World) (v : Value) : Prop := ∃ A n cap zs, v = .slice A n cap ∧ Sl w A n cap zs ∧ n ≤ m

set_option maxRecDepth 100000 in
set_option maxHeartbeats 12800000 in
theorem decodesLaw9_walk (BA : Option Addr) (bn bcap : Nat) (bs : List Int) (LA : Option Addr) (ln lcap : Nat) (ls : List Int) (SA : Option Addr) (sn scap : Nat) (ss : List Int) (little other : Bool) (kind how : Int) (w : World) (hB : Sl w BA bn bcap bs) (hL : Sl w LA ln lcap ls) (hS : Sl w SA sn scap ss) (k0 : 0 ≤ kind) (k1 : kind ≤ 255) (h0 : 0 ≤ how) (h1 : how ≤ 65535) :
    Calls Tryz.prog 3 #[.slice BA bn bcap, .slice LA ln lcap, .slice SA sn scap, .bool little, .bool other, .int .u8 kind, .int .u16 how] w fun e w' => e = .returned (.bool true) ∧ Below w.heap.size w w' := by
  have hmax := hL.max
  unfold maxLen at hmax
  have hmb := hB.max
  unfold maxLen at hmb
  have hms := hS.max
  unfold maxLen at hms
  go_enter Tryz.func3, Tryz.ntmps3
  go_wp2_with (fail)
  refine (awake9_any _).mono ?_
  rintro e w1 ⟨rfl, hb1⟩
  have ways : 300 < (bn : Int) ∨ (bn : Int) ≤ 300 ∧ 40 < (ln : Int) ∨ (bn : Int) ≤ 300 ∧ (ln : Int) ≤ 40 ∧ 300 < (sn : Int) ∨ (bn : Int) ≤ 300 ∧ (ln : Int) ≤ 40 ∧ (sn : Int) ≤ 300 := by omega
  rcases ways with q1 | ⟨q1, q2⟩ | ⟨q1, q2, q3⟩ | ⟨q1, q2, q3⟩
  · go_wp2_with (fail)
    go_ret
    exact ⟨rfl, hb1⟩
  · go_wp2_with (fail)
    go_ret
    exact ⟨rfl, hb1⟩
  · go_wp2_with (fail)
    go_ret
    exact ⟨rfl, hb1⟩
  · have hL1 := Lib.hid (hL.keep hb1)
    have hS1 := Lib.hid (hS.keep hb1)
    have hB1 := Lib.hid (hB.keep hb1)
    have B1 := Lib.hid hb1
    clear hb1
    go_upto_block 0 with (fail)
    go_cut [15] from 43 to 82 (fun x wx => SomeSl9 2000 wx x ∧ Below w1.heap.size w1 wx)
    case first =>
      rcases (show kind % 4 = 0 ∨ kind % 4 = 1 ∨ kind % 4 = 2 ∨ kind % 4 = 3 by omega) with m | m | m | m
      · go_wp2_with (fail)
        refine (request9_any LA ln lcap ls little _ hL1.out (by omega)).mono ?_
        rintro e w2 ⟨u, rfl, fu, cu, hb2⟩
        have EC := Lib.hid (fun W => rqencode_any u fu W)
        unfold RqEnc S9q.Rq.val S9q.Rq.cells at EC
        unfold S9q.Rq.val S9q.Rq.cells
        go_wp2_with (fail)
        refine (EC.out _).mono ?_
        rintro e w3 ⟨A1, n1, c1, rfl, hs1, hb3, _⟩
        have hl := hs1.len
        have hm := S9q.encB_len u
        go_wp2_with (fail)
        go_meet
        exact ⟨⟨A1, n1, c1, _, rfl, hs1, by omega⟩, below_keep hb3 hb2⟩
      · go_wp2_with (fail)
        refine (reply9_any LA ln lcap ls SA sn scap ss little _ hL1.out (by omega) hS1.out).mono ?_
        rintro e w2 ⟨u, rfl, hz, fu, hb2⟩
        have EC := Lib.hid (fun W h => rpencode_any u SA sn scap fu W h)
        rw [hz] at EC
        unfold RpEnc S9r.Rp.val S9r.Rp.cells at EC
        unfold S9r.Rp.val S9r.Rp.cells
        go_wp2_with (fail)
        refine (EC.out _ (hS1.out.keep hb2)).mono ?_
        rintro e w3 ⟨A1, n1, c1, rfl, hs1, hb3, _⟩
        have hl := hs1.len
        have hm := S9r.encB_len u
        go_wp2_with (fail)
        go_meet
        exact ⟨⟨A1, n1, c1, _, rfl, hs1, by omega⟩, below_keep hb3 hb2⟩
      · go_wp2_with (fail)
        refine (part9_any LA ln lcap ls SA sn scap ss _ w1 hL1.out (by omega) hS1.out hS1.out).mono ?_
        rintro e w2 ⟨u, UA, un, ucap, rfl, hz, hun, fu, hb2⟩
        have EC := Lib.hid (fun W h => ptencode_any little u UA un ucap fu W h)
        unfold PtEnc S9p.Pt.val S9p.Pt.cells at EC
        unfold S9p.Pt.val S9p.Pt.cells
        go_wp2_with (fail)
        refine (EC.out _ (hz.keep hb2)).mono ?_
        rintro e w3 ⟨A1, n1, c1, rfl, hs1, hb3, _⟩
        have hl := hs1.len
        have hm := S9p.encB_len little u
        go_wp2_with (fail)
        go_meet
        exact ⟨⟨A1, n1, c1, _, rfl, hs1, by omega⟩, below_keep hb3 hb2⟩
      · go_wp2_with (fail)
        refine (user_any kind _ k0 k1).mono ?_
        rintro e w2 ⟨rfl, hb2⟩
        have fu : (S9e.Er.mk little (userS kind) ⟨#[]⟩ (realmS (kind / 3)) 5 8 ⟨#[110, 111]⟩).Fit := ⟨userS_size kind, (by show (⟨#[]⟩ : ByteArray).size ≤ maxLen; decide), realmS_size (kind / 3), by constructor <;> simp, by constructor <;> simp, by show (⟨#[110, 111]⟩ : ByteArray).size ≤ maxLen; decide⟩
        have EC := erencode_any _ fu
        unfold ErEnc S9e.Er.val S9e.Er.cells at EC
        have hm := S9e.encB_len (S9e.Er.mk little (userS kind) ⟨#[]⟩ (realmS (kind / 3)) 5 8 ⟨#[110, 111]⟩)
        replace EC := Lib.hid EC
        replace hm := Lib.hid hm
        clear fu
        go_wp2_with (fail)
        refine (EC.out _).mono ?_
        rintro e w3 ⟨A1, n1, c1, rfl, hs1, hb3, _⟩
        have hl := hs1.len
        have hm2 := hm.out
        go_wp2_with (fail)
        go_meet
        exact ⟨⟨A1, n1, c1, _, rfl, hs1, by omega⟩, below_keep hb3 hb2⟩
    case rest =>
      obtain ⟨⟨A1, n1, c1, zs, rfl, hs1, hn1⟩, Bc⟩ := hcut
      obtain ⟨w3, hw3⟩ : ∃ w3, w3 = wc := ⟨_, rfl⟩
      subst hw3
      have B3 := Lib.hid (below_keep Bc B1.out)
      have hB5 := Lib.hid (hB1.out.keep Bc)
      have hC5 := Lib.hid hs1
      clear Bc B1 hB1 hL1 hS1 hs1
      go_wp2_with (fail)
      go_loopw [16] (fun i wr => ∃ p : Nat, p ≤ 3 ∧ i = .int .i64 p ∧ Below w3.heap.size w3 wr) (fun i _ => 3 - (intOf i).toNat)
      case atStart => exact ⟨0, by omega, rfl, Below.refl _ _⟩
      case round =>
        obtain ⟨p, hp, rfl, Br⟩ := hrel
        by_cases hlt : p < 3
        · have hB6 := Lib.hid (hB5.out.keep Br)
          have hC6 := Lib.hid (hC5.out.keep Br)
          go_upto_region 17 with (fail)
          go_cut [17] (fun x wx => SomeSl9 2001 wx x ∧ Below wr.heap.size wr wx)
          case first =>
            rcases (show p = 0 ∨ p = 1 ∨ p = 2 by omega) with rfl | rfl | rfl
            all_goals
              go_wp2_with (fail)
              refine (spoil_any A1 n1 c1 zs how _ hC6.out (by omega) h0 h1).mono ?_
              rintro e w7 ⟨AS, nS, cS, yS, rfl, hsS, hnS, hb7, _⟩
              have hB7 := Lib.hid (hB6.out.keep hb7)
              have hC7 := Lib.hid (hC6.out.keep hb7)
              replace hsS := Lib.hid hsS
              go_wp2_with (fail)
              go_meet
              have hb8 := (Below.refl w7.heap.size w7).alloc (Nat.le_refl _) (.cells #[.slice BA bn bcap, .slice A1 n1 c1, .slice AS nS cS] 22)
              exact ⟨by first | exact ⟨_, _, _, _, rfl, hB7.out.keep hb8, by omega⟩ | exact ⟨_, _, _, _, rfl, hC7.out.keep hb8, by omega⟩ | exact ⟨_, _, _, _, rfl, hsS.out.keep hb8, by omega⟩, below_keep hb8 hb7⟩
          case rest =>
            obtain ⟨⟨XA, xn, xcap, xs, rfl, hX, hxn⟩, Bc⟩ := hcut
            obtain ⟨w20, hw20⟩ : ∃ w20, w20 = wc := ⟨_, rfl⟩
            subst hw20
            have B20 := Lib.hid (below_keep Bc Br)
            clear Bc Br hB6 hC6
            replace hX := Lib.hid hX
            have DRq := Lib.hid (krqdec_any XA xn xcap xs w20 hX.out (by omega))
            unfold RqDec at DRq
            obtain ⟨TRq, hTRq⟩ : ∃ T, T = S9q.decT xs := ⟨_, rfl⟩
            replace hTRq := Lib.hid hTRq
            rw [← hTRq.out] at DRq
            unfold S9q.Rq.val S9q.Rq.cells at DRq
            replace DRq := Lib.hid DRq.out
            go_wp2_with (fail)
            refine DRq.out.mono ?_
            rintro e w21 ⟨rfl, hb⟩
            have hb2 : Below w21.heap.size w21 (w21.alloc (.cells #[.bool TRq.l, .string TRq.a, .string TRq.b, .string TRq.c, .int .i64 TRq.tm, .int .i64 TRq.li, .string TRq.s, .string TRq.i] 31)) := (Below.refl _ _).alloc (Nat.le_refl _) _
            have FRq := rqdecode_any XA xn xcap xs _ ((hX.out.keep hb).keep hb2) (by omega)
            unfold RqDec at FRq
            rw [← hTRq.out] at FRq
            unfold S9q.Rq.val S9q.Rq.cells at FRq
            replace FRq := Lib.hid FRq
            have B21 := Lib.hid (below_keep hb2 (below_keep hb B20.out))
            have V := RqAt.new w21 TRq 31
            unfold S9q.Rq.cells at V
            replace V := Lib.hid V
            replace hX := Lib.hid ((hX.out.keep hb).keep hb2)
            clear hb hb2 B20 DRq
            go_wp2_with (fail)
            refine FRq.out.mono ?_
            rintro e w22 ⟨rfl, hb⟩
            obtain ⟨x0, x1, x2, x3, x4, x5, x6, x7⟩ := V.out.keep hb
            have vl := cell_lt x0
            have hb2 : Below w22.heap.size w22 (w22.alloc (.cells #[.bool TRq.l, .string TRq.a, .string TRq.b, .string TRq.c, .int .i64 TRq.tm, .int .i64 TRq.li, .string TRq.s, .string TRq.i] 31)) := (Below.refl _ _).alloc (Nat.le_refl _) _
            have B22 := Lib.hid (below_keep hb2 (below_keep hb B21.out))
            replace hX := Lib.hid ((hX.out.keep hb).keep hb2)
            clear hb hb2 B21 FRq hTRq
            have DRp := Lib.hid (krpdec_any XA xn xcap xs (w22.alloc (.cells #[.bool TRq.l, .string TRq.a, .string TRq.b, .string TRq.c, .int .i64 TRq.tm, .int .i64 TRq.li, .string TRq.s, .string TRq.i] 31)) hX.out (by omega))
            unfold RpDec at DRp
            obtain ⟨TRp, hTRp⟩ : ∃ T, T = S9r.decT xs := ⟨_, rfl⟩
            replace hTRp := Lib.hid hTRp
            rw [← hTRp.out] at DRp
            unfold S9r.Rp.val S9r.Rp.cells at DRp
            replace DRp := Lib.hid DRp.out
            go_wp2_with (fail)
            clear x0 x1 x2 x3 x4 x5 x6 x7 vl V
            refine DRp.out.mono ?_
            rintro e w23 ⟨A1, n1, c1, rfl, hs1, hb, _⟩
            have hb2 : Below w23.heap.size w23 (w23.alloc (.cells #[.bool TRp.l, .string TRp.a, .string TRp.b, .string TRp.c, .int .i64 TRp.tm, .int .i64 TRp.ex, .int .i64 TRp.kv, .slice A1 n1 c1] 35)) := (Below.refl _ _).alloc (Nat.le_refl _) _
            have FRp := rpdecode_any XA xn xcap xs _ ((hX.out.keep hb).keep hb2) (by omega)
            unfold RpDec at FRp
            rw [← hTRp.out] at FRp
            unfold S9r.Rp.val S9r.Rp.cells at FRp
            replace FRp := Lib.hid FRp
            have B23 := Lib.hid (below_keep hb2 (below_keep hb B22.out))
            have V := RpAt.new w23 TRp A1 n1 c1 35
            unfold S9r.Rp.cells at V
            replace V := Lib.hid V
            replace hs1 := Lib.hid (hs1.keep hb2)
            replace hX := Lib.hid ((hX.out.keep hb).keep hb2)
            clear hb hb2 B22 DRp
            go_wp2_with (fail)
            refine FRp.out.mono ?_
            rintro e w24 ⟨A2, n2, c2, rfl, hs2, hb, _⟩
            obtain ⟨x0, x1, x2, x3, x4, x5, x6, x7⟩ := V.out.keep hb
            have vl := cell_lt x0
            have hb2 : Below w24.heap.size w24 (w24.alloc (.cells #[.bool TRp.l, .string TRp.a, .string TRp.b, .string TRp.c, .int .i64 TRp.tm, .int .i64 TRp.ex, .int .i64 TRp.kv, .slice A2 n2 c2] 35)) := (Below.refl _ _).alloc (Nat.le_refl _) _
            have B24 := Lib.hid (below_keep hb2 (below_keep hb B23.out))
            have SR := samereply_any TRp A1 A2 n1 c1 n2 c2 _ ((hs1.out.keep hb).keep hb2) (hs2.keep hb2)
            unfold S9r.Rp.val S9r.Rp.cells at SR
            replace SR := Lib.hid SR
            replace hX := Lib.hid ((hX.out.keep hb).keep hb2)
            clear hb hb2 B23 FRp hTRp hs1 hs2
            go_wp2_with (fail)
            refine SR.out.mono ?_
            rintro e w25 ⟨rfl, hb⟩
            clear x0 x1 x2 x3 x4 x5 x6 x7 vl V
            have B25 := Lib.hid (below_keep hb B24.out)
            replace hX := Lib.hid (hX.out.keep hb)
            clear hb B24 SR
            have DPt := Lib.hid (kptdec_any other XA xn xcap xs w25 hX.out (by omega))
            unfold PtDec at DPt
            obtain ⟨TPt, hTPt⟩ : ∃ T, T = S9p.decT other xs := ⟨_, rfl⟩
            replace hTPt := Lib.hid hTPt
            rw [← hTPt.out] at DPt
            unfold S9p.Pt.val S9p.Pt.cells at DPt
            replace DPt := Lib.hid DPt.out
            go_wp2_with (fail)
            refine DPt.out.mono ?_
            rintro e w26 ⟨A1, n1, c1, rfl, hs1, hb, _⟩
            have hb2 : Below w26.heap.size w26 (w26.alloc (.cells #[.int .u64 TPt.k, .string TPt.a, .string TPt.b, .string TPt.c, .int .i64 TPt.li, .int .i64 TPt.kv, .slice A1 n1 c1, .int .i64 TPt.tm] 41)) := (Below.refl _ _).alloc (Nat.le_refl _) _
            have FPt := ptdecode_any other XA xn xcap xs _ ((hX.out.keep hb).keep hb2) (by omega)
            unfold PtDec at FPt
            rw [← hTPt.out] at FPt
            unfold S9p.Pt.val S9p.Pt.cells at FPt
            replace FPt := Lib.hid FPt
            have B26 := Lib.hid (below_keep hb2 (below_keep hb B25.out))
            have V := PtAt.new w26 TPt A1 n1 c1 41
            unfold S9p.Pt.cells at V
            replace V := Lib.hid V
            replace hs1 := Lib.hid (hs1.keep hb2)
            replace hX := Lib.hid ((hX.out.keep hb).keep hb2)
            clear hb hb2 B25 DPt
            go_wp2_with (fail)
            refine FPt.out.mono ?_
            rintro e w27 ⟨A2, n2, c2, rfl, hs2, hb, _⟩
            obtain ⟨x0, x1, x2, x3, x4, x5, x6, x7⟩ := V.out.keep hb
            have vl := cell_lt x0
            have hb2 : Below w27.heap.size w27 (w27.alloc (.cells #[.int .u64 TPt.k, .string TPt.a, .string TPt.b, .string TPt.c, .int .i64 TPt.li, .int .i64 TPt.kv, .slice A2 n2 c2, .int .i64 TPt.tm] 41)) := (Below.refl _ _).alloc (Nat.le_refl _) _
            have B27 := Lib.hid (below_keep hb2 (below_keep hb B26.out))
            have SR := samepart_any TPt A1 A2 n1 c1 n2 c2 _ ((hs1.out.keep hb).keep hb2) (hs2.keep hb2)
            unfold S9p.Pt.val S9p.Pt.cells at SR
            replace SR := Lib.hid SR
            replace hX := Lib.hid ((hX.out.keep hb).keep hb2)
            clear hb hb2 B26 FPt hTPt hs1 hs2
            go_wp2_with (fail)
            refine SR.out.mono ?_
            rintro e w28 ⟨rfl, hb⟩
            clear x0 x1 x2 x3 x4 x5 x6 x7 vl V
            have B28 := Lib.hid (below_keep hb B27.out)
            replace hX := Lib.hid (hX.out.keep hb)
            clear hb B27 SR
            have DEr := Lib.hid (kerdec_any XA xn xcap xs w28 hX.out (by omega))
            unfold ErDec at DEr
            obtain ⟨TEr, hTEr⟩ : ∃ T, T = S9e.decT xs := ⟨_, rfl⟩
            replace hTEr := Lib.hid hTEr
            rw [← hTEr.out] at DEr
            unfold S9e.Er.val S9e.Er.cells at DEr
            replace DEr := Lib.hid DEr.out
            go_wp2_with (fail)
            refine DEr.out.mono ?_
            rintro e w29 ⟨rfl, hb⟩
            have hb2 : Below w29.heap.size w29 (w29.alloc (.cells #[.bool TEr.l, .string TEr.a, .string TEr.b, .string TEr.c, .int .i64 TEr.tm, .int .i64 TEr.co, .string TEr.s] 46)) := (Below.refl _ _).alloc (Nat.le_refl _) _
            have FEr := erdecode_any XA xn xcap xs _ ((hX.out.keep hb).keep hb2) (by omega)
            unfold ErDec at FEr
            rw [← hTEr.out] at FEr
            unfold S9e.Er.val S9e.Er.cells at FEr
            replace FEr := Lib.hid FEr
            have B29 := Lib.hid (below_keep hb2 (below_keep hb B28.out))
            have V := ErAt.new w29 TEr 46
            unfold S9e.Er.cells at V
            replace V := Lib.hid V
            replace hX := Lib.hid ((hX.out.keep hb).keep hb2)
            clear hb hb2 B28 DEr
            go_wp2_with (fail)
            refine FEr.out.mono ?_
            rintro e w30 ⟨rfl, hb⟩
            obtain ⟨x0, x1, x2, x3, x4, x5, x6⟩ := V.out.keep hb
            have vl := cell_lt x0
            have hb2 : Below w30.heap.size w30 (w30.alloc (.cells #[.bool TEr.l, .string TEr.a, .string TEr.b, .string TEr.c, .int .i64 TEr.tm, .int .i64 TEr.co, .string TEr.s] 46)) := (Below.refl _ _).alloc (Nat.le_refl _) _
            have B30 := Lib.hid (below_keep hb2 (below_keep hb B29.out))
            replace hX := Lib.hid ((hX.out.keep hb).keep hb2)
            clear hb hb2 B29 FEr hTEr
            go_wp2_with (fail)
            go_roundw
            case rel => exact ⟨p + 1, by omega, by go_num, B30.out⟩
            case measure => simp [intOf]; omega
        · go_wp2_with (fail)
          go_ret
          exact ⟨rfl, below_keep Br B3.out⟩

end Go.Proofs.YtkhkmgblgonfoaaGreat
