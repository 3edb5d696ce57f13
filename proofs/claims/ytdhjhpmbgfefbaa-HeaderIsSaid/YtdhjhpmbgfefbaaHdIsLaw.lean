/-
  The law HeaderIs: whether a message has one of some types, or the error.
-/
import Derived.Test.YtdhjhpmbgfefbaaHdH
import Derived.Deep.DeepCutAuto
namespace Go.Proofs.Ytdhjhpmbgfefbaa
open Go.RowKit

theorem int_info8 : (Try.prog.info? 3).map (fun i => (i.zero, i.size, i.bytes)) = some (some (.int .i64 0), 1, 8) := by kernel_rfl
theorem all_snoc8 {P : Int → Prop} {l : List Int} {u : Int} (h : ∀ z ∈ l, P z) (g : P u) : ∀ z ∈ l ++ [u], P z := fun z hz => by
  rcases List.mem_append.1 hz with hz | hz
  · exact h z hz
  · rw [List.mem_singleton] at hz; rw [hz]; exact g
/-- Some slice of bytes. -/
def SomeSl8 (w : World) (v : Value) : Prop := ∃ A n cap zs, v = .slice A n cap ∧ Sl w A n cap zs ∧ n ≤ 1000

set_option maxRecDepth 100000 in
set_option maxHeartbeats 6400000 in
theorem isLaw8_walk (A : Option Addr) (n cap : Nat) (bs : List Int) (y : Int) (K : Option Addr) (kn kcap : Nat) (ks : List Int) (M : Option Addr) (mn mcap : Nat) (ms : List Int) (w : World) (h : Sl w A n cap bs) (y0 : 0 ≤ y) (y1 : y ≤ 255) (hK : RowK .i64 w K kn ks) (hkm : kn ≤ maxLen) (hM : Sl w M mn mcap ms) :
    Calls Try.prog 5 #[.slice A n cap, .int .u8 y, .slice K kn kcap, .slice M mn mcap] w fun e w' => e = .returned (.bool true) ∧ Below w.heap.size w w' := by
  have hmax := h.max
  have hmm := hM.max
  unfold maxLen at hmax hmm hkm
  have hkl := Lib.hid hK.len
  have hkr := Lib.hid hK.2.1
  go_enter Try.func5, Try.ntmps5
  go_wp2_with (fail)
  refine (awake8_any _).mono ?_
  rintro e w1 ⟨rfl, hb1⟩
  have ways : 100 < (n : Int) ∨ (n : Int) ≤ 100 ∧ 12 < (kn : Int) ∨ (n : Int) ≤ 100 ∧ (kn : Int) ≤ 12 ∧ 12 < (mn : Int) ∨ (n : Int) ≤ 100 ∧ (kn : Int) ≤ 12 ∧ (mn : Int) ≤ 12 := by omega
  rcases ways with k1 | ⟨k1, k2⟩ | ⟨k1, k2, k3⟩ | ⟨k1, k2, k3⟩
  · go_wp2_with (fail)
    go_ret
    exact ⟨rfl, hb1⟩
  · go_wp2_with (fail)
    go_ret
    exact ⟨rfl, hb1⟩
  · go_wp2_with (fail)
    go_ret
    exact ⟨rfl, hb1⟩
  · have h1 := Lib.hid (h.keep hb1)
    have hK1 := Lib.hid (hK.keep hb1)
    have hM1 := Lib.hid (hM.keep hb1)
    have B1 := Lib.hid hb1
    have Ba := Lib.hid (show Below w1.heap.size w1 (w1.alloc (.cells #[] 3)) from (Below.refl _ _).alloc (Nat.le_refl _) _)
    have hO := Lib.hid (Own.new .i64 3 (w := w1) (Nat.le_refl _) [] (by decide))
    clear hb1
    go_wp2_with (at_builtin; refine wpList_push_row rfl (.tmp 34) (.tmp 35) 24 rfl Try.underlying24 int_info8 (base := w1.heap.size) (v := .slice (some ⟨w1.heap.size, 0, none⟩) 0 0) (zs := []) (ys := ks) (A := K) (m := kn) (c := kcap) rfl rfl hO.out (hK1.out.keep Ba.out) (by simp; omega) (by decide) Ba.out.size ?_; intro v4 w4 O4 hg4 _; have B14 := Own.grown Ba.out hO.out hg4; clear hg4; rw [List.nil_append] at O4)
    have hl4 := hkl.out
    go_loopw [9, 10] (fun l i wr => ∃ k : Nat, ∃ zs : List Int, k ≤ mn ∧ i = .int .i64 k ∧ zs.length = kn + k ∧ (∀ z ∈ zs, IntKind.i64.min ≤ z ∧ z ≤ IntKind.i64.max) ∧ Own .i64 3 wr w1.heap.size l zs ∧ Below w1.heap.size w1 wr) (fun _ i _ => mn - (intOf i).toNat)
    case atStart => exact ⟨0, ks, by omega, rfl, by omega, hkr.out, O4, B14⟩
    case round =>
      clear O4 B14
      obtain ⟨k, zs, hk, rfl, hzl, hzr, hown, B2⟩ := hrel
      by_cases hlt : k < mn
      · obtain ⟨gb, off, z, hMa, hz, z0, z1, hc⟩ := hM1.out.row.at hlt
        cases hMa
        have hc2 := cell_keep B2 hc
        have hcl := cell_lt hc2
        have zz0 : 0 ≤ z := z0
        have zz1 : z ≤ 255 := z1
        have hln := Lib.hid hzl
        have hrn := Lib.hid hzr
        clear hz z0 z1 hzl hzr hc
        have i1 : (0 : Int) ≤ (k : Int) := by omega
        have i2 : (k : Int) < (mn : Int) := by omega
        go_wp2_with (at_builtin; refine wpList_push rfl _ _ 24 rfl .i64 3 8 Try.underlying24 int_info8 w1.heap.size _ _ (z % 12) rfl rfl rfl hown (by rw [hln.out]; omega) (by decide) B2.size ?_; intro v' w5 hown' hgrow _; replace B2 := Own.pushed B2 hown hgrow; clear hown hgrow)
        go_roundw
        case rel => exact ⟨k + 1, zs ++ [z % 12], by omega, by go_num, by rw [List.length_append, hln.out]; simp; omega, all_snoc8 hrn.out (by show -9223372036854775808 ≤ z % 12 ∧ z % 12 ≤ 9223372036854775807; omega), hown', B2⟩
        case measure => simp [intOf]; omega
      · have i2 : ¬ (k : Int) < (mn : Int) := by omega
        obtain ⟨la, ln, lcap, rfl, hR, hlm⟩ := hown.row hzr
        have hll : ln ≤ 1000 := by have := hR.len; omega
        replace hR := Lib.hid hR
        have B3 := Lib.hid (below_keep B2 B1.out)
        have h3 := Lib.hid (h1.out.keep B2)
        clear hown hzr hzl B2 hlm
        obtain ⟨w5, hw5⟩ : ∃ w5, w5 = wr := ⟨_, rfl⟩
        subst hw5
        go_wp2_with (fail)
        go_loopw [11] (fun i wr => ∃ p : Nat, p ≤ 2 ∧ i = .int .i64 p ∧ Below w5.heap.size w5 wr) (fun i _ => 2 - (intOf i).toNat)
        case atStart => exact ⟨0, by omega, rfl, Below.refl _ _⟩
        case round =>
          obtain ⟨p, hp, rfl, Bq⟩ := hrel
          by_cases hlp : p < 2
          · have h5 := Lib.hid (h3.out.keep Bq)
            have hR5 := Lib.hid (hR.out.keep Bq)
            go_upto_region 13 with (fail)
            go_cut [12] (fun x wx => SomeSl8 wx x ∧ Below wr.heap.size wr wx)
            case first =>
              have sb := Sl.built wr [4, y % 24] (by intro z hz; simp at hz; omega) (by simp)
              rcases (show p = 0 ∨ p = 1 by omega) with rfl | rfl
              all_goals
                go_wp2_with (fail)
                go_meet
                have ba : Below wr.heap.size wr (wr.alloc (.cells #[.int .u8 4, .int .u8 (y % 24)] 5)) := (Below.refl _ _).alloc (Nat.le_refl _) _
                have bb : Below (wr.alloc (.cells #[.int .u8 4, .int .u8 (y % 24)] 5)).heap.size (wr.alloc (.cells #[.int .u8 4, .int .u8 (y % 24)] 5)) ((wr.alloc (.cells #[.int .u8 4, .int .u8 (y % 24)] 5)).alloc (.cells #[.slice A n cap, .slice (some ⟨wr.heap.size, 0, none⟩) 2 2] 22)) := (Below.refl _ _).alloc (Nat.le_refl _) _
                exact ⟨by first | exact ⟨_, _, _, _, rfl, (h5.out.keep ba).keep bb, by omega⟩ | exact ⟨_, _, _, _, rfl, sb.keep bb, by omega⟩, below_keep bb ba⟩
            case rest =>
              obtain ⟨⟨XA, xn, xcap, xs, rfl, hX, hxn⟩, Bc⟩ := hcut
              obtain ⟨w20, hw20⟩ : ∃ w20, w20 = wc := ⟨_, rfl⟩
              subst hw20
              have hR6 := Lib.hid (hR5.out.keep Bc)
              have B20 := Lib.hid (below_keep Bc Bq)
              replace hX := Lib.hid hX
              clear Bc Bq h5 hR5
              go_wp2_with (fail)
              refine (his_any XA xn xcap xs la ln lcap zs _ hX.out (by omega) hR6.out hll).mono ?_
              rintro e w21 ⟨rfl, hb21⟩
              have hX2 := Lib.hid (hX.out.keep hb21)
              have hR7 := Lib.hid (hR6.out.keep hb21)
              have B21 := Lib.hid (below_keep hb21 B20.out)
              clear hb21 B20 hX hR6
              go_wp2_with (fail)
              refine (r8is_any XA xn xcap xs la ln lcap zs _ hX2.out (by omega) hR7.out hll).mono ?_
              rintro e w22 ⟨rfl, hb22⟩
              have B22 := Lib.hid (below_keep hb22 B21.out)
              clear hb22 B21 hX2 hR7
              go_wp2_with (fail)
              go_roundw
              case rel => exact ⟨p + 1, by omega, by go_num, B22.out⟩
              case measure => simp [intOf]; omega
          · have B9 := Lib.hid (below_keep Bq B3.out)
            have PC := Lib.hid (hput_any 7 false wr)
            go_wp2_with (fail)
            refine PC.out.mono ?_
            rintro e w30 ⟨A8, n8, c8, rfl, hs8, hb8, _⟩
            have e8 : S8.put 7 false = [4, 14] := by decide
            rw [e8] at hs8
            have hn8 : n8 ≤ 1000 := by have := hs8.len; simp at this; omega
            have IC := his_any A8 n8 c8 _ none 0 0 [] w30 hs8 (by omega) (RowK.empty _ _ _) (by omega)
            have ie : S8.isE [4, 14] [] = 40 := by decide
            unfold IsOut at IC
            rw [ie] at IC
            replace IC := Lib.hid IC
            have B30 := Lib.hid (below_keep hb8 B9.out)
            clear hb8 hs8 e8 ie
            go_wp2_with (fail)
            refine IC.out.mono ?_
            rintro e w31 ⟨rfl, hb31⟩
            go_wp2_with (fail)
            go_ret
            exact ⟨rfl, below_keep hb31 B30.out⟩

end Go.Proofs.Ytdhjhpmbgfefbaa
