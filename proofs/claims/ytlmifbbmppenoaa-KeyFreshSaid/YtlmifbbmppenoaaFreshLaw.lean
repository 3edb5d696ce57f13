/-
  The law KeyFresh: keys that are drawn one after another are all different, valid, and of the class that was asked for.
-/
import Derived.Test.YtlmifbbmppenoaaKeyH
import Derived.Test.YtlmifbbmppenoaaKeyL
namespace Go.Proofs.Ytlmifbbmppenoaa
open Go.RowKit

/-- All are 64-bit words. -/
def Words (zs : List Int) : Prop := ∀ n ∈ zs, IntKind.u64.min ≤ n ∧ n ≤ IntKind.u64.max

/-- What is drawn from a list that is not too long. -/
theorem drawn_key {zs : List Int} {c want : Int} (hc : S3.isC c = true) (hz : zs.length < 4294967295) :
    ∃ X, 0 ≤ X ∧ X ≤ 18446744073709551615 ∧ S3.mk c (S3.drawS zs c want) = X ∧ decide (S3.drawS zs c want ≠ 0) = true ∧ S3.ck X = c ∧ S3.vk X = true ∧ X ∉ zs := by
  obtain ⟨h1, h2, h3⟩ := S3.drawS_ok (want := want) hc hz
  have hr := S3.mk_range c (S3.drawS zs c want)
  refine ⟨_, hr.1, hr.2, rfl, by simp [h3], S3.ck_mk hc h1, by rw [S3.vk_mk, hc, h1]; rfl, ?_⟩
  rw [← S3.has_no]; exact h2

set_option maxHeartbeats 1600000 in
theorem freshLaw_walk (la : Option Addr) (ln lcap : Nat) (ls : List Int) (wa : Option Addr) (wn wcap : Nat) (ws : List Int) (two : Bool) (w : World)
    (hL : RowK .u8 w la ln ls) (hln : ln ≤ maxLen) (hW : RowK .u8 w wa wn ws) (hwn : wn ≤ maxLen) :
    Calls Try.prog 7 #[.slice la ln lcap, .slice wa wn wcap, .bool two] w fun e w' => e = .returned (.bool true) ∧ Below w.heap.size w w' := by
  unfold maxLen at hwn
  have hc1 : S3.isC 1 = true := rfl
  have hc2 : S3.isC 2 = true := rfl
  replace hc1 := Lib.hid hc1
  have hW0 := Lib.hid hW
  clear hW
  replace hc2 := Lib.hid hc2
  cases two
  · go_enter Try.func7, Try.ntmps7
    go_wp2_with (fail)
    refine (awake3_any _).mono ?_
    rintro e w2 ⟨rfl, B⟩
    replace hL := hL.keep B
    go_wp2_with (fail)
    refine (list3_any _ _ _ ls _ hL hln).mono ?_
    rintro e w3 ⟨v3, rfl, hown, hb⟩
    have hB2 := B.size
    replace B := below_keep hb B
    clear hb hL
    replace hown := hown.base hB2
    have hk0 : Words (keysOf ls) := keys_range _
    have hl0 : (keysOf ls).length ≤ 60 := keys_len ls 60 (by omega)
    generalize keysOf ls = ks at hown hk0 hl0
    go_wp2_with (fail)
    go_loopw [8, 9] (fun v i wr => ∃ (j : Nat) (zs : List Int), j ≤ wn ∧ j ≤ 60 ∧ i = .int .i64 j ∧ Own .u64 24 wr w.heap.size v zs ∧ zs.length ≤ 60 + j ∧ Words zs ∧ Below w.heap.size w wr) (fun _ i _ => 60 - (intOf i).toNat)
    case atStart => exact ⟨0, ks, by omega, by omega, rfl, hown, by omega, hk0, B⟩
    case round =>
      obtain ⟨j, zs, hj, hj6, rfl, hown, hzl, hz, B⟩ := hrel
      have hW := hW0.out.keep B
      by_cases hlt : j < wn
      · by_cases hlt6 : j < 60
        · obtain ⟨b, off, z, rfl, hzz, z0, z1, hcell⟩ := hW.at hlt
          have z0 : 0 ≤ z := z0
          have z1 : z ≤ 255 := z1
          obtain ⟨a2, n2, c2, rfl, hR, r1, r2, r3, _⟩ := hown.reads hz
          replace r3 := Lib.hid r3
          have hl2 : n2 ≤ maxLen := Nat.le_trans r1 r2
          have hn2 : n2 ≤ 9223372036854775807 := by have := hl2; unfold maxLen at this; omega
          obtain ⟨X, x0, x1, e1, e2, e3, e4, e5⟩ := drawn_key (zs := zs) (want := z / 4) hc1.out (by omega)
          replace e1 := Lib.hid e1
          replace e2 := Lib.hid e2
          replace e3 := Lib.hid e3
          replace e4 := Lib.hid e4
          replace e5 := Lib.hid e5
          clear hzz
          have i1 : (0 : Int) ≤ (j : Int) := by omega
          have i2 : (j : Int) < (wn : Int) := by omega
          go_wp2_with (fail)
          refine (kdraw_any _ _ _ zs _ _ _ hR hl2).mono ?_
          rintro e w6 ⟨rfl, hb⟩
          replace B := below_keep hb B
          replace hR := hR.keep hb
          replace hown := hown.below hb
          clear hb hcell hW
          rw [e1.out, e2.out]
          go_wp2_with (fail)
          refine (kclass_any X _ x0 x1).mono ?_
          rintro e w' ⟨rfl, rfl⟩
          rw [e3.out]
          go_wp2_with (fail)
          refine (kvalid_any X _ x0 x1).mono ?_
          rintro e w' ⟨rfl, rfl⟩
          rw [e4.out]
          go_wp2_with (fail)
          obtain ⟨wo, rfl⟩ : ∃ wo : World, wo = wr := ⟨_, rfl⟩
          go_loop [12] (fun i => ∃ p : Nat, p ≤ n2 ∧ i = .int .i64 p) (fun i => n2 - (intOf i).toNat)
          case atStart => exact ⟨0, by omega, rfl⟩
          case round =>
            obtain ⟨p, hp, rfl⟩ := hrel
            by_cases hlp : p < n2
            · obtain ⟨b2, off2, y, rfl, hy, y0, y1, hd⟩ := hR.at hlp
              have hne : (y == X) = false := by
                have : y ≠ X := fun e => e5.out (e ▸ List.mem_of_getElem? hy)
                simpa using this
              clear hy
              have p1 : (0 : Int) ≤ (p : Int) := by omega
              have p2 : (p : Int) < (n2 : Int) := by omega
              go_wp2_with (fail)
              go_round
              case rel => exact ⟨p + 1, by omega, by go_num⟩
              case measure => simp [intOf]; omega
            · have hXr : ∀ n ∈ [X], IntKind.u64.min ≤ n ∧ n ≤ IntKind.u64.max := by
                intro n hn; rw [List.mem_singleton] at hn; subst hn; exact ⟨x0, x1⟩
              replace hXr := Lib.hid hXr
              go_wp2_with (at_builtin; refine wpList_push_row rfl (.tmp 65) (.tmp 67) 33 rfl Try.underlying33 key_info (base := w.heap.size) (v := .slice a2 n2 c2) (zs := zs) (ys := [X]) (A := some ⟨w6.heap.size, 0, none⟩) (m := 1) (c := 1) rfl rfl (hown.alloc _) (RowK.new .u64 w6 [X] _ hXr.out) (by omega) (by decide) (Nat.le_trans B.size (by simp)) ?_; intro v7 w7 hown7 hg7 _)
              have B7 := Own.grown (B.alloc B.size _) (hown.alloc _) hg7
              go_roundw
              case rel =>
                refine ⟨j + 1, zs ++ [X], by omega, by omega, by go_num, hown7, by simp; omega, ?_, B7⟩
                intro n hn
                rcases List.mem_append.1 hn with hn | hn
                · exact hz n hn
                · exact hXr.out n hn
              case measure => simp [intOf]; omega
        · go_wp2_with (fail)
          go_ret
          exact ⟨rfl, B⟩
      · go_wp2_with (fail)
        go_ret
        exact ⟨rfl, B⟩
  · go_enter Try.func7, Try.ntmps7
    go_wp2_with (fail)
    refine (awake3_any _).mono ?_
    rintro e w2 ⟨rfl, B⟩
    replace hL := hL.keep B
    go_wp2_with (fail)
    refine (list3_any _ _ _ ls _ hL hln).mono ?_
    rintro e w3 ⟨v3, rfl, hown, hb⟩
    have hB2 := B.size
    replace B := below_keep hb B
    clear hb hL
    replace hown := hown.base hB2
    have hk0 : Words (keysOf ls) := keys_range _
    have hl0 : (keysOf ls).length ≤ 60 := keys_len ls 60 (by omega)
    generalize keysOf ls = ks at hown hk0 hl0
    go_wp2_with (fail)
    go_loopw [8, 9] (fun v i wr => ∃ (j : Nat) (zs : List Int), j ≤ wn ∧ j ≤ 60 ∧ i = .int .i64 j ∧ Own .u64 24 wr w.heap.size v zs ∧ zs.length ≤ 60 + j ∧ Words zs ∧ Below w.heap.size w wr) (fun _ i _ => 60 - (intOf i).toNat)
    case atStart => exact ⟨0, ks, by omega, by omega, rfl, hown, by omega, hk0, B⟩
    case round =>
      obtain ⟨j, zs, hj, hj6, rfl, hown, hzl, hz, B⟩ := hrel
      have hW := hW0.out.keep B
      by_cases hlt : j < wn
      · by_cases hlt6 : j < 60
        · obtain ⟨b, off, z, rfl, hzz, z0, z1, hcell⟩ := hW.at hlt
          have z0 : 0 ≤ z := z0
          have z1 : z ≤ 255 := z1
          obtain ⟨a2, n2, c2, rfl, hR, r1, r2, r3, _⟩ := hown.reads hz
          replace r3 := Lib.hid r3
          have hl2 : n2 ≤ maxLen := Nat.le_trans r1 r2
          have hn2 : n2 ≤ 9223372036854775807 := by have := hl2; unfold maxLen at this; omega
          obtain ⟨X, x0, x1, e1, e2, e3, e4, e5⟩ := drawn_key (zs := zs) (want := z / 4) hc2.out (by omega)
          replace e1 := Lib.hid e1
          replace e2 := Lib.hid e2
          replace e3 := Lib.hid e3
          replace e4 := Lib.hid e4
          replace e5 := Lib.hid e5
          clear hzz
          have i1 : (0 : Int) ≤ (j : Int) := by omega
          have i2 : (j : Int) < (wn : Int) := by omega
          go_wp2_with (fail)
          refine (kdraw_any _ _ _ zs _ _ _ hR hl2).mono ?_
          rintro e w6 ⟨rfl, hb⟩
          replace B := below_keep hb B
          replace hR := hR.keep hb
          replace hown := hown.below hb
          clear hb hcell hW
          rw [e1.out, e2.out]
          go_wp2_with (fail)
          refine (kclass_any X _ x0 x1).mono ?_
          rintro e w' ⟨rfl, rfl⟩
          rw [e3.out]
          go_wp2_with (fail)
          refine (kvalid_any X _ x0 x1).mono ?_
          rintro e w' ⟨rfl, rfl⟩
          rw [e4.out]
          go_wp2_with (fail)
          obtain ⟨wo, rfl⟩ : ∃ wo : World, wo = wr := ⟨_, rfl⟩
          go_loop [12] (fun i => ∃ p : Nat, p ≤ n2 ∧ i = .int .i64 p) (fun i => n2 - (intOf i).toNat)
          case atStart => exact ⟨0, by omega, rfl⟩
          case round =>
            obtain ⟨p, hp, rfl⟩ := hrel
            by_cases hlp : p < n2
            · obtain ⟨b2, off2, y, rfl, hy, y0, y1, hd⟩ := hR.at hlp
              have hne : (y == X) = false := by
                have : y ≠ X := fun e => e5.out (e ▸ List.mem_of_getElem? hy)
                simpa using this
              clear hy
              have p1 : (0 : Int) ≤ (p : Int) := by omega
              have p2 : (p : Int) < (n2 : Int) := by omega
              go_wp2_with (fail)
              go_round
              case rel => exact ⟨p + 1, by omega, by go_num⟩
              case measure => simp [intOf]; omega
            · have hXr : ∀ n ∈ [X], IntKind.u64.min ≤ n ∧ n ≤ IntKind.u64.max := by
                intro n hn; rw [List.mem_singleton] at hn; subst hn; exact ⟨x0, x1⟩
              replace hXr := Lib.hid hXr
              go_wp2_with (at_builtin; refine wpList_push_row rfl (.tmp 65) (.tmp 67) 33 rfl Try.underlying33 key_info (base := w.heap.size) (v := .slice a2 n2 c2) (zs := zs) (ys := [X]) (A := some ⟨w6.heap.size, 0, none⟩) (m := 1) (c := 1) rfl rfl (hown.alloc _) (RowK.new .u64 w6 [X] _ hXr.out) (by omega) (by decide) (Nat.le_trans B.size (by simp)) ?_; intro v7 w7 hown7 hg7 _)
              have B7 := Own.grown (B.alloc B.size _) (hown.alloc _) hg7
              go_roundw
              case rel =>
                refine ⟨j + 1, zs ++ [X], by omega, by omega, by go_num, hown7, by simp; omega, ?_, B7⟩
                intro n hn
                rcases List.mem_append.1 hn with hn | hn
                · exact hz n hn
                · exact hXr.out n hn
              case measure => simp [intOf]; omega
        · go_wp2_with (fail)
          go_ret
          exact ⟨rfl, B⟩
      · go_wp2_with (fail)
        go_ret
        exact ⟨rfl, B⟩

end Go.Proofs.Ytlmifbbmppenoaa
