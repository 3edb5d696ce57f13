/-
  The law KeyDraws: which key is drawn, for any arguments and for those that are expected.
-/
import Derived.Test.YtlmifbbmppenoaaKeyH
import Derived.Test.YtlmifbbmppenoaaKeyRD
import Derived.Test.YtlmifbbmppenoaaKeyL
namespace Go.Proofs.Ytlmifbbmppenoaa
open Go.RowKit

/-- In a list that is not too long a key is drawn wherever there is the class. -/
theorem draw_ok {zs : List Int} {c want : Int} (hz : zs.length < 4294967295) : decide (S3.drawS zs c want ≠ 0) = S3.isC c := by
  rcases hc : S3.isC c
  · rw [S3.drawS_noC hc]; rfl
  · have := (S3.drawS_ok (want := want) hc hz).2.2; simp [this]

theorem two_range (c : Int) : ∀ n ∈ [S3.mk c 4294967295, S3.mk c 4294967294], IntKind.u64.min ≤ n ∧ n ≤ IntKind.u64.max := by
  intro n hn
  simp only [List.mem_cons, List.not_mem_nil, or_false] at hn
  rcases hn with rfl | rfl <;> exact S3.mk_range _ _
theorem two_row (w : World) (c : Int) : RowK .u64 (w.alloc (.cells #[.int .u64 (S3.mk c 4294967295), .int .u64 (S3.mk c 4294967294)] 24)) (some ⟨w.heap.size, 0, none⟩) 2 [S3.mk c 4294967295, S3.mk c 4294967294] :=
  RowK.new .u64 w [S3.mk c 4294967295, S3.mk c 4294967294] _ (two_range c)
theorem last_range (c : Int) (ls : List Int) : ∀ n ∈ keysOf ls ++ [S3.mk c 4294967295, S3.mk c 4294967294], IntKind.u64.min ≤ n ∧ n ≤ IntKind.u64.max := by
  intro n hn
  rcases List.mem_append.1 hn with h | h
  · exact keys_range _ n h
  · exact two_range c n h

set_option maxRecDepth 100000 in
set_option maxHeartbeats 1600000 in
theorem drawsLaw_walk (ra : Option Addr) (rn rcap : Nat) (rs : List Int) (c want : Int) (la : Option Addr) (ln lcap : Nat) (ls : List Int) (n : Int) (two : Bool) (w : World)
    (hR : RowK .u64 w ra rn rs) (hrn : rn ≤ maxLen) (_ : -9223372036854775808 ≤ c) (_ : c ≤ 9223372036854775807) (_ : -9223372036854775808 ≤ want) (_ : want ≤ 9223372036854775807) (hL : RowK .u8 w la ln ls) (hln : ln ≤ maxLen) (n0 : 0 ≤ n) (n1 : n ≤ 255) :
    Calls Try.prog 6 #[.slice ra rn rcap, .int .i64 c, .int .i64 want, .slice la ln lcap, .int .u8 n, .bool two] w fun e w' => e = .returned (.bool true) ∧ Below w.heap.size w w' := by
  have hrn' := hrn
  unfold maxLen at hrn
  by_cases h1 : 60 < (rn : Int)
  · go_enter Try.func6, Try.ntmps6
    go_wp2_with (fail)
    refine (awake3_any _).mono ?_
    rintro e w1 ⟨rfl, B⟩
    go_wp2_with (fail)
    go_ret
    exact ⟨rfl, B⟩
  · have hD := Lib.hid (draw_ok (zs := rs) (c := c) (want := want) (by have := hR.len; omega))
    cases two
    · go_enter Try.func6, Try.ntmps6
      go_wp2_with (fail)
      refine (awake3_any _).mono ?_
      rintro e w2 ⟨rfl, B⟩
      replace hR := hR.keep B
      replace hL := hL.keep B
      go_wp2_with (fail)
      refine (kdraw_any _ _ _ rs c want _ hR hrn').mono ?_
      rintro e w3 ⟨rfl, hb⟩
      replace hR := hR.keep hb
      replace hL := hL.keep hb
      replace B := below_keep hb B
      clear hb
      rw [hD.out]
      go_wp2_with (fail)
      refine (r3draw_any _ _ _ rs c want _ hR hrn').mono ?_
      rintro e w' ⟨rfl, rfl⟩
      clear hR
      go_wp2_with (fail)
      have B3 := B
      refine (list3_any _ _ _ ls _ hL hln).mono ?_
      rintro e w4 ⟨v4, rfl, hown4, hb⟩
      replace B := below_keep hb B
      have hwb := hb.size
      clear hb hL
      have hlk : (keysOf ls).length + 2 < 1000000 := by have := keys_len ls 60 (by omega); unfold keysOf; omega
      go_wp2_with (first
        | (go_at_call 10; refine (r3make_any _ _ _).mono ?_; rintro e w' ⟨rfl, rfl⟩)
        | (at_builtin; refine wpList_push_row rfl (.tmp 50) (.tmp 55) 33 rfl Try.underlying33 key_info (base := w3.heap.size) (v := v4) (zs := keysOf ls) (ys := [S3.mk 1 4294967295, S3.mk 1 4294967294]) (A := some ⟨w4.heap.size, 0, none⟩) (m := 2) (c := 2) rfl rfl (hown4.alloc _) (two_row w4 1) hlk (by decide) (Nat.le_trans hwb (by simp)) ?_; intro v5 w5 hown5 hg5 _))
      replace B := Own.grown (B.alloc B.size _) ((hown4.base B3.size).alloc _) hg5
      clear hg5 hown4
      obtain ⟨a5, n5, c5, rfl, hR, r1, r2, r3, _⟩ := hown5.reads (last_range 1 ls)
      have hl5 : n5 ≤ maxLen := by unfold maxLen at r2 ⊢; omega
      have hz5 : (keysOf ls ++ [S3.mk 1 4294967295, S3.mk 1 4294967294]).length < 4294967295 := by simp; omega
      have hD5 := fun want => Lib.hid (draw_ok (c := 1) (want := want) hz5)
      replace r3 := Lib.hid r3
      clear hz5 hown5
      generalize keysOf ls ++ [S3.mk 1 4294967295, S3.mk 1 4294967294] = zs at hR hD5 r3
      go_wp2_with (fail)
      go_loopw [19] (fun i wr => ∃ p : Nat, p ≤ 3 ∧ i = .int .i64 p ∧ Below w.heap.size w wr ∧ RowK .u64 wr a5 n5 zs) (fun i _ => 3 - (intOf i).toNat)
      case atStart => exact ⟨0, by omega, rfl, B, hR⟩
      case round =>
        obtain ⟨p, hp, rfl, B, hR⟩ := hrel
        by_cases hlt : p < 3
        · have hp3 : p = 0 ∨ p = 1 ∨ p = 2 := by omega
          rcases hp3 with rfl | rfl | rfl
          all_goals
            have hR := RowK.keep ((Below.refl _ _).alloc (Nat.le_refl _) (.cells ([n / 2, 4294967295 - n % 3, want].map (Value.int .i64)).toArray 3)) hR
            go_wp2_with (fail)
            refine (kdraw_any _ _ _ zs _ _ _ hR hl5).mono ?_
            rintro e w6 ⟨rfl, hb⟩
            replace B := below_keep hb (B.alloc B.size _)
            replace hR := hR.keep hb
            clear hb
            rw [(hD5 _).out]
            go_wp2_with (fail)
            refine (r3draw_any _ _ _ zs _ _ _ hR hl5).mono ?_
            rintro e w' ⟨rfl, rfl⟩
            go_wp2_with (fail)
            go_roundw
            case rel => first | exact ⟨1, by omega, by go_num, B, hR⟩ | exact ⟨2, by omega, by go_num, B, hR⟩ | exact ⟨3, by omega, by go_num, B, hR⟩
            case measure => simp [intOf]
        · go_wp2_with (fail)
          go_ret
          exact ⟨rfl, B⟩
    · go_enter Try.func6, Try.ntmps6
      go_wp2_with (fail)
      refine (awake3_any _).mono ?_
      rintro e w2 ⟨rfl, B⟩
      replace hR := hR.keep B
      replace hL := hL.keep B
      go_wp2_with (fail)
      refine (kdraw_any _ _ _ rs c want _ hR hrn').mono ?_
      rintro e w3 ⟨rfl, hb⟩
      replace hR := hR.keep hb
      replace hL := hL.keep hb
      replace B := below_keep hb B
      clear hb
      rw [hD.out]
      go_wp2_with (fail)
      refine (r3draw_any _ _ _ rs c want _ hR hrn').mono ?_
      rintro e w' ⟨rfl, rfl⟩
      clear hR
      go_wp2_with (fail)
      have B3 := B
      refine (list3_any _ _ _ ls _ hL hln).mono ?_
      rintro e w4 ⟨v4, rfl, hown4, hb⟩
      replace B := below_keep hb B
      have hwb := hb.size
      clear hb hL
      have hlk : (keysOf ls).length + 2 < 1000000 := by have := keys_len ls 60 (by omega); unfold keysOf; omega
      go_wp2_with (first
        | (go_at_call 10; refine (r3make_any _ _ _).mono ?_; rintro e w' ⟨rfl, rfl⟩)
        | (at_builtin; refine wpList_push_row rfl (.tmp 50) (.tmp 55) 33 rfl Try.underlying33 key_info (base := w3.heap.size) (v := v4) (zs := keysOf ls) (ys := [S3.mk 2 4294967295, S3.mk 2 4294967294]) (A := some ⟨w4.heap.size, 0, none⟩) (m := 2) (c := 2) rfl rfl (hown4.alloc _) (two_row w4 2) hlk (by decide) (Nat.le_trans hwb (by simp)) ?_; intro v5 w5 hown5 hg5 _))
      replace B := Own.grown (B.alloc B.size _) ((hown4.base B3.size).alloc _) hg5
      clear hg5 hown4
      obtain ⟨a5, n5, c5, rfl, hR, r1, r2, r3, _⟩ := hown5.reads (last_range 2 ls)
      have hl5 : n5 ≤ maxLen := by unfold maxLen at r2 ⊢; omega
      have hz5 : (keysOf ls ++ [S3.mk 2 4294967295, S3.mk 2 4294967294]).length < 4294967295 := by simp; omega
      have hD5 := fun want => Lib.hid (draw_ok (c := 2) (want := want) hz5)
      replace r3 := Lib.hid r3
      clear hz5 hown5
      generalize keysOf ls ++ [S3.mk 2 4294967295, S3.mk 2 4294967294] = zs at hR hD5 r3
      go_wp2_with (fail)
      go_loopw [19] (fun i wr => ∃ p : Nat, p ≤ 3 ∧ i = .int .i64 p ∧ Below w.heap.size w wr ∧ RowK .u64 wr a5 n5 zs) (fun i _ => 3 - (intOf i).toNat)
      case atStart => exact ⟨0, by omega, rfl, B, hR⟩
      case round =>
        obtain ⟨p, hp, rfl, B, hR⟩ := hrel
        by_cases hlt : p < 3
        · have hp3 : p = 0 ∨ p = 1 ∨ p = 2 := by omega
          rcases hp3 with rfl | rfl | rfl
          all_goals
            have hR := RowK.keep ((Below.refl _ _).alloc (Nat.le_refl _) (.cells ([n / 2, 4294967295 - n % 3, want].map (Value.int .i64)).toArray 3)) hR
            go_wp2_with (fail)
            refine (kdraw_any _ _ _ zs _ _ _ hR hl5).mono ?_
            rintro e w6 ⟨rfl, hb⟩
            replace B := below_keep hb (B.alloc B.size _)
            replace hR := hR.keep hb
            clear hb
            rw [(hD5 _).out]
            go_wp2_with (fail)
            refine (r3draw_any _ _ _ zs _ _ _ hR hl5).mono ?_
            rintro e w' ⟨rfl, rfl⟩
            go_wp2_with (fail)
            go_roundw
            case rel => first | exact ⟨1, by omega, by go_num, B, hR⟩ | exact ⟨2, by omega, by go_num, B, hR⟩ | exact ⟨3, by omega, by go_num, B, hR⟩
            case measure => simp [intOf]
        · go_wp2_with (fail)
          go_ret
          exact ⟨rfl, B⟩

end Go.Proofs.Ytlmifbbmppenoaa
