/-
  The law BoxMakes: the bytes of any box, or the error.
-/
import Derived.Test.YtcbneeckbpgmgaaBoxS
import Derived.Test.YtcbneeckbpgmgaaBoxRC
namespace Go.Proofs.Ytcbneeckbpgmgaa
open Go.RowKit

set_option maxRecDepth 100000 in
set_option maxHeartbeats 3200000 in
theorem makesLaw_walk (kind k : Int) (A : Option Addr) (bn bcap : Nat) (bs : List Int) (small nn s : Int) (w : World) (_ : -9223372036854775808 ≤ kind) (_ : kind ≤ 9223372036854775807) (k0 : 0 ≤ k) (k1 : k ≤ 18446744073709551615) (hB : Sl w A bn bcap bs)
    (m0 : 0 ≤ small) (m1 : small ≤ 255) (n0 : 0 ≤ nn) (n1 : nn ≤ 255) (s0 : 0 ≤ s) (s1 : s ≤ 65535) :
    Calls Try.prog 3 #[.int .i64 kind, .int .u64 k, .slice A bn bcap, .int .u8 small, .int .u8 nn, .int .u16 s] w fun e w' => e = .returned (.bool true) ∧ Below w.heap.size w w' := by
  have hmax := hB.max
  unfold maxLen at hmax
  obtain ⟨_, v2, v3⟩ := keyOf_facts (c := 1) (.inl rfl) n0 n1
  by_cases h1 : 900 < (bn : Int)
  · go_enter Try.func3, Try.ntmps3
    go_wp2_with (fail)
    refine (awake4_any _).mono ?_
    rintro e w1 ⟨rfl, B⟩
    go_wp2_with (fail)
    go_ret
    exact ⟨rfl, B⟩
  · have hn9 : bn ≤ 900 := by omega
    go_enter Try.func3, Try.ntmps3
    go_wp2_with (fail)
    refine (awake4_any _).mono ?_
    rintro e w1 ⟨rfl, B⟩
    go_wp2_with (fail)
    refine (body_any _ _ _ _ _ _ (hB.keep B) hn9 s0 s1).mono ?_
    rintro e w2 ⟨A2, n2, c2, ys, rfl, hs, hn2, hb2, _⟩
    replace B := below_keep hb2 B
    clear hb2
    go_wp2_with (fail)
    go_loopw [14] (fun i wr => ∃ p : Nat, p ≤ 4 ∧ i = .int .i64 p ∧ Below w.heap.size w wr ∧ Sl wr A2 n2 c2 ys) (fun i _ => 4 - (intOf i).toNat)
    case atStart => exact ⟨0, by omega, rfl, B, hs⟩
    case round =>
      obtain ⟨p, hp, rfl, B, hs⟩ := hrel
      by_cases hlt : p < 4
      · have hp4 : p = 0 ∨ p = 1 ∨ p = 2 ∨ p = 3 := by omega
        rcases hp4 with rfl | rfl | rfl | rfl
        · go_wp2_with (first | (go_at_call 10; refine (long_any _ _ n0 n1).mono ?_; rintro e w' ⟨rfl, rfl⟩))
          refine (bmake_any _ _ _ _ _ _ _ (hs.keep (((Below.refl _ _).alloc (Nat.le_refl _) _).alloc (by simp) _)) k0 k1).mono ?_
          rintro e w5 ⟨A5, n5, c5, rfl, hs5, hb5⟩
          have B5 := below_keep hb5 ((B.alloc B.size _).alloc (by have := B.size; simp; omega) _)
          have hs2 := (hs.keep (((Below.refl _ _).alloc (Nat.le_refl _) _).alloc (by simp) _)).keep hb5
          replace hs5 := Lib.hid hs5
          replace B5 := Lib.hid B5
          replace hs2 := Lib.hid hs2
          clear hb5
          go_wp2_with (fail)
          refine (r4make_any _ _ _ _ _ _ _ hs2.out k0 k1).mono ?_
          rintro e w6 ⟨A6, n6, c6, rfl, hs6, hb6⟩
          have f1 := conv_sl (hs5.out.keep hb6)
          have f2 := conv_sl hs6
          have B6 := Lib.hid (below_keep hb6 B5.out)
          have hs7 := Lib.hid (hs2.out.keep hb6)
          clear hs6 hb6
          go_wp2_with (fail)
          go_roundw
          case rel => exact ⟨1, by omega, by go_num, B6.out, hs7.out⟩
          case measure => simp [intOf]
        · go_wp2_with (first | (go_at_call 10; refine (long_any _ _ n0 n1).mono ?_; rintro e w' ⟨rfl, rfl⟩))
          refine (bmake_any _ _ _ _ _ _ _ (hs.keep (((Below.refl _ _).alloc (Nat.le_refl _) _).alloc (by simp) _)) k0 k1).mono ?_
          rintro e w5 ⟨A5, n5, c5, rfl, hs5, hb5⟩
          have B5 := below_keep hb5 ((B.alloc B.size _).alloc (by have := B.size; simp; omega) _)
          have hs2 := (hs.keep (((Below.refl _ _).alloc (Nat.le_refl _) _).alloc (by simp) _)).keep hb5
          replace hs5 := Lib.hid hs5
          replace B5 := Lib.hid B5
          replace hs2 := Lib.hid hs2
          clear hb5
          go_wp2_with (fail)
          refine (r4make_any _ _ _ _ _ _ _ hs2.out k0 k1).mono ?_
          rintro e w6 ⟨A6, n6, c6, rfl, hs6, hb6⟩
          have f1 := conv_sl (hs5.out.keep hb6)
          have f2 := conv_sl hs6
          have B6 := Lib.hid (below_keep hb6 B5.out)
          have hs7 := Lib.hid (hs2.out.keep hb6)
          clear hs6 hb6
          go_wp2_with (fail)
          go_roundw
          case rel => exact ⟨2, by omega, by go_num, B6.out, hs7.out⟩
          case measure => simp [intOf]
        · go_wp2_with (first | (go_at_call 10; refine (long_any _ _ n0 n1).mono ?_; rintro e w' ⟨rfl, rfl⟩))
          refine (bmake_any _ _ _ _ _ _ _ (hs.keep (((Below.refl _ _).alloc (Nat.le_refl _) _).alloc (by simp) _)) v2 v3).mono ?_
          rintro e w5 ⟨A5, n5, c5, rfl, hs5, hb5⟩
          have B5 := below_keep hb5 ((B.alloc B.size _).alloc (by have := B.size; simp; omega) _)
          have hs2 := (hs.keep (((Below.refl _ _).alloc (Nat.le_refl _) _).alloc (by simp) _)).keep hb5
          replace hs5 := Lib.hid hs5
          replace B5 := Lib.hid B5
          replace hs2 := Lib.hid hs2
          clear hb5
          go_wp2_with (fail)
          refine (r4make_any _ _ _ _ _ _ _ hs2.out v2 v3).mono ?_
          rintro e w6 ⟨A6, n6, c6, rfl, hs6, hb6⟩
          have f1 := conv_sl (hs5.out.keep hb6)
          have f2 := conv_sl hs6
          have B6 := Lib.hid (below_keep hb6 B5.out)
          have hs7 := Lib.hid (hs2.out.keep hb6)
          clear hs6 hb6
          go_wp2_with (fail)
          go_roundw
          case rel => exact ⟨3, by omega, by go_num, B6.out, hs7.out⟩
          case measure => simp [intOf]
        · go_wp2_with (first | (go_at_call 10; refine (long_any _ _ n0 n1).mono ?_; rintro e w' ⟨rfl, rfl⟩))
          refine (bmake_any _ _ _ _ _ _ _ (hs.keep (((Below.refl _ _).alloc (Nat.le_refl _) _).alloc (by simp) _)) v2 v3).mono ?_
          rintro e w5 ⟨A5, n5, c5, rfl, hs5, hb5⟩
          have B5 := below_keep hb5 ((B.alloc B.size _).alloc (by have := B.size; simp; omega) _)
          have hs2 := (hs.keep (((Below.refl _ _).alloc (Nat.le_refl _) _).alloc (by simp) _)).keep hb5
          replace hs5 := Lib.hid hs5
          replace B5 := Lib.hid B5
          replace hs2 := Lib.hid hs2
          clear hb5
          go_wp2_with (fail)
          refine (r4make_any _ _ _ _ _ _ _ hs2.out v2 v3).mono ?_
          rintro e w6 ⟨A6, n6, c6, rfl, hs6, hb6⟩
          have f1 := conv_sl (hs5.out.keep hb6)
          have f2 := conv_sl hs6
          have B6 := Lib.hid (below_keep hb6 B5.out)
          have hs7 := Lib.hid (hs2.out.keep hb6)
          clear hs6 hb6
          go_wp2_with (fail)
          go_roundw
          case rel => exact ⟨4, by omega, by go_num, B6.out, hs7.out⟩
          case measure => simp [intOf]
      · go_wp2_with (fail)
        go_ret
        exact ⟨ret_bool (by simp), B⟩

end Go.Proofs.Ytcbneeckbpgmgaa
