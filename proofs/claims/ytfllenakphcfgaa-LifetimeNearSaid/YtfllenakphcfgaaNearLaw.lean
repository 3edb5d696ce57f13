/-
  The law LifetimeNear: when two times are near, and that the order does not matter.
-/
import Derived.Test.YtfllenakphcfgaaLifeH
import Derived.Test.YtfllenakphcfgaaLifeS
namespace Go.Proofs.Ytfllenakphcfgaa
open Go.RowKit

set_option maxHeartbeats 1600000 in
theorem nearLaw_walk (a b s x y z : Int) (w : World) (a0 : -9223372036854775808 ≤ a) (a1 : a ≤ 9223372036854775807) (b0 : -9223372036854775808 ≤ b) (b1 : b ≤ 9223372036854775807) (s0 : -9223372036854775808 ≤ s) (s1 : s ≤ 9223372036854775807)
    (x0 : 0 ≤ x) (x1 : x ≤ 65535) (y0 : 0 ≤ y) (y1 : y ≤ 65535) (z0 : 0 ≤ z) (z1 : z ≤ 65535) :
    Calls Try.prog 7 #[.int .i64 a, .int .i64 b, .int .i64 s, .int .u16 x, .int .u16 y, .int .u16 z] w fun e w' => e = .returned (.bool true) ∧ Below w.heap.size w w' := by
  go_enter Try.func7, Try.ntmps7
  go_wp2_with (fail)
  refine (awake2_any _).mono ?_
  rintro e w1 ⟨rfl, B⟩
  go_wp2_with (fail)
  refine (numbers_any _ _ _ a0 a1 x0 x1).mono ?_
  rintro e w2 ⟨g1, rfl, hg1, R1, hb⟩
  replace B := below_keep hb B
  clear hb
  go_wp2_with (fail)
  refine (numbers_any _ _ _ b0 b1 y0 y1).mono ?_
  rintro e w3 ⟨g2, rfl, hg2, R2, hb⟩
  replace B := below_keep hb B
  replace R1 := R1.keep hb
  clear hb
  go_wp2_with (fail)
  refine (numbers_any _ _ _ s0 s1 z0 z1).mono ?_
  rintro e w4 ⟨g3, rfl, hg3, R3, hb⟩
  replace B := below_keep hb B
  replace R1 := R1.keep hb
  replace R2 := R2.keep hb
  clear hb
  go_wp2_with (fail)
  have hmod : ∀ n : Nat, n % 8 < 8 := fun n => Nat.mod_lt _ (by decide)
  have HMOD := Lib.hid hmod
  clear hmod
  go_loopw [16] (fun i wr => ∃ p : Nat, p ≤ 8 ∧ i = .int .i64 p ∧ Below w4.heap.size w4 wr) (fun i _ => 8 - (intOf i).toNat)
  case atStart => exact ⟨0, by omega, rfl, Below.refl _ _⟩
  case round =>
    obtain ⟨p, hp, rfl, B2⟩ := hrel
    by_cases hlt : p < 8
    · obtain ⟨u, _, u0, u1, hc⟩ := R1.at0 hlt
      have i1 : (0 : Int) ≤ (p : Int) := by omega
      have i2 : (p : Int) < (8 : Int) := by omega
      go_wp2_with (fail)
      obtain ⟨wo, rfl⟩ : ∃ wo : World, wo = wr := ⟨_, rfl⟩
      go_loopw [17] (fun k wr => ∃ q : Nat, q ≤ 8 ∧ k = .int .i64 q ∧ Below w4.heap.size w4 wr) (fun k _ => 8 - (intOf k).toNat)
      case atStart => exact ⟨0, by omega, rfl, B2⟩
      case round =>
        obtain ⟨q, hq, rfl, B3⟩ := hrel
        have hc3 := cell_keep B3 hc
        by_cases hlq : q < 8
        · obtain ⟨v, _, v0, v1, hd⟩ := R2.at0 hlq
          obtain ⟨n, _, n0, n1, hn⟩ := R3.at0 (HMOD.out (p + q))
          have hd3 := cell_keep B3 hd
          have hn3 := cell_keep B3 hn
          have j1 : (0 : Int) ≤ (q : Int) := by omega
          have j2 : (q : Int) < (8 : Int) := by omega
          have j3 : (0 : Int) ≤ ((p + q) % 8 : Nat) := by omega
          have j4 : (((p + q) % 8 : Nat) : Int) < (8 : Int) := by omega
          have hcomm := S2.near_comm v u n
          go_wp2_with (fail)
          go_quiet (first | (go_at_call 17; exact quiet_w (near_any _ _ _ _)) | (go_at_call 18; exact quiet_w (r2near_any _ _ _ _)))
          go_wp2_with (fail)
          go_roundw
          case rel => exact ⟨q + 1, by omega, by go_num, below_drewN' B3 _⟩
          case measure => simp [intOf]; omega
        · go_wp2_with (fail)
          go_roundw
          case rel => exact ⟨p + 1, by omega, by go_num, B3⟩
          case measure => simp [intOf]; omega
    · go_wp2_with (fail)
      go_ret
      exact ⟨rfl, below_keep B2 B⟩

end Go.Proofs.Ytfllenakphcfgaa
