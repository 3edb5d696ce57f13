/-
  The law LifetimeEnds: the end of any lifetime, and the lifetime of any number of seconds.
-/
import Derived.Test.YtfllenakphcfgaaLifeH
import Derived.Test.YtfllenakphcfgaaLifeR
namespace Go.Proofs.Ytfllenakphcfgaa
open Go.RowKit

set_option maxHeartbeats 800000 in
theorem endsLaw_walk (i l a b : Int) (w : World) (i0 : -9223372036854775808 ≤ i) (i1 : i ≤ 9223372036854775807) (l0 : -9223372036854775808 ≤ l) (l1 : l ≤ 9223372036854775807) (a0 : 0 ≤ a) (a1 : a ≤ 65535) (b0 : 0 ≤ b) (b1 : b ≤ 65535) :
    Calls Try.prog 3 #[.int .i64 i, .int .i64 l, .int .u16 a, .int .u16 b] w fun e w' => e = .returned (.bool true) ∧ Below w.heap.size w w' := by
  go_enter Try.func3, Try.ntmps3
  go_wp2_with (fail)
  refine (awake2_any _).mono ?_
  rintro e w1 ⟨rfl, B⟩
  go_wp2_with (fail)
  refine (numbers_any _ _ _ i0 i1 a0 a1).mono ?_
  rintro e w2 ⟨g1, rfl, hg1, R1, hb⟩
  replace B := below_keep hb B
  clear hb
  go_wp2_with (fail)
  refine (numbers_any _ _ _ l0 l1 b0 b1).mono ?_
  rintro e w3 ⟨g2, rfl, hg2, R2, hb⟩
  replace B := below_keep hb B
  replace R1 := R1.keep hb
  clear hb
  go_wp2_with (fail)
  go_loopw [11] (fun i wr => ∃ p : Nat, p ≤ 8 ∧ i = .int .i64 p ∧ Below w3.heap.size w3 wr) (fun i _ => 8 - (intOf i).toNat)
  case atStart => exact ⟨0, by omega, rfl, Below.refl _ _⟩
  case round =>
    obtain ⟨p, hp, rfl, B2⟩ := hrel
    by_cases hlt : p < 8
    · obtain ⟨z, _, z0, z1, hc⟩ := R1.at0 hlt
      have zz0 : z ≤ 9223372036854775807 := z1
      have i1 : (0 : Int) ≤ (p : Int) := by omega
      have i2 : (p : Int) < (8 : Int) := by omega
      go_wp2_with (fail)
      obtain ⟨wo, rfl⟩ : ∃ wo : World, wo = wr := ⟨_, rfl⟩
      go_loopw [12] (fun k wr => ∃ q : Nat, q ≤ 8 ∧ k = .int .i64 q ∧ Below w3.heap.size w3 wr) (fun k _ => 8 - (intOf k).toNat)
      case atStart => exact ⟨0, by omega, rfl, B2⟩
      case round =>
        obtain ⟨q, hq, rfl, B3⟩ := hrel
        have hc3 := cell_keep B3 hc
        by_cases hlq : q < 8
        · obtain ⟨y, _, y0, y1, hd⟩ := R2.at0 hlq
          have hd3 := cell_keep B3 hd
          have j1 : (0 : Int) ≤ (q : Int) := by omega
          have j2 : (q : Int) < (8 : Int) := by omega
          go_wp2_with (fail)
          go_quiet (first | (go_at_call 11; exact quiet_w (end_any z y _)) | (go_at_call 12; exact quiet_w (r2end_any z y _)))
          go_wp2_with (fail)
          go_roundw
          case rel => exact ⟨q + 1, by omega, by go_num, below_drewN' B3 _⟩
          case measure => simp [intOf]; omega
        · go_wp2_with (fail)
          refine (fromSeconds_any _ _ zz0).mono ?_
          rintro e w4 ⟨rfl, hb⟩
          have hc4 := cell_keep hb hc3
          replace B3 := below_keep hb B3
          go_wp2_with (fail)
          refine (r2fromSeconds_any _ _ zz0).mono ?_
          rintro e w' ⟨rfl, rfl⟩
          go_wp2_with (fail)
          go_roundw
          case rel => exact ⟨p + 1, by omega, by go_num, B3⟩
          case measure => simp [intOf]; omega
    · go_wp2_with (fail)
      go_ret
      exact ⟨rfl, below_keep B2 B⟩

end Go.Proofs.Ytfllenakphcfgaa
