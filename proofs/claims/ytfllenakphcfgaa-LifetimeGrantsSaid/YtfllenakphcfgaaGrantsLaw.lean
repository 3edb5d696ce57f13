/-
  The law LifetimeGrants: the lifetime that is granted, for any arguments and for those that are expected.
-/
import Derived.Test.YtfllenakphcfgaaLifeH
import Derived.Test.YtfllenakphcfgaaLifeR
import Derived.Test.YtfllenakphcfgaaRow
namespace Go.Proofs.Ytfllenakphcfgaa
open Go.RowKit

set_option maxHeartbeats 800000 in
theorem grantsLaw_walk (now want : Int) (ea : Option Addr) (en ecap : Nat) (es : List Int) (x y : Int) (ca : Option Addr) (cn ccap : Nat) (cs : List Int) (w : World)
    (_ : -9223372036854775808 ≤ now) (_ : now ≤ 9223372036854775807) (w0 : -9223372036854775808 ≤ want) (w1 : want ≤ 9223372036854775807) (hE : RowK .i64 w ea en es) (hen : en ≤ maxLen)
    (x0 : 0 ≤ x) (x1 : x ≤ 65535) (y0 : 0 ≤ y) (y1 : y ≤ 65535) (hC : RowK .u16 w ca cn cs) (hcn : cn ≤ maxLen) :
    Calls Try.prog 5 #[.int .i64 now, .int .i64 want, .slice ea en ecap, .int .u16 x, .int .u16 y, .slice ca cn ccap] w fun e w' => e = .returned (.bool true) ∧ Below w.heap.size w w' := by
  have hen' := hen
  unfold maxLen at hen hcn
  by_cases h1 : 20 < (en : Int)
  · go_enter Try.func5, Try.ntmps5
    go_wp2_with (fail)
    refine (awake2_any _).mono ?_
    rintro e w1 ⟨rfl, B⟩
    go_wp2_with (fail)
    go_ret
    exact ⟨rfl, B⟩
  · by_cases h2 : 20 < (cn : Int)
    · go_enter Try.func5, Try.ntmps5
      go_wp2_with (fail)
      refine (awake2_any _).mono ?_
      rintro e w1 ⟨rfl, B⟩
      go_wp2_with (fail)
      go_ret
      exact ⟨rfl, B⟩
    · have hl := Lib.hid hC.len
      go_enter Try.func5, Try.ntmps5
      go_wp2_with (fail)
      refine (awake2_any _).mono ?_
      rintro e w2 ⟨rfl, B⟩
      replace hE := hE.keep B
      go_wp2_with (fail)
      refine (grant_any _ _ _ _ _ es _ hE hen' w1 w0).mono ?_
      rintro e w3 ⟨rfl, hb⟩
      replace B := below_keep hb B
      replace hE := hE.keep hb
      clear hb
      go_wp2_with (fail)
      refine (r2grant_any _ _ _ _ _ es _ hE hen' w1 w0).mono ?_
      rintro e w' ⟨rfl, rfl⟩
      clear hE
      go_wp2_with (fail)
      go_loopw [17, 18] (fun l i wr => ∃ k : Nat, k ≤ cn ∧ i = .int .i64 k ∧ Own .i64 3 wr w.heap.size l ((cs.take k).map (x + ·)) ∧ Below w.heap.size w wr) (fun _ i _ => cn - (intOf i).toNat)
      case atStart => exact ⟨0, by omega, rfl, Own.nil _ _ _ _, B⟩
      case round =>
        obtain ⟨k, hk, rfl, hown, B2⟩ := hrel
        by_cases hlt : k < cn
        · obtain ⟨gb, off, z, rfl, hz, z0, z1, hc⟩ := hC.at hlt
          have hc2 := cell_keep B2 hc
          have hmap := Lib.hid (take_map_snoc (x + ·) cs k z hz)
          have hlen := Lib.hid (len_take_map (x + ·) cs k cn hl.out hk)
          have zz0 : 0 ≤ z := z0
          have zz1 : z ≤ 65535 := z1
          clear hz z0 z1
          have i1 : (0 : Int) ≤ (k : Int) := by omega
          have i2 : (k : Int) < (cn : Int) := by omega
          go_wp2_with (at_builtin; refine wpList_push rfl _ _ 24 rfl .i64 3 8 Try.underlying24 int_info w.heap.size _ _ (x + z) rfl rfl rfl hown (by rw [hlen.out]; omega) (by decide) B2.size ?_; intro v' w4 hown' hgrow _; replace B2 := Own.pushed B2 hown hgrow; rw [← hmap.out] at hown'; clear hown hgrow)
          go_roundw
          case rel => exact ⟨k + 1, by omega, by go_num, hown', B2⟩
          case measure => simp [intOf]; omega
        · have hlen := len_take_map (x + ·) cs k cn hl.out hk
          obtain ⟨la, ln, lcap, rfl, hR, hm⟩ := hown.row (by
            intro n hn
            simp only [List.mem_map] at hn
            obtain ⟨m, hm, rfl⟩ := hn
            obtain ⟨q0, q1⟩ := hC.2.1 m (List.mem_of_mem_take hm)
            have q0 : 0 ≤ m := q0
            have q1 : m ≤ 65535 := q1
            show -9223372036854775808 ≤ x + m ∧ x + m ≤ 9223372036854775807
            omega)
          generalize (cs.take k).map (x + ·) = ls at hR
          clear hlen hown
          go_wp2_with (fail)
          refine (grant_any _ _ _ _ _ ls _ hR hm (by omega) (by omega)).mono ?_
          rintro e w5 ⟨rfl, hb⟩
          replace B2 := below_keep hb B2
          replace hR := hR.keep hb
          clear hb
          go_wp2_with (fail)
          refine (r2grant_any _ _ _ _ _ ls _ hR hm (by omega) (by omega)).mono ?_
          rintro e w' ⟨rfl, rfl⟩
          go_wp2_with (fail)
          go_ret
          exact ⟨ret_bool (by simp), B2⟩

end Go.Proofs.Ytfllenakphcfgaa
