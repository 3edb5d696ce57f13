/-
  The law LifetimeMonotone: a greater wish and further ends never give less, and what is granted respects them.
-/
import Derived.Test.YtfllenakphcfgaaLifeH
import Derived.Test.YtfllenakphcfgaaRow
namespace Go.Proofs.Ytfllenakphcfgaa
open Go.RowKit

set_option maxHeartbeats 1600000 in
theorem monotoneLaw_walk (now want more : Int) (ca : Option Addr) (cn ccap : Nat) (cs : List Int) (w : World)
    (x0 : 0 ≤ now) (x1 : now ≤ 65535) (w0 : 0 ≤ want) (w1 : want ≤ 65535) (m0 : 0 ≤ more) (m1 : more ≤ 65535) (hC : RowK .u16 w ca cn cs) (hcn : cn ≤ maxLen) :
    Calls Try.prog 6 #[.int .u16 now, .int .u16 want, .int .u16 more, .slice ca cn ccap] w fun e w' => e = .returned (.bool true) ∧ Below w.heap.size w w' := by
  unfold maxLen at hcn
  by_cases h1 : 20 < (cn : Int)
  · go_enter Try.func6, Try.ntmps6
    go_wp2_with (fail)
    refine (awake2_any _).mono ?_
    rintro e w1 ⟨rfl, B⟩
    go_wp2_with (fail)
    go_ret
    exact ⟨rfl, B⟩
  · have hl := Lib.hid hC.len
    go_enter Try.func6, Try.ntmps6
    go_wp2_with (fail)
    refine (awake2_any _).mono ?_
    rintro e w2 ⟨rfl, B⟩
    go_wp2_with (fail)
    go_loopw [9, 10, 11] (fun l m i wr => ∃ k : Nat, k ≤ cn ∧ i = .int .i64 k ∧ Own .i64 3 wr w.heap.size l ((cs.take k).map (now + ·)) ∧ Own .i64 3 wr w.heap.size m ((cs.take k).map (now + · + more)) ∧ Apart l m ∧ Below w.heap.size w wr) (fun _ _ i _ => cn - (intOf i).toNat)
    case atStart => exact ⟨0, by omega, rfl, Own.nil _ _ _ _, Own.nil _ _ _ _, Apart.nil _ _ _, B⟩
    case round =>
      obtain ⟨k, hk, rfl, ownl, ownm, hap, B2⟩ := hrel
      by_cases hlt : k < cn
      · obtain ⟨gb, off, z, rfl, hz, z0, z1, hc⟩ := hC.at hlt
        have hc2 := cell_keep B2 hc
        have hmap1 := Lib.hid (take_map_snoc (now + ·) cs k z hz)
        have hmap2 := Lib.hid (take_map_snoc (now + · + more) cs k z hz)
        have hlen1 := Lib.hid (len_take_map (now + ·) cs k cn hl.out hk)
        have hlen2 := Lib.hid (len_take_map (now + · + more) cs k cn hl.out hk)
        have zz0 : 0 ≤ z := z0
        have zz1 : z ≤ 65535 := z1
        clear hz z0 z1
        have i1 : (0 : Int) ≤ (k : Int) := by omega
        have i2 : (k : Int) < (cn : Int) := by omega
        go_wp2_with (first
          | (at_builtin; refine wpList_push rfl _ _ 24 rfl .i64 3 8 Try.underlying24 int_info w.heap.size _ _ (now + z) rfl rfl rfl ownl (by rw [hlen1.out]; omega) (by decide) B2.size ?_; intro l' w4 own1 hgrow hat; have ownm1 := Own.beside ownm hgrow hap.symm.out; have hap1 := (Apart.step hap.symm hat (fun b hb => ⟨(ownm.lt b hb).1, by have := (ownm.lt b hb).2; simp; omega⟩)).symm; have B3 := Own.pushed B2 ownl hgrow; have hc3 := cell_keep B3 hc; clear hgrow hat ownl ownm hap B2 hc2; rw [← hmap1.out] at own1)
          | (at_builtin; refine wpList_push rfl _ _ 24 rfl .i64 3 8 Try.underlying24 int_info w.heap.size _ _ (now + z + more) rfl rfl rfl ownm1 (by rw [hlen2.out]; omega) (by decide) B3.size ?_; intro m' w5 own2 hgrow hat; have own3 := Own.beside own1 hgrow hap1.out; have hap2 := Apart.step hap1 hat (fun b hb => ⟨(own1.lt b hb).1, by have := (own1.lt b hb).2; simp; omega⟩); have B4 := Own.pushed B3 ownm1 hgrow; rw [← hmap2.out] at own2; clear hgrow hat hap1 ownm1 own1 B3 hc3))
        go_roundw
        case rel => exact ⟨k + 1, by omega, by go_num, own3, own2, hap2, B4⟩
        case measure => simp [intOf]; omega
      · have hk' : cs.take k = cs := List.take_of_length_le (by have := hl.out; omega)
        rw [hk'] at ownl ownm
        have hmem : ∀ n ∈ cs, 0 ≤ n ∧ n ≤ 65535 := fun n hn => hC.2.1 n hn
        obtain ⟨la, ln, lcap, rfl, hR, hm⟩ := ownl.row (by
          intro n hn
          simp only [List.mem_map] at hn
          obtain ⟨m, hm, rfl⟩ := hn
          obtain ⟨q0, q1⟩ := hmem m hm
          show -9223372036854775808 ≤ now + m ∧ now + m ≤ 9223372036854775807
          omega)
        obtain ⟨ka, kn, kcap, rfl, hS, hn⟩ := ownm.row (by
          intro n hn
          simp only [List.mem_map] at hn
          obtain ⟨m, hm, rfl⟩ := hn
          obtain ⟨q0, q1⟩ := hmem m hm
          show -9223372036854775808 ≤ now + m + more ∧ now + m + more ≤ 9223372036854775807
          omega)
        have hmono := S2.grant_mono (now := now) (w := want % 300) (w2 := want % 300 + more % 100) (cs := cs) (g := (now + ·)) (h := (now + · + more)) (fun x => by show now + x ≤ now + x + more; omega) (by omega)
        have hbd := S2.grant_bounds (now := now) (want := want % 300) (l := cs.map (now + ·))
        have hT := S2.isT_yes (n := now) x0 (by omega)
        generalize cs.map (now + ·) = ls at hR hmono hbd
        generalize cs.map (now + · + more) = ms at hS hmono
        obtain ⟨a, ha⟩ : ∃ a, a = S2.grantN now (want % 300) ls := ⟨_, rfl⟩
        obtain ⟨b, hb⟩ : ∃ b, b = S2.grantN now (want % 300 + more % 100) ms := ⟨_, rfl⟩
        rw [← ha] at hmono hbd
        rw [← hb] at hmono
        have hlm : (ln : Int) ≤ 9223372036854775807 := by unfold maxLen at hm; omega
        have HA := Lib.hid ha
        have HB := Lib.hid hb
        clear ownl ownm hap hk' hmem ha hb hl hC
        rcases hok : S2.grantOk now (want % 300) ls
        · have HO := Lib.hid hok
          clear hok hmono hbd
          go_wp2_with (fail)
          refine (grant_any _ _ _ _ _ ls _ hR hm (by omega) (by omega)).mono ?_
          rintro e w5 ⟨rfl, hb⟩
          rw [HO.out, ← HA.out]
          replace B2 := below_keep hb B2
          replace hR := hR.keep hb
          replace hS := hS.keep hb
          clear hb
          go_wp2_with (fail)
          refine (grant_any _ _ _ _ _ ms _ hS hn (by omega) (by omega)).mono ?_
          rintro e w6 ⟨rfl, hb⟩
          rw [← HB.out]
          replace B2 := below_keep hb B2
          go_wp2_with (fail)
          go_loop [17] (fun i => i = .int .i64 0) (fun _ => 0)
          case atStart => rfl
          case round =>
            obtain rfl := hrel
            go_wp2_with (fail)
            go_ret
            exact ⟨rfl, B2⟩
        · obtain ⟨hok2, hab⟩ := hmono hok
          obtain ⟨_, ha0, ha1, ha2, hae⟩ := hbd hok
          have HO := Lib.hid hok
          have HO2 := Lib.hid hok2
          have HE := Lib.hid hae
          have HEnd := Lib.hid (S2.endV_yes hT (S2.isL_yes ha0 ha1))
          clear hok hok2 hmono hbd hae
          go_wp2_with (fail)
          refine (grant_any _ _ _ _ _ ls _ hR hm (by omega) (by omega)).mono ?_
          rintro e w5 ⟨rfl, hb⟩
          rw [HO.out, ← HA.out]
          replace B2 := below_keep hb B2
          replace hR := hR.keep hb
          replace hS := hS.keep hb
          clear hb
          go_wp2_with (fail)
          refine (grant_any _ _ _ _ _ ms _ hS hn (by omega) (by omega)).mono ?_
          rintro e w6 ⟨rfl, hb⟩
          rw [HO2.out, ← HB.out]
          replace B2 := below_keep hb B2
          replace hR := hR.keep hb
          clear hb hS
          go_wp2_with (fail)
          go_loopw [17] (fun i wr => ∃ k : Nat, k ≤ ln ∧ i = .int .i64 k ∧ Below w6.heap.size w6 wr) (fun i _ => ln - (intOf i).toNat)
          case atStart => exact ⟨0, by omega, rfl, Below.refl _ _⟩
          case round =>
            obtain ⟨k, hk, rfl, B3⟩ := hrel
            by_cases hlt : k < ln
            · obtain ⟨gb, off, z, rfl, hz, z0, z1, hc⟩ := hR.at hlt
              have hc3 := cell_keep B3 hc
              have hez : now + 300 * (a + 1) ≤ z := HE.out z (List.mem_of_getElem? hz)
              have hv : S2.endV now a ≤ z := by rw [HEnd.out]; exact hez
              have i1 : (0 : Int) ≤ (k : Int) := by omega
              have i2 : (k : Int) < (ln : Int) := by omega
              clear hz
              go_wp2_with (fail)
              go_quiet ((go_at_call 11; exact quiet_w (end_any _ _ _)))
              go_wp2_with (fail)
              go_roundw
              case rel => exact ⟨k + 1, by omega, by go_num, below_drewN' B3 _⟩
              case measure => simp [intOf]; omega
            · go_wp2_with (fail)
              go_ret
              exact ⟨rfl, below_keep B3 B2⟩

end Go.Proofs.Ytfllenakphcfgaa
