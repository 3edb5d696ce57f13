/-
  What Draw of package key returns.
-/
import Derived.Test.YtlmifbbmppenoaaKeyA
import Derived.Test.YtlmifbbmppenoaaDrawPlain
import Derived.Test.YtlmifbbmppenoaaBag
import Derived.OwnWalk
namespace Go.Proofs.Ytlmifbbmppenoaa
open Go.RowKit

theorem zero_bool (w : World) : (zeroValue 4).run Try.prog w = .ok (.bool false) w := by kernel_rfl

/-- The map of the used keys. -/
def KeyBag (w : World) (b n : Nat) (zs : List Int) : Prop := Bag Try.prog .u64 24 4 w b n zs

set_option maxHeartbeats 400000 in
theorem kfirst_any (b n : Nat) (zs : List Int) (c f l : Int) (w : World) (h : KeyBag w b n zs) (f0 : 1 ≤ f) (f1 : f ≤ 4294967296) (l0 : f ≤ l + 1) (l1 : l ≤ 4294967295) :
    Calls Try.prog 35 #[.map (some b), .int .i64 c, .int .i64 f, .int .i64 l] w fun e w' => e = .returned (.tuple #[.int .u64 (S3.mk c (S3.free (S3.used zs c) f (S3.span f l))), .bool (decide (S3.free (S3.used zs c) f (S3.span f l) ≠ 0))]) ∧ w = w' := by
  have e1 := S3.span_val l0
  obtain ⟨m, hm⟩ : ∃ m, m = S3.span f l := ⟨_, rfl⟩
  rw [← hm] at e1 ⊢
  clear hm
  have hm0 : S3.mk c 0 = 0 := S3.mk_noS (by decide)
  have hm0 := Lib.hid hm0
  go_enter Try.func35, Try.ntmps35
  go_wp2
  go_loop [10] (fun i => ∃ j r : Nat, (j : Int) + r = m ∧ i = .int .i64 (f + j) ∧ S3.free (S3.used zs c) f m = S3.free (S3.used zs c) (f + j) r) (fun i => (4294967296 - intOf i).toNat)
  case atStart => exact ⟨0, m, by omega, by simp, by simp⟩
  case round =>
    obtain ⟨j, r, hj, rfl, hr⟩ := hrel
    rcases r with _ | r
    · rw [S3.free_zero] at hr
      have H := Lib.hid hr
      clear hr
      have e2 : l < f + j := by omega
      go_wp2
      go_ret2
      exact ⟨ret_two (ival (by rw [H.out, hm0.out])) (bval (by rw [H.out]; rfl)), rfl⟩
    · have e2 : f + j ≤ l := by omega
      obtain ⟨q0, q1⟩ := S3.mk_range c (f + j)
      rcases ht : S3.used zs c (f + j)
      · rw [S3.free_stop ht] at hr
        have H := Lib.hid hr
        have hno : decide (S3.mk c (f + j) ∈ zs) = false := ht
        clear hr ht e1 hj
        go_wp2_with (first | (go_at_call 9; refine (kmake_any _ _ _).mono ?_; rintro e w' ⟨rfl, rfl⟩) | (at_lookup; refine wpList_bag_look rfl _ _ _ rfl Try.underlying24 Try.underlying4 Try.underlying52 (zero_bool _) h rfl rfl q0 q1 ?_))
        go_ret2
        exact ⟨ret_two (ival (by rw [H.out])) (bval (by rw [H.out]; simp; omega)), rfl⟩
      · rw [S3.free_go ht] at hr
        have H := Lib.hid hr
        have hno : decide (S3.mk c (f + j) ∈ zs) = true := ht
        clear hr ht
        have E1 := Lib.hid hj
        have E2 := Lib.hid e1
        clear hj e1
        go_wp2_with (first | (go_at_call 9; refine (kmake_any _ _ _).mono ?_; rintro e w' ⟨rfl, rfl⟩) | (at_lookup; refine wpList_bag_look rfl _ _ _ rfl Try.underlying24 Try.underlying4 Try.underlying52 (zero_bool _) h rfl rfl q0 q1 ?_))
        go_round
        case rel =>
          have := E1.out; have := E2.out
          exact ⟨j + 1, r, by omega, by go_num, by rw [H.out]; congr 1; omega⟩
        case measure => simp [intOf]; omega

theorem used_take {zs : List Int} {j : Nat} {z : Int} (h : zs[j]? = some z) : zs.take j ++ [z] = zs.take (j + 1) := by rw [List.take_add_one, h]; rfl

set_option maxHeartbeats 800000 in
theorem kdraw_any (a : Option Addr) (len cap : Nat) (zs : List Int) (c want : Int) (w : World) (h : RowK .u64 w a len zs) (hl : len ≤ maxLen) :
    Calls Try.prog 27 #[.slice a len cap, .int .i64 c, .int .i64 want] w fun e w' => e = .returned (.tuple #[.int .u64 (S3.mk c (S3.drawS zs c want)), .bool (decide (S3.drawS zs c want ≠ 0))]) ∧ Below w.heap.size w w' := by
  have hmm := @run_makeMap_hint Try.prog _ _ _ Try.underlying52
  unfold maxLen at hl
  have hlen := Lib.hid h.len
  rcases hc : S3.isC c
  · have H := Lib.hid (S3.drawS_noC (zs := zs) (want := want) hc)
    have H2 := Lib.hid (S3.mk_noS (c := c) (s := 0) (by decide))
    go_enter Try.func27, Try.ntmps27
    go_wp2_with (first | (go_at_call 29; refine (kisClass_any _ _).mono ?_; rintro e w' ⟨rfl, rfl⟩))
    go_ret2
    exact ⟨ret_two (ival (by rw [H.out, H2.out])) (bval (by rw [H.out]; rfl)), Below.refl _ _⟩
  · obtain ⟨v, hv⟩ : ∃ v, v = S3.wantV want := ⟨_, rfl⟩
    obtain ⟨v0, v1⟩ := S3.wantV_range want
    rw [← hv] at v0 v1
    have H1 := fun g => S3.drawS_one (zs := zs) (want := want) hc g
    have H2 := fun g => S3.drawS_two (zs := zs) (want := want) hc g
    rw [← hv] at H1 H2
    obtain ⟨x, hx⟩ : ∃ x, x = S3.free (S3.used zs c) v (S3.span v 4294967295) := ⟨_, rfl⟩
    rw [← hx] at H1 H2
    obtain ⟨y, hy⟩ : ∃ y, y = S3.free (S3.used zs c) 1 (S3.span 1 (v - 1)) := ⟨_, rfl⟩
    rw [← hy] at H2
    have H1 := Lib.hid H1
    have H2 := Lib.hid H2
    have K1 := fun b n w hb => kfirst_any b n zs c v 4294967295 w hb v0 (by omega) (by omega) (by omega)
    have K2 := fun b n w hb => kfirst_any b n zs c 1 (v - 1) w hb (by omega) (by omega) (by omega) (by omega)
    rw [← hx] at K1
    rw [← hy] at K2
    have K1 := Lib.hid K1
    have K2 := Lib.hid K2
    clear hx hy
    have HV : Hid (S3.isS want = true → want = v) := fun g => by rw [hv, S3.wantV_yes g]
    have HV2 : Hid (S3.isS want = false → (1 : Int) = v) := fun g => by rw [hv, S3.wantV_no g]
    clear hv
    have hs1 : S3.isS want = true ∧ want = v ∨ S3.isS want = false ∧ 1 = v := by
      rcases hs : S3.isS want
      · right; exact ⟨rfl, HV2.out hs⟩
      · left; exact ⟨rfl, HV.out hs⟩
    clear HV HV2
    rcases hs1 with ⟨hs, rfl⟩ | ⟨hs, rfl⟩
    all_goals
      go_enter Try.func27, Try.ntmps27
      go_wp2_with (first | (go_at_call 29; refine (kisClass_any _ _).mono ?_; rintro e w' ⟨rfl, rfl⟩) | (go_at_call 30; refine (kisSerial_any _ _).mono ?_; rintro e w' ⟨rfl, rfl⟩))
      go_loopw [24] (fun i wr => ∃ j : Nat, j ≤ len ∧ i = .int .i64 j ∧ KeyBag wr w.heap.size j (zs.take j) ∧ Below w.heap.size w wr) (fun i _ => len - (intOf i).toNat)
      case atStart => exact ⟨0, Nat.zero_le _, rfl, Bag.made _ _ _ _ _, (Below.refl _ _).alloc (Nat.le_refl _) _⟩
      case round =>
        obtain ⟨j, hj, rfl, hbag, B⟩ := hrel
        by_cases hlt : j < len
        · obtain ⟨b, off, z, rfl, hz, z0, z1, hcell⟩ := h.at hlt
          have hcell := cell_keep B hcell
          have HT := Lib.hid (used_take hz)
          have z0 : 0 ≤ z := z0
          have z1 : z ≤ 18446744073709551615 := z1
          clear hz
          go_wp2_with (refine wpList_bag_put rfl _ _ _ _ rfl Try.underlying24 Try.underlying4 Try.underlying52 hbag (by unfold maxLen; omega) rfl rfl rfl z0 z1 ?_; intro w4 hbag' hgrow; replace B := B.grown hgrow B.size (fun j hj => by cases hj; exact Nat.le_refl _); rw [HT.out] at hbag'; clear hbag hgrow)
          all_goals
            go_roundw
            case rel => exact ⟨j + 1, by omega, by go_num, hbag', B⟩
            case measure => simp [intOf]; omega
        · have e : zs.take j = zs := List.take_of_length_le (by have := hlen.out; omega)
          rw [e] at hbag
          clear e
          rcases Decidable.em (x = 0) with g | g
          · have G := Lib.hid (H2.out g)
            subst g
            go_wp2_with (fail)
            refine (K1.out _ _ _ hbag).mono ?_
            rintro e w' ⟨rfl, rfl⟩
            go_wp2_with (fail)
            refine (K2.out _ _ _ hbag).mono ?_
            rintro e w' ⟨rfl, rfl⟩
            go_wp2_with (fail)
            go_ret2
            exact ⟨ret_two (ival (by rw [G.out])) (bval (by rw [G.out]; simp)), B⟩
          · have G := Lib.hid (H1.out g)
            go_wp2_with (fail)
            refine (K1.out _ _ _ hbag).mono ?_
            rintro e w' ⟨rfl, rfl⟩
            go_wp2_with (fail)
            go_ret2
            exact ⟨ret_two (ival (by rw [G.out])) (bval (by rw [G.out]; simp [g])), B⟩

end Go.Proofs.Ytlmifbbmppenoaa
