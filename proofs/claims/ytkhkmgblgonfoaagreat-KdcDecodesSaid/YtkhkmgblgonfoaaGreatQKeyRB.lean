/-
  What Bytes and Read of the document's answer for keys return.
-/
import Derived.Test.YtkhkmgblgonfoaaGreatQKeyR
import Derived.Test.YtkhkmgblgonfoaaGreatQKeyPlain
import Derived.Test.YtkhkmgblgonfoaaGreatQBase
namespace Go.Proofs.YtkhkmgblgonfoaaGreat
open Go.RowKit

theorem u8_info : (Tryz.prog.info? 5).map (fun i => (i.zero, i.size, i.bytes)) = some (some (.int .u8 0), 1, 1) := by kernel_rfl

/-- The bytes of a key, in a row of their own. -/
def BytesRowR (k : Int) (w : World) (e : Ending) (w' : World) : Prop := ∃ g cap, e = .returned (.slice (some ⟨g, 0, none⟩) 8 cap) ∧ w.heap.size ≤ g ∧ RowK .u8 w' (some ⟨g, 0, none⟩) 8 (S3.bytes8 k) ∧ Below w.heap.size w w'

theorem Own.at8 {W : World} {base : Nat} {v : Value} {zs : List Int} {e : TypeId} (h : Own .u8 e W base v zs) (hz : ∀ n ∈ zs, IntKind.u8.min ≤ n ∧ n ≤ IntKind.u8.max) (h8 : zs.length = 8) :
    ∃ g cap, v = .slice (some ⟨g, 0, none⟩) 8 cap ∧ base ≤ g ∧ RowK .u8 W (some ⟨g, 0, none⟩) 8 zs := by
  obtain ⟨a, n, cap, hv, hr, _⟩ := h.row hz
  have hn : n = 8 := hr.len.symm.trans h8
  subst hn
  have hl := h.lt
  rcases h.2 with ⟨h', _⟩ | ⟨g', cap', cur, h', _⟩
  · rw [hv] at h'; injection h' with _ h' _; omega
  · rw [h'] at hv hl
    injection hv with e1 e2 e3
    subst e1
    exact ⟨g', cap', by rw [h', e2], (hl g' rfl).1, hr⟩

set_option maxHeartbeats 1600000 in
theorem r3bytes_any (k : Int) (w : World) (k0 : 0 ≤ k) (k1 : k ≤ 18446744073709551615) : Calls Tryz.prog 38 #[.int .u64 k] w (BytesRowR k w) := by
  have e0 := Lib.hid (show k / 72057594037927936 = k / 72057594037927936 % 256 by omega)
  go_enter Tryz.func38, Tryz.ntmps38
  go_wp2
  go_loopw [3, 4] (fun l i wr => ∃ j : Nat, j ≤ 8 ∧ i = .int .i64 (7 - (j : Int)) ∧ Own .u8 5 wr w.heap.size l ((S3.bytes8 k).take j) ∧ Below w.heap.size w wr) (fun _ i _ => (intOf i + 1).toNat)
  case atStart => exact ⟨0, by omega, rfl, Own.nil _ _ _ _, Below.refl _ _⟩
  case round =>
    obtain ⟨j, hj, rfl, hown, B⟩ := hrel
    by_cases hlt : j < 8
    · have hj8 : j = 0 ∨ j = 1 ∨ j = 2 ∨ j = 3 ∨ j = 4 ∨ j = 5 ∨ j = 6 ∨ j = 7 := by omega
      rcases hj8 with rfl | rfl | rfl | rfl | rfl | rfl | rfl | rfl
      · go_wp2_with (at_builtin; refine wpList_push rfl _ _ 22 rfl .u8 5 1 Tryz.underlying22 u8_info w.heap.size _ _ _ rfl rfl rfl hown (Nat.lt_of_le_of_lt (List.length_take_le _ _) (by decide)) (by decide) B.size ?_; intro v' w4 hown' hgrow _; replace B := Own.pushed B hown hgrow; clear hown hgrow)
        rw [e0.out] at hown'
        replace hown' : Own .u8 5 w4 w.heap.size v' ((S3.bytes8 k).take 1) := hown'
        go_roundw
        case rel => exact ⟨1, by omega, by go_num, hown', B⟩
        case measure => simp [intOf]
      · go_wp2_with (at_builtin; refine wpList_push rfl _ _ 22 rfl .u8 5 1 Tryz.underlying22 u8_info w.heap.size _ _ _ rfl rfl rfl hown (Nat.lt_of_le_of_lt (List.length_take_le _ _) (by decide)) (by decide) B.size ?_; intro v' w4 hown' hgrow _; replace B := Own.pushed B hown hgrow; clear hown hgrow)
        replace hown' : Own .u8 5 w4 w.heap.size v' ((S3.bytes8 k).take 2) := hown'
        go_roundw
        case rel => exact ⟨2, by omega, by go_num, hown', B⟩
        case measure => simp [intOf]
      · go_wp2_with (at_builtin; refine wpList_push rfl _ _ 22 rfl .u8 5 1 Tryz.underlying22 u8_info w.heap.size _ _ _ rfl rfl rfl hown (Nat.lt_of_le_of_lt (List.length_take_le _ _) (by decide)) (by decide) B.size ?_; intro v' w4 hown' hgrow _; replace B := Own.pushed B hown hgrow; clear hown hgrow)
        replace hown' : Own .u8 5 w4 w.heap.size v' ((S3.bytes8 k).take 3) := hown'
        go_roundw
        case rel => exact ⟨3, by omega, by go_num, hown', B⟩
        case measure => simp [intOf]
      · go_wp2_with (at_builtin; refine wpList_push rfl _ _ 22 rfl .u8 5 1 Tryz.underlying22 u8_info w.heap.size _ _ _ rfl rfl rfl hown (Nat.lt_of_le_of_lt (List.length_take_le _ _) (by decide)) (by decide) B.size ?_; intro v' w4 hown' hgrow _; replace B := Own.pushed B hown hgrow; clear hown hgrow)
        replace hown' : Own .u8 5 w4 w.heap.size v' ((S3.bytes8 k).take 4) := hown'
        go_roundw
        case rel => exact ⟨4, by omega, by go_num, hown', B⟩
        case measure => simp [intOf]
      · go_wp2_with (at_builtin; refine wpList_push rfl _ _ 22 rfl .u8 5 1 Tryz.underlying22 u8_info w.heap.size _ _ _ rfl rfl rfl hown (Nat.lt_of_le_of_lt (List.length_take_le _ _) (by decide)) (by decide) B.size ?_; intro v' w4 hown' hgrow _; replace B := Own.pushed B hown hgrow; clear hown hgrow)
        replace hown' : Own .u8 5 w4 w.heap.size v' ((S3.bytes8 k).take 5) := hown'
        go_roundw
        case rel => exact ⟨5, by omega, by go_num, hown', B⟩
        case measure => simp [intOf]
      · go_wp2_with (at_builtin; refine wpList_push rfl _ _ 22 rfl .u8 5 1 Tryz.underlying22 u8_info w.heap.size _ _ _ rfl rfl rfl hown (Nat.lt_of_le_of_lt (List.length_take_le _ _) (by decide)) (by decide) B.size ?_; intro v' w4 hown' hgrow _; replace B := Own.pushed B hown hgrow; clear hown hgrow)
        replace hown' : Own .u8 5 w4 w.heap.size v' ((S3.bytes8 k).take 6) := hown'
        go_roundw
        case rel => exact ⟨6, by omega, by go_num, hown', B⟩
        case measure => simp [intOf]
      · go_wp2_with (at_builtin; refine wpList_push rfl _ _ 22 rfl .u8 5 1 Tryz.underlying22 u8_info w.heap.size _ _ _ rfl rfl rfl hown (Nat.lt_of_le_of_lt (List.length_take_le _ _) (by decide)) (by decide) B.size ?_; intro v' w4 hown' hgrow _; replace B := Own.pushed B hown hgrow; clear hown hgrow)
        replace hown' : Own .u8 5 w4 w.heap.size v' ((S3.bytes8 k).take 7) := hown'
        go_roundw
        case rel => exact ⟨7, by omega, by go_num, hown', B⟩
        case measure => simp [intOf]
      · go_wp2_with (at_builtin; refine wpList_push rfl _ _ 22 rfl .u8 5 1 Tryz.underlying22 u8_info w.heap.size _ _ _ rfl rfl rfl hown (Nat.lt_of_le_of_lt (List.length_take_le _ _) (by decide)) (by decide) B.size ?_; intro v' w4 hown' hgrow _; replace B := Own.pushed B hown hgrow; clear hown hgrow)
        replace hown' : Own .u8 5 w4 w.heap.size v' ((S3.bytes8 k).take 8) := hown'
        go_roundw
        case rel => exact ⟨8, by omega, by go_num, hown', B⟩
        case measure => simp [intOf]
    · have e : j = 8 := by omega
      subst e
      obtain ⟨g, cap, rfl, hg, hr⟩ := hown.at8 (S3.bytes8_range k) rfl
      go_wp2_with (fail)
      go_ret
      exact ⟨g, cap, rfl, hg, hr, B⟩

set_option maxHeartbeats 800000 in
theorem r3read_any (a : Option Addr) (len cap : Nat) (zs : List Int) (w : World) (h : RowK .u8 w a len zs) (hl : len ≤ maxLen) :
    Calls Tryz.prog 57 #[.slice a len cap] w fun e w' => e = .returned (.tuple #[.int .u64 (S3.readN zs), .bool (S3.readOk zs)]) ∧ w = w' := by
  unfold maxLen at hl
  have hlen := h.len
  by_cases h8 : len = 8
  · subst h8
    have hz8 := Lib.hid hlen
    have hrg : ∀ n ∈ zs, 0 ≤ n ∧ n ≤ 255 := h.2.1
    have N8 := (S3.num_lt hrg)
    rw [hlen] at N8
    have hN := Lib.hid hrg
    clear hrg hlen
    obtain ⟨n0, n1⟩ := N8
    have n1 : S3.num zs ≤ 18446744073709551615 := by have : S3.top 8 = 18446744073709551616 := by decide
                                                     omega
    rcases hv : S3.vk (S3.num zs)
    all_goals
      go_enter Tryz.func57, Tryz.ntmps57
      go_wp2
      go_loop [5, 4] (fun i k => ∃ j : Nat, j ≤ 8 ∧ i = .int .i64 j ∧ k = .int .u64 (S3.num (zs.take j))) (fun i _ => 8 - (intOf i).toNat)
      case atStart => exact ⟨0, Nat.zero_le _, rfl, rfl⟩
      case round =>
        obtain ⟨j, hj, rfl, rfl⟩ := hrel
        by_cases hlt : j < 8
        · obtain ⟨b, off, z, rfl, hz, z0, z1, hc⟩ := h.at hlt
          have z0 : 0 ≤ z := z0
          have z1 : z ≤ 255 := z1
          obtain ⟨q0, q1⟩ := S3.num_take_le hN.out hlt
          have HS := Lib.hid (S3.num_take hz)
          generalize S3.num (zs.take j) = q at q0 q1 HS
          have ho := or64_byte q z q0 z0 z1 q1
          clear hz
          go_wp2
          go_round
          case rel => exact ⟨j + 1, by omega, by go_num, by rw [HS.out]⟩
          case measure => simp [intOf]; omega
        · have e : zs.take j = zs := List.take_of_length_le (by have := hz8.out; omega)
          rw [e]
          have e : j = 8 := by omega
          subst e
          first
            | (obtain ⟨r1, r2⟩ := S3.read_no hv
               have R1 := Lib.hid r1
               have R2 := Lib.hid r2
               clear r1 r2
               go_wp2_with (first | (go_at_call 36; refine (r3valid_any _ _ n0 n1).mono ?_; rintro e w' ⟨rfl, rfl⟩))
               go_ret2
               exact ⟨ret_two (ival (by rw [R2.out])) (bval (by rw [R1.out])), rfl⟩)
            | (obtain ⟨r1, r2⟩ := S3.read_yes hz8.out hv
               have R1 := Lib.hid r1
               have R2 := Lib.hid r2
               clear r1 r2
               go_wp2_with (first | (go_at_call 36; refine (r3valid_any _ _ n0 n1).mono ?_; rintro e w' ⟨rfl, rfl⟩))
               go_ret2
               exact ⟨ret_two (ival (by rw [R2.out])) (bval (by rw [R1.out])), rfl⟩)
  · obtain ⟨r1, r2⟩ := S3.read_len (zs := zs) (by omega)
    have R1 := Lib.hid r1
    have R2 := Lib.hid r2
    clear r1 r2 hlen
    have h8' : ((len : Int) == 8) = false := by simp; omega
    go_enter Tryz.func57, Tryz.ntmps57
    go_wp2
    go_ret2
    exact ⟨ret_two (ival (by rw [R2.out])) (bval (by rw [R1.out])), rfl⟩

end Go.Proofs.YtkhkmgblgonfoaaGreat
