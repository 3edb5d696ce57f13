/-
  What Bytes and Read of the document's answer for keys return.
-/
import Derived.Test.YtkhkmgblgonfoaaQKeyR
import Derived.Test.YtkhkmgblgonfoaaQKeyPlain
import Derived.Test.YtkhkmgblgonfoaaQBase
namespace Go.Proofs.Ytkhkmgblgonfoaa
open Go.RowKit

theorem u8_info : (Try.prog.info? 5).map (fun i => (i.zero, i.size, i.bytes)) = some (some (.int .u8 0), 1, 1) := by kernel_rfl

/-- The bytes of a key, in a row of their own. -/
def BytesRowR (k : Int) (w : World) (e : Ending) (w' : World) : Prop := ∃ g cap, e = .returned (.slice (some ⟨g, 0, none⟩) 8 cap) ∧ w.heap.size ≤ g ∧ RowK .u8 w' (some ⟨g, 0, none⟩) 8 (S3.bytes8 k) ∧ Below w.heap.size w w'

theorem Own.at8 {W : World} {base : Nat} {v : Value} {zs : List Int} {e : TypeId} (h : Own .u8 e W base v zs) (hz : ∀ n ∈ zs, IntKind.u8.min ≤ n ∧ n ≤ IntKind.u8.max) (h8 : zs.length = 8) :
    ∃ g cap, v = .slice (some ⟨g, 0, none⟩) 8 cap ∧ base ≤ g ∧ RowK .u8 W (some ⟨g, 0, none⟩) 8 zs := by
  obtain ⟨a, n, cap, hv, hr, _⟩ := h.row hz
  have hn : n = 8 := hr.len.symm.trans h8
  subst hn
  have hl := h.lt
  rcases h.2 with ⟨h', _⟩ | ⟨g', cap', cur, h', _⟩
  · rw [hv] at h'; injection h' with _ h' _; omega
  · rw [h'] at hv hl
    injection hv with e1 e2 e3
    subst e1
    exact ⟨g', cap', by rw [h', e2], (hl g' rfl).1, hr⟩

set_option maxHeartbeats 1600000 in
theorem r3bytes_any (k : Int) (w : World) (k0 : 0 ≤ k) (k1 : k ≤ 18446744073709551615) : Calls Try.prog 47 #[.int .u64 k] w (BytesRowR k w) := by
  have e0 := Lib.hid (show k / 72057594037927936 = k / 72057594037927936 % 256 by omega)
  go_enter Try.func47, Try.ntmps47
  go_wp2
  go_loopw [3, 4] (fun l i wr => ∃ j : Nat, j ≤ 8 ∧ i = .int .i64 (7 - (j : Int)) ∧ Own .u8 5 wr w.heap.size l ((S3.bytes8 k).take j) ∧ Below w.heap.size w wr) (fun _ i _ => (intOf i + 1).toNat)
  case atStart => exact ⟨0, by omega, rfl, Own.nil _ _ _ _, Below.refl _ _⟩
  case round =>
    obtain ⟨j, hj, rfl, hown, B⟩ := hrel
    by_cases hlt : j < 8
    · have hj8 : j = 0 ∨ j = 1 ∨ j = 2 ∨ j = 3 ∨ j = 4 ∨ j = 5 ∨ j = 6 ∨ j = 7 := by omega
      rcases hj8 with rfl | rfl | rfl | rfl | rfl | rfl | rfl | rfl
      · go_wp2_with (at_builtin; refine wpList_push rfl _ _ 26 rfl .u8 5 1 Try.underlying26 u8_info w.heap.size _ _ _ rfl rfl rfl hown (Nat.lt_of_le_of_lt (List.length_take_le _ _) (by decide)) (by decide) B.size ?_; intro v' w4 hown' hgrow _; replace B := Own.pushed B hown hgrow; clear hown hgrow)
        rw [e0.out] at hown'
        replace hown' : Own .u8 5 w4 w.heap.size v' ((S3.bytes8 k).take 1) := hown'
        go_roundw
        case rel => exact ⟨1, by omega, by go_num, hown', B⟩
        case measure => simp [intOf]
      · go_wp2_with (at_builtin; refine wpList_push rfl _ _ 26 rfl .u8 5 1 Try.underlying26 u8_info w.heap.size _ _ _ rfl rfl rfl hown (Nat.lt_of_le_of_lt (List.length_take_le _ _) (by decide)) (by decide) B.size ?_; intro v' w4 hown' hgrow _; replace B := Own.pushed B hown hgrow; clear hown hgrow)
        replace hown' : Own .u8 5 w4 w.heap.size v' ((S3.bytes8 k).take 2) := hown'
        go_roundw
        case rel => exact ⟨2, by omega, by go_num, hown', B⟩
        case measure => simp [intOf]
      · go_wp2_with (at_builtin; refine wpList_push rfl _ _ 26 rfl .u8 5 1 Try.underlying26 u8_info w.heap.size _ _ _ rfl rfl rfl hown (Nat.lt_of_le_of_lt (List.length_take_le _ _) (by decide)) (by decide) B.size ?_; intro v' w4 hown' hgrow _; replace B := Own.pushed B hown hgrow; clear hown hgrow)
        replace hown' : Own .u8 5 w4 w.heap.size v' ((S3.bytes8 k).take 3) := hown'
        go_roundw
        case rel => exact ⟨3, by omega, by go_num, hown', B⟩
        case measure => simp [intOf]
      · go_wp2_with (at_builtin; refine wpList_push rfl _ _ 26 rfl .u8 5 1 Try.underlying26 u8_info w.heap.size _ _ _ rfl rfl rfl hown (Nat.lt_of_le_of_lt (List.length_take_le _ _) (by decide)) (by decide) B.size ?_; intro v' w4 hown' hgrow _; replace B := Own.pushed B hown hgrow; clear hown hgrow)
        replace hown' : Own .u8 5 w4 w.heap.size v' ((S3.bytes8 k).take 4) := hown'
        go_roundw
        case rel => exact ⟨4, by omega, by go_num, hown', B⟩
        case measure => simp [intOf]
      · go_wp2_with (at_builtin; refine wpList_push rfl _ _ 26 rfl .u8 5 1 Try.underlying26 u8_info w.heap.size _ _ _ rfl rfl rfl hown (Nat.lt_of_le_of_lt (List.length_take_le _ _) (by decide)) (by decide) B.size ?_; intro v' w4 hown' hgrow _; replace B := Own.pushed B hown hgrow; clear hown hgrow)
        replace hown' : Own .u8 5 w4 w.heap.size v' ((S3.bytes8 k).take 5) := hown'
        go_roundw
        case rel => exact ⟨5, by omega, by go_num, hown', B⟩
        case measure => simp [intOf]
      · go_wp2_with (at_builtin; refine wpList_push rfl _ _ 26 rfl .u8 5 1 Try.underlying26 u8_info w.heap.size _ _ _ rfl rfl rfl hown (Nat.lt_of_le_of_lt (List.length_take_le _ _) (by decide)) (by decide) B.size ?_; intro v' w4 hown' hgrow _; replace B := Own.pushed B hown hgrow; clear hown hgrow)
        replace hown' : Own .u8 5 w4 w.heap.size v' ((S3.bytes8 k).take 6) := hown'
        go_roundw
        case rel => exact ⟨6, by omega, by go_num, hown', B⟩
        case measure => simp [intOf]
      · go_wp2_with (at_builtin; refine wpList_push rfl _ _ 26 rfl .u8 5 1 Try.underlying26 u8_info w.heap.size _ _ _ rfl rfl rfl hown (Nat.lt_of_le_of_lt (List.length_take_le _ _) (by decide)) (by decide) B.size ?_; intro v' w4 hown' hgrow _; replace B := Own.pushed B hown hgrow; clear hown hgrow)
        replace hown' : Own .u8 5 w4 w.heap.size v' ((S3.bytes8 k).take 7) := hown'
        go_roundw
        case rel => exact ⟨7, by omega, by go_num, hown', B⟩
        case measure => simp [intOf]
      · go_wp2_with (at_builtin; refine wpList_push rfl _ _ 26 rfl .u8 5 1 Try.underlying26 u8_info w.heap.size _ _ _ rfl rfl rfl hown (Nat.lt_of_le_of_lt (List.length_take_le _ _) (by decide)) (by decide) B.size ?_; intro v' w4 hown' hgrow _; replace B := Own.pushed B hown hgrow; clear hown hgrow)
        replace hown' : Own .u8 5 w4 w.heap.size v' ((S3.bytes8 k).take 8) := hown'
        go_roundw
        case rel => exact ⟨8, by omega, by go_num, hown', B⟩
        case measure => simp [intOf]
    · have e : j = 8 := by omega
      subst e
      obtain ⟨g, cap, rfl, hg, hr⟩ := hown.at8 (S3.bytes8_range k) rfl
      go_wp2_with (fail)
      go_ret
      exact ⟨g, cap, rfl, hg, hr, B⟩


end Go.Proofs.Ytkhkmgblgonfoaa
