/-
  What Bytes and Read of package key return.
-/
import Derived.Test.YtkhkmgblgonfoaaQKeyA
import Derived.Test.YtkhkmgblgonfoaaQKeyPlain
import Derived.LoopN
namespace Go.Proofs.Ytkhkmgblgonfoaa
open Go.RowKit

/-- The bytes of a key, in a row of their own. -/
def BytesRow (k : Int) (w : World) (e : Ending) (w' : World) : Prop := ∃ g cap, e = .returned (.slice (some ⟨g, 0, none⟩) 8 cap) ∧ w.heap.size ≤ g ∧ 8 ≤ cap ∧ RowK .u8 w' (some ⟨g, 0, none⟩) 8 (S3.bytes8 k) ∧ Below w.heap.size w w'

set_option maxHeartbeats 1600000 in
theorem kbytes_any (k : Int) (w : World) (k0 : 0 ≤ k) (k1 : k ≤ 18446744073709551615) : Calls Try.prog 43 #[.int .u64 k] w (BytesRow k w) := by
  have hmk : ∀ w, (Instr.makeSlice 26 (.int .i64 8) (.int .i64 8)).run Try.prog w = .ok (.slice (some ⟨w.heap.size, 0, none⟩) 8 8) (w.alloc (.cells #[.int .u8 0, .int .u8 0, .int .u8 0, .int .u8 0, .int .u8 0, .int .u8 0, .int .u8 0, .int .u8 0] 5)) := fun _ => by kernel_rfl
  go_enter Try.func43, Try.ntmps43
  go_wp2
  refine wp_loop_rounds 9 ?_
  rw [rounds_succ]; go_wp2
  rw [rounds_succ]; go_wp2
  rw [rounds_succ]; go_wp2
  rw [rounds_succ]; go_wp2
  rw [rounds_succ]; go_wp2
  rw [rounds_succ]; go_wp2
  rw [rounds_succ]; go_wp2
  rw [rounds_succ]; go_wp2
  rw [rounds_succ]; go_wp2
  go_ret
  have d2 : k / 256 / 256 = k / 65536 := by omega
  have d3 : k / 65536 / 256 = k / 16777216 := by omega
  have d4 : k / 16777216 / 256 = k / 4294967296 := by omega
  have d5 : k / 4294967296 / 256 = k / 1099511627776 := by omega
  have d6 : k / 1099511627776 / 256 = k / 281474976710656 := by omega
  have d7 : k / 281474976710656 / 256 = k / 72057594037927936 := by omega
  rw [d2, d3, d4, d5, d6, d7]
  refine ⟨w.heap.size, 8, rfl, Nat.le_refl _, Nat.le_refl _, ⟨rfl, S3.bytes8_range k, fun _ => ⟨_, _, rfl, fun i hi => ?_⟩⟩, ?_⟩
  · have hi' : i < 8 := hi
    match i, hi' with
    | 0, _ =>
      have e : k / 72057594037927936 % 256 = k / 72057594037927936 := by omega
      simp [go_sem, S3.bytes8, e]
    | 1, _ => simp [go_sem, S3.bytes8]
    | 2, _ => simp [go_sem, S3.bytes8]
    | 3, _ => simp [go_sem, S3.bytes8]
    | 4, _ => simp [go_sem, S3.bytes8]
    | 5, _ => simp [go_sem, S3.bytes8]
    | 6, _ => simp [go_sem, S3.bytes8]
    | 7, _ => simp [go_sem, S3.bytes8]
  · exact (Below.refl _ _).alloc (Nat.le_refl _) _

set_option maxHeartbeats 800000 in
theorem kread_any (a : Option Addr) (len cap : Nat) (zs : List Int) (w : World) (h : RowK .u8 w a len zs) (hl : len ≤ maxLen) :
    Calls Try.prog 82 #[.slice a len cap] w fun e w' => e = .returned (.tuple #[.int .u64 (S3.readN zs), .bool (S3.readOk zs)]) ∧ w = w' := by
  unfold maxLen at hl
  have hlen := h.len
  by_cases h8 : len = 8
  · subst h8
    have hz8 := Lib.hid hlen
    have hrg : ∀ n ∈ zs, 0 ≤ n ∧ n ≤ 255 := h.2.1
    have N8 := (S3.num_lt hrg)
    rw [hlen] at N8
    have hN := Lib.hid hrg
    clear hrg hlen
    obtain ⟨n0, n1⟩ := N8
    have n1 : S3.num zs ≤ 18446744073709551615 := by have : S3.top 8 = 18446744073709551616 := by decide
                                                     omega
    rcases hv : S3.vk (S3.num zs)
    all_goals
      go_enter Try.func82, Try.ntmps82
      go_wp2
      go_loop [12, 4] (fun i k => ∃ j : Nat, j ≤ 8 ∧ i = .int .i64 j ∧ k = .int .u64 (S3.num (zs.take j))) (fun i _ => 8 - (intOf i).toNat)
      case atStart => exact ⟨0, Nat.zero_le _, rfl, rfl⟩
      case round =>
        obtain ⟨j, hj, rfl, rfl⟩ := hrel
        by_cases hlt : j < 8
        · obtain ⟨b, off, z, rfl, hz, z0, z1, hc⟩ := h.at hlt
          have z0 : 0 ≤ z := z0
          have z1 : z ≤ 255 := z1
          obtain ⟨q0, q1⟩ := S3.num_take_le hN.out hlt
          have HS := Lib.hid (S3.num_take hz)
          generalize S3.num (zs.take j) = q at q0 q1 HS
          have ho := or64_byte q z q0 z0 z1 q1
          clear hz
          go_wp2
          go_round
          case rel => exact ⟨j + 1, by omega, by go_num, by rw [HS.out]⟩
          case measure => simp [intOf]; omega
        · have e : zs.take j = zs := List.take_of_length_le (by have := hz8.out; omega)
          rw [e]
          have e : j = 8 := by omega
          subst e
          first
            | (obtain ⟨r1, r2⟩ := S3.read_no hv
               have R1 := Lib.hid r1
               have R2 := Lib.hid r2
               clear r1 r2
               go_wp2_with (first | (go_at_call 78; refine (kvalid_any _ _ n0 n1).mono ?_; rintro e w' ⟨rfl, rfl⟩))
               go_ret2
               exact ⟨ret_two (ival (by rw [R2.out])) (bval (by rw [R1.out])), rfl⟩)
            | (obtain ⟨r1, r2⟩ := S3.read_yes hz8.out hv
               have R1 := Lib.hid r1
               have R2 := Lib.hid r2
               clear r1 r2
               go_wp2_with (first | (go_at_call 78; refine (kvalid_any _ _ n0 n1).mono ?_; rintro e w' ⟨rfl, rfl⟩))
               go_ret2
               exact ⟨ret_two (ival (by rw [R2.out])) (bval (by rw [R1.out])), rfl⟩)
  · obtain ⟨r1, r2⟩ := S3.read_len (zs := zs) (by omega)
    have R1 := Lib.hid r1
    have R2 := Lib.hid r2
    clear r1 r2 hlen
    have h8' : ((len : Int) == 8) = false := by simp; omega
    go_enter Try.func82, Try.ntmps82
    go_wp2
    go_ret2
    exact ⟨ret_two (ival (by rw [R2.out])) (bval (by rw [R1.out])), rfl⟩

end Go.Proofs.Ytkhkmgblgonfoaa
