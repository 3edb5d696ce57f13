/-
  The law KeyMakes: which keys there are, and their class and serial number.
-/
import Derived.Test.YtlmifbbmppenoaaKeyH
import Derived.Test.YtlmifbbmppenoaaKeyR
namespace Go.Proofs.Ytlmifbbmppenoaa
open Go.RowKit

/-- The serial numbers that the law tries. -/
def sers (s m : Int) : List Int := [s, m, 4294967295 - m % 3 + 1, -(m % 3)]

theorem sers_range (s m : Int) (s0 : -9223372036854775808 ≤ s) (s1 : s ≤ 9223372036854775807) (m0 : 0 ≤ m) (m1 : m ≤ 65535) : ∀ n ∈ sers s m, IntKind.i64.min ≤ n ∧ n ≤ IntKind.i64.max := by
  have e1 : IntKind.i64.min = -9223372036854775808 := rfl
  have e2 : IntKind.i64.max = 9223372036854775807 := rfl
  rw [e1, e2]
  intro n hn
  simp only [sers, List.mem_cons, List.not_mem_nil, or_false] at hn
  rcases hn with rfl | rfl | rfl | rfl <;> omega

/-- What the functions return at the key of a class and a serial number. -/
theorem made_key (n z : Int) : ∃ X : Int, 0 ≤ X ∧ X ≤ 18446744073709551615 ∧ (∀ w, Calls Try.prog 9 #[.int .i64 n, .int .i64 z] w fun e w' => e = .returned (.int .u64 X) ∧ w = w') ∧ (∀ w, Calls Try.prog 10 #[.int .i64 n, .int .i64 z] w fun e w' => e = .returned (.int .u64 X) ∧ w = w') ∧
    ((X = 0 ∧ ∀ w, Calls Try.prog 11 #[.int .u64 X] w fun e w' => e = .returned (.bool false) ∧ w = w') ∨
     ((X == 0) = false ∧ (∀ w, Calls Try.prog 11 #[.int .u64 X] w fun e w' => e = .returned (.bool true) ∧ w = w') ∧ (∀ w, Calls Try.prog 12 #[.int .u64 X] w fun e w' => e = .returned (.int .i64 n) ∧ w = w') ∧ ∀ w, Calls Try.prog 13 #[.int .u64 X] w fun e w' => e = .returned (.int .i64 z) ∧ w = w')) := by
  obtain ⟨r0, r1⟩ := S3.mk_range n z
  refine ⟨S3.mk n z, r0, r1, kmake_any n z, r3make_any n z, ?_⟩
  have hv := S3.vk_mk n z
  rcases hc : S3.isC n
  · left
    have e := S3.mk_noC (s := z) hc
    rw [hc, Bool.false_and] at hv
    exact ⟨e, fun w => by rw [← hv]; exact kvalid_any _ w r0 r1⟩
  · rcases hs : S3.isS z
    · left
      have e := S3.mk_noS (c := n) hs
      rw [hs, Bool.and_false] at hv
      exact ⟨e, fun w => by rw [← hv]; exact kvalid_any _ w r0 r1⟩
    · right
      rw [hc, hs, Bool.and_true] at hv
      have e := S3.mk_ne hc hs
      refine ⟨by simpa using e, fun w => by rw [← hv]; exact kvalid_any _ w r0 r1, fun w => ?_, fun w => ?_⟩
      · have := kclass_any _ w r0 r1; rw [S3.ck_mk hc hs] at this; exact this
      · have := kserial_any _ w r0 r1; rw [S3.sk_mk hc hs] at this; exact this

set_option maxHeartbeats 1600000 in
theorem makesLaw_walk (c s m k : Int) (w : World) (_ : -9223372036854775808 ≤ c) (_ : c ≤ 9223372036854775807) (s0 : -9223372036854775808 ≤ s) (s1 : s ≤ 9223372036854775807) (m0 : 0 ≤ m) (m1 : m ≤ 65535) (k0 : 0 ≤ k) (k1 : k ≤ 18446744073709551615) :
    Calls Try.prog 3 #[.int .i64 c, .int .i64 s, .int .u16 m, .int .u64 k] w fun e w' => e = .returned (.bool true) ∧ Below w.heap.size w w' := by
  go_enter Try.func3, Try.ntmps3
  go_wp2_with (fail)
  refine (awake3_any _).mono ?_
  rintro e w1 ⟨rfl, B⟩
  go_wp2_with (fail)
  have R : RowK .i64 _ _ 4 (sers s m) := RowK.new .i64 w1 (sers s m) 3 (sers_range s m s0 s1 m0 m1)
  replace B := B.alloc B.size (.cells ((sers s m).map (Value.int .i64)).toArray 3)
  obtain ⟨g, hg⟩ : ∃ g, g = w1.heap.size := ⟨_, rfl⟩
  rw [← hg] at R ⊢
  clear hg
  go_loopw [10] (fun i wr => ∃ p : Nat, p ≤ 4 ∧ i = .int .i64 p ∧ Below w.heap.size w wr ∧ RowK .i64 wr (some ⟨g, 0, none⟩) 4 (sers s m)) (fun i _ => 4 - (intOf i).toNat)
  case atStart => exact ⟨0, by omega, rfl, B, R⟩
  case round =>
    obtain ⟨p, hp, rfl, B, R⟩ := hrel
    by_cases hlt : p < 4
    · have i1 : (0 : Int) ≤ (p : Int) := by omega
      have i2 : (p : Int) < (4 : Int) := by omega
      go_wp2_with (fail)
      obtain ⟨wo, rfl⟩ : ∃ wo : World, wo = wr := ⟨_, rfl⟩
      go_loopw [11] (fun k wr => ∃ q : Nat, q ≤ 5 ∧ k = .int .i64 q ∧ Below w.heap.size w wr ∧ RowK .i64 wr (some ⟨g, 0, none⟩) 4 (sers s m)) (fun k _ => 5 - (intOf k).toNat)
      case atStart => exact ⟨0, by omega, rfl, B, R⟩
      case round =>
        obtain ⟨q, hq, rfl, B3, R3⟩ := hrel
        obtain ⟨z, _, z0, z1, hd⟩ := R3.at0 hlt
        by_cases hlq : q < 5
        · have j1 : (0 : Int) ≤ (q : Int) := by omega
          by_cases h4 : q = 4
          · subst h4
            obtain ⟨X, x0, x1, K1, K2, ⟨rfl, K3⟩ | ⟨hX, K3, K4, K5⟩⟩ := made_key c z
            · have K1 := Lib.hid K1
              have K2 := Lib.hid K2
              have K3 := Lib.hid K3
              go_wp2_with (go_at_call 9; refine (K1.out _).mono ?_; rintro e w' ⟨rfl, rfl⟩)
              go_quiet (first | (go_at_call 10; exact quiet_w (K2.out _)) | (go_at_call 11; exact quiet_w (K3.out _)))
              go_wp2_with (fail)
              go_roundw
              case rel => exact ⟨5, by omega, by go_num, below_drewN' B3 _, R3.drewN _⟩
              case measure => simp [intOf]; try omega
            · have hX2 : (X != 0) = true := by simpa using hX
              have hX3 : decide (X = 0) = false := by simpa using hX
              have K1 := Lib.hid K1
              have K2 := Lib.hid K2
              have K3 := Lib.hid K3
              have K4 := Lib.hid K4
              have K5 := Lib.hid K5
              go_wp2_with (go_at_call 9; refine (K1.out _).mono ?_; rintro e w' ⟨rfl, rfl⟩)
              go_quiet (first | (go_at_call 10; exact quiet_w (K2.out _)) | (go_at_call 11; exact quiet_w (K3.out _)) | (go_at_call 12; exact quiet_w (K4.out _)) | (go_at_call 13; exact quiet_w (K5.out _)))
              go_wp2_with (fail)
              go_roundw
              case rel => exact ⟨5, by omega, by go_num, below_drewN' B3 _, R3.drewN _⟩
              case measure => simp [intOf]; try omega
          · have hq4 : ((q : Int) == 4) = false := by simp; omega
            have hq5 : (q : Int) ≤ 4 := by omega
            clear h4
            obtain ⟨X, x0, x1, K1, K2, ⟨rfl, K3⟩ | ⟨hX, K3, K4, K5⟩⟩ := made_key (q : Int) z
            · have K1 := Lib.hid K1
              have K2 := Lib.hid K2
              have K3 := Lib.hid K3
              go_wp2_with (go_at_call 9; refine (K1.out _).mono ?_; rintro e w' ⟨rfl, rfl⟩)
              go_quiet (first | (go_at_call 10; exact quiet_w (K2.out _)) | (go_at_call 11; exact quiet_w (K3.out _)))
              go_wp2_with (fail)
              go_roundw
              case rel => exact ⟨q + 1, by omega, by go_num, below_drewN' B3 _, R3.drewN _⟩
              case measure => simp [intOf]; try omega
            · have hX2 : (X != 0) = true := by simpa using hX
              have hX3 : decide (X = 0) = false := by simpa using hX
              have K1 := Lib.hid K1
              have K2 := Lib.hid K2
              have K3 := Lib.hid K3
              have K4 := Lib.hid K4
              have K5 := Lib.hid K5
              go_wp2_with (go_at_call 9; refine (K1.out _).mono ?_; rintro e w' ⟨rfl, rfl⟩)
              go_quiet (first | (go_at_call 10; exact quiet_w (K2.out _)) | (go_at_call 11; exact quiet_w (K3.out _)) | (go_at_call 12; exact quiet_w (K4.out _)) | (go_at_call 13; exact quiet_w (K5.out _)))
              go_wp2_with (fail)
              go_roundw
              case rel => exact ⟨q + 1, by omega, by go_num, below_drewN' B3 _, R3.drewN _⟩
              case measure => simp [intOf]; try omega
        · go_wp2_with (fail)
          go_roundw
          case rel => exact ⟨p + 1, by omega, by go_num, B3, R3⟩
          case measure => simp [intOf]; omega
    · rcases hv : S3.vk k
      all_goals
        go_wp2_with (first | (go_at_call 11; refine (kvalid_any _ _ k0 k1).mono ?_; rintro e w' ⟨rfl, rfl⟩) | (go_at_call 14; refine (r3valid_any _ _ k0 k1).mono ?_; rintro e w' ⟨rfl, rfl⟩) | (go_at_call 12; refine (kclass_any _ _ k0 k1).mono ?_; rintro e w' ⟨rfl, rfl⟩) | (go_at_call 15; refine (r3class_any _ _ k0 k1).mono ?_; rintro e w' ⟨rfl, rfl⟩) | (go_at_call 13; refine (kserial_any _ _ k0 k1).mono ?_; rintro e w' ⟨rfl, rfl⟩) | (go_at_call 16; refine (r3serial_any _ _ k0 k1).mono ?_; rintro e w' ⟨rfl, rfl⟩))
        go_ret
        exact ⟨ret_bool (by simp), B⟩

end Go.Proofs.Ytlmifbbmppenoaa
