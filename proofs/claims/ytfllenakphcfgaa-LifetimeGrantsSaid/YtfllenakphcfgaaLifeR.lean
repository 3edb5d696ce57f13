/-
  What the document's own answers for chapter 2 return.
-/
import Derived.Test.YtfllenakphcfgaaLifeB
namespace Go.Proofs.Ytfllenakphcfgaa
open Go.RowKit

theorem r2time_any (n : Int) (w : World) : Calls Try.prog 23 #[.int .i64 n] w fun e w' => e = .returned (.bool (S2.isT n)) ∧ w = w' := by
  rcases S2.isT_cases3 n with ⟨h, h0, h1⟩ | ⟨h, h0⟩ | ⟨h, h0, h1⟩
  all_goals
    have H := Lib.hid h
    clear h
    go_enter Try.func23, Try.ntmps23
    go_wp2
    go_ret
    exact ⟨ret_bool (by rw [H.out] <;> simp <;> omega), rfl⟩

theorem r2end_any (i l : Int) (w : World) : Calls Try.prog 12 #[.int .i64 i, .int .i64 l] w fun e w' => e = .returned (.int .i64 (S2.endV i l)) ∧ w = w' := by
  rcases S2.isT_cases i with ⟨h, h0, h1⟩ | h
  · rcases S2.isL_cases l with ⟨g, g0, g1⟩ | ⟨g, g0⟩ | ⟨g, g0, g1⟩
    all_goals
      go_enter Try.func12, Try.ntmps12
      go_wp2_with ((go_at_call 23; refine (r2time_any _ _).mono ?_; rintro e w' ⟨rfl, rfl⟩))
      go_ret
      first
        | exact ⟨ret_int (S2.endV_yes h g).symm, rfl⟩
        | exact ⟨ret_int (S2.endV_noL g).symm, rfl⟩
  · go_enter Try.func12, Try.ntmps12
    go_wp2_with ((go_at_call 23; refine (r2time_any _ _).mono ?_; rintro e w' ⟨rfl, rfl⟩))
    go_ret
    exact ⟨ret_int (S2.endV_noT h).symm, rfl⟩

theorem r2fromSeconds_any (n : Int) (w : World) (hn : n ≤ 9223372036854775807) :
    Calls Try.prog 14 #[.int .i64 n] w fun e w' => e = .returned (.tuple #[.int .i64 (S2.fromN n), .bool (S2.fromOk n)]) ∧ w = w' := by
  by_cases h : n < 300
  · obtain ⟨e1, e2⟩ := S2.from_no h
    rw [e1, e2]
    clear e1 e2
    go_enter Try.func14, Try.ntmps14
    go_wp2
    go_ret2
    exact ⟨rfl, rfl⟩
  · have h' : 300 ≤ n := by omega
    obtain ⟨e1, e2⟩ := S2.from_yes h'
    have E1 := Lib.hid e1
    have E2 := Lib.hid e2
    clear e1 e2
    go_enter Try.func14, Try.ntmps14
    go_wp2
    all_goals
      go_ret2
      exact ⟨ret_two (ival (by rw [E1.out]; omega)) (bval E2.out.symm), rfl⟩

theorem cut_up (now e m : Int) (h : m ≤ S2.cut now e) (h0 : 0 ≤ m) : now + 300 * (m + 1) ≤ e := by unfold S2.cut at h; omega
theorem cut_down (now e m : Int) (h : ¬ m ≤ S2.cut now e) : e < now + 300 * (m + 1) := by unfold S2.cut at h; omega
theorem cut_low (now e : Int) : -1 ≤ S2.cut now e := by unfold S2.cut; omega

set_option maxHeartbeats 800000 in
theorem r2grant_any (now want : Int) (a : Option Addr) (len cap : Nat) (zs : List Int) (w : World) (hR : RowK .i64 w a len zs) (hl : len ≤ maxLen) (hw1 : want ≤ 9223372036854775807) (hw0 : -9223372036854775808 ≤ want) :
    Calls Try.prog 16 #[.int .i64 now, .int .i64 want, .slice a len cap] w fun e w' => e = .returned (.tuple #[.int .i64 (S2.grantN now want zs), .bool (S2.grantOk now want zs)]) ∧ w = w' := by
  rcases S2.isT_cases now with ⟨ht, h0, h1⟩ | ht
  · by_cases hw : want < 0
    · obtain ⟨e1, e2⟩ := S2.grant_noW (now := now) (l := zs) hw
      rw [e1, e2]
      clear e1 e2
      go_enter Try.func16, Try.ntmps16
      go_wp2_with ((go_at_call 23; refine (r2time_any _ _).mono ?_; rintro e w' ⟨rfl, rfl⟩))
      go_ret2
      exact ⟨rfl, rfl⟩
    · have hw' : 0 ≤ want := by omega
      have hlen := Lib.hid hR.len
      have hlm : (len : Int) ≤ 9223372036854775807 := by unfold maxLen at hl; omega
      have HG := Lib.hid (S2.gl_eq now want zs)
      go_enter Try.func16, Try.ntmps16
      go_wp2_with ((go_at_call 23; refine (r2time_any _ _).mono ?_; rintro e w' ⟨rfl, rfl⟩))
      all_goals
        go_loop [8, 9] (fun m i => ∃ k : Nat, k ≤ len ∧ i = .int .i64 k ∧ m = .int .i64 (S2.gl now want (zs.take k))) (fun _ i => len - (intOf i).toNat)
        case atStart => exact ⟨0, Nat.zero_le _, rfl, ival (by show _ = min want 255; omega)⟩
        case round =>
          obtain ⟨k, hk, rfl, rfl⟩ := hrel
          by_cases hlt : k < len
          · obtain ⟨b, off, z, rfl, hz, hz1, hz2, hc⟩ := hR.at hlt
            have HS : Hid (S2.gl now want (zs.take (k + 1)) = min (S2.gl now want (zs.take k)) (S2.cut now z)) := by
              rw [List.take_add_one, hz]; exact S2.gl_snoc _ _ _ _
            have g1 := S2.gl_ge now want (zs.take k) hw'
            have g2 := S2.gl_le now want (zs.take k)
            clear hz
            obtain ⟨g, hg⟩ : ∃ g, g = S2.gl now want (zs.take k) := ⟨_, rfl⟩
            rw [← hg] at g1 g2 HS ⊢
            clear hg
            have gc := cut_low now z
            obtain ⟨c, hcc⟩ : ∃ c, c = S2.cut now z := ⟨_, rfl⟩
            have hup : ∀ m : Int, m ≤ c → 0 ≤ m → now + 300 * (m + 1) ≤ z := by rw [hcc]; exact fun m => cut_up now z m
            have hdn : ∀ m : Int, ¬ m ≤ c → z < now + 300 * (m + 1) := by rw [hcc]; exact fun m => cut_down now z m
            rw [← hcc] at gc HS
            clear hcc
            have HU := Lib.hid hup
            have HD := Lib.hid hdn
            clear hup hdn
            have i1 : (0 : Int) ≤ (k : Int) := by omega
            have i2 : (k : Int) < (len : Int) := by omega
            go_wp2
            go_loop [8] (fun m => ∃ x : Int, m = .int .i64 x ∧ min g c ≤ x ∧ x ≤ g) (fun m => (intOf m + 1).toNat)
            case atStart => exact ⟨g, rfl, by omega, by omega⟩
            case round =>
              obtain ⟨x, rfl, x1, x2⟩ := hrel
              by_cases hx0 : 0 ≤ x
              · by_cases hx : x ≤ c
                · have hu := HU.out x hx hx0
                  go_wp2
                  go_round
                  case rel => exact ⟨k + 1, by omega, by go_num, ival (by rw [HS.out]; omega)⟩
                  case measure => simp [intOf]; omega
                · have hd := HD.out x (by omega)
                  go_wp2
                  go_round
                  case rel => exact ⟨x - 1, rfl, by omega, by omega⟩
                  case measure => simp [intOf]; omega
              · go_wp2
                go_round
                case rel => exact ⟨k + 1, by omega, by go_num, ival (by rw [HS.out]; omega)⟩
                case measure => simp [intOf]; omega
          · have hts : zs.take k = zs := List.take_of_length_le (by have := hlen.out; omega)
            rw [hts]
            clear hts
            by_cases hg : S2.gl now want zs < 0
            · obtain ⟨e1, e2⟩ := S2.grant_noG (now := now) (want := want) (l := zs) hg
              have E1 := Lib.hid e1
              have E2 := Lib.hid e2
              clear e1 e2
              go_wp2
              go_ret2
              exact ⟨ret_two (ival E2.out.symm) (bval E1.out.symm), rfl⟩
            · obtain ⟨e1, e2⟩ := S2.grant_yes (now := now) (want := want) (l := zs) ht (by omega) (by omega)
              have E1 := Lib.hid e1
              have E2 := Lib.hid e2
              clear e1 e2
              go_wp2
              go_ret2
              exact ⟨ret_two (ival E2.out.symm) (bval E1.out.symm), rfl⟩
  · obtain ⟨e1, e2⟩ := S2.grant_noT (want := want) (l := zs) ht
    rw [e1, e2]
    clear e1 e2
    go_enter Try.func16, Try.ntmps16
    go_wp2_with ((go_at_call 23; refine (r2time_any _ _).mono ?_; rintro e w' ⟨rfl, rfl⟩))
    go_ret2
    exact ⟨rfl, rfl⟩

end Go.Proofs.Ytfllenakphcfgaa
