/-
  What the functions of package principal return.
-/
import Derived.Test.YtkhkmgblgonfoaaQBase
import Derived.Test.YtkhkmgblgonfoaaQPlainA
import Derived.Test.YtkhkmgblgonfoaaShelf
namespace Go.Proofs.Ytkhkmgblgonfoaa
open Go.RowKit

theorem validByte_any (c : UInt8) (w : World) :
    Calls Try.prog 88 #[.int .u8 (c.toNat : Int)] w fun e w' => e = .returned (.bool (S1.okB [64] c)) ∧ w = w' := by
  go_enter Try.func88, Try.ntmps88
  go_wp2
  · go_ret
    exact ⟨ret_bool (S1.okB_yes (by assumption) (by assumption)).symm, rfl⟩
  · go_ret
    exact ⟨ret_bool (S1.okB_hi (by assumption)).symm, rfl⟩
  · go_ret
    exact ⟨ret_bool (S1.okB_lo (by assumption)).symm, rfl⟩

theorem validInstance_any (s : ByteArray) (w : World) (hs : s.size ≤ maxLen) :
    Calls Try.prog 64 #[.string s] w fun e w' => e = .returned (.bool (S1.text [64] s.data.toList)) ∧ w = w' := by
  unfold maxLen at hs
  by_cases hl : 39 < (s.size : Int)
  · go_enter Try.func64, Try.ntmps64
    go_wp2
    go_ret
    exact ⟨ret_bool (S1.text_long _ _ hl).symm, rfl⟩
  · go_enter Try.func64, Try.ntmps64
    go_wp2
    go_loop [3, 9] (fun t i => ∃ k : Nat, k ≤ s.size ∧ i = .int .i64 k ∧ (s.data.toList.take k).all (S1.okB [64]) = true) (fun _ i => s.size - (intOf i).toNat)
    case atStart => exact ⟨0, Nat.zero_le _, rfl, by simp⟩
    case round =>
      obtain ⟨k, hk, rfl, hall⟩ := hrel
      by_cases hlt : k < s.size
      · have HS := Lib.hid (S1.all_snoc (S1.okB [64]) s k hlt)
        have HF := Lib.hid (S1.all_false (S1.okB [64]) s k hlt)
        have HA := Lib.hid hall
        clear hall
        go_wp2_with (go_at_call 88; refine (validByte_any _ _).mono ?_; rintro e w' ⟨rfl, rfl⟩)
        · have hb : (!S1.okB [64] s[k]) = true := by assumption
          go_ret
          exact ⟨ret_bool (S1.text_bad _ _ (HF.out (by simpa using hb))).symm, rfl⟩
        · have hb : (!S1.okB [64] s[k]) = false := by assumption
          go_round
          case rel => exact ⟨k + 1, by omega, by go_num, by rw [HS.out, HA.out]; simpa using hb⟩
          case measure => simp [intOf]; omega
      · go_wp2
        go_ret
        exact ⟨ret_bool (by rw [S1.text_all _ _ (S1.all_end _ _ _ (by omega) hall)]; simp; omega), rfl⟩

theorem validRealm_any (s : ByteArray) (w : World) (hs : s.size ≤ maxLen) :
    Calls Try.prog 86 #[.string s] w fun e w' => e = .returned (.bool (S1.vRealm s.data.toList)) ∧ w = w' := by
  rcases S1.ba_cases s with rfl | ⟨h1, h2, h3, h4⟩
  · go_enter Try.func86, Try.ntmps86
    go_wp2
    go_ret
    exact ⟨rfl, rfl⟩
  · go_enter Try.func86, Try.ntmps86
    go_wp2_with (go_at_call 64; refine (validInstance_any _ _ hs).mono ?_; rintro e w' ⟨rfl, rfl⟩)
    go_ret
    exact ⟨ret_bool (by simp only [S1.vRealm, h3, Bool.not_false, Bool.true_and]), rfl⟩

theorem validName_any (s : ByteArray) (w : World) (hs : s.size ≤ maxLen) :
    Calls Try.prog 63 #[.string s] w fun e w' => e = .returned (.bool (S1.vName s.data.toList)) ∧ w = w' := by
  rcases S1.ba_cases s with rfl | ⟨h1, h2, h3, h4⟩
  · go_enter Try.func63, Try.ntmps63
    go_wp2
    go_ret
    exact ⟨rfl, rfl⟩
  · by_cases hi : S1.text [64] s.data.toList = true
    · go_enter Try.func63, Try.ntmps63
      go_wp2_with (first | (go_at_call 64; refine (validInstance_any _ _ hs).mono ?_; rintro e w' ⟨rfl, rfl⟩) | (go_at_call 87; refine (Try.strings_Contains_one _ 46 _).mono ?_; rintro e w' ⟨rfl, rfl⟩))
      go_ret
      exact ⟨ret_bool (by rw [S1.vName_eq, h3, hi, S1.idx_mem]; rfl), rfl⟩
    · have hi' : S1.text [64] s.data.toList = false := by simpa using hi
      go_enter Try.func63, Try.ntmps63
      go_wp2_with (first | (go_at_call 64; refine (validInstance_any _ _ hs).mono ?_; rintro e w' ⟨rfl, rfl⟩) | (go_at_call 87; refine (Try.strings_Contains_one _ 46 _).mono ?_; rintro e w' ⟨rfl, rfl⟩))
      go_ret
      exact ⟨ret_bool (by rw [S1.vName_eq, h3, hi']; rfl), rfl⟩

set_option maxHeartbeats 400000 in
theorem reftext_any (s bad : ByteArray) (w : World) (hs : s.size ≤ maxLen) (hb : bad.size ≤ maxLen) :
    Calls Try.prog 70 #[.string s, .string bad] w fun e w' => e = .returned (.bool (S1.text bad.data.toList s.data.toList)) ∧ ∃ n, w' = w.drewN n := by
  unfold maxLen at hs hb
  go_enter Try.func70, Try.ntmps70
  go_wp2
  go_loopw [5] (fun i wr => ∃ k : Nat, k ≤ s.size ∧ i = .int .i64 k ∧ (s.data.toList.take k).all (S1.okB bad.data.toList) = true ∧ ∃ n, wr = w.drewN n) (fun i _ => s.size - (intOf i).toNat)
  case atStart => exact ⟨0, Nat.zero_le _, rfl, by simp, 0, rfl⟩
  case round =>
    obtain ⟨k, hk, rfl, hall, n, rfl⟩ := hrel
    by_cases hlt : k < s.size
    · have HS := Lib.hid (S1.all_snoc (S1.okB bad.data.toList) s k hlt)
      have HF := Lib.hid (S1.all_false (S1.okB bad.data.toList) s k hlt)
      have HA := Lib.hid hall
      clear hall
      by_cases h33 : (s[k].toNat : Int) < 33
      · go_wp2
        go_ret
        exact ⟨ret_bool (S1.text_bad _ _ (HF.out (S1.okB_lo h33))).symm, n, rfl⟩
      · by_cases h126 : 126 < (s[k].toNat : Int)
        · go_wp2
          go_ret
          exact ⟨ret_bool (S1.text_bad _ _ (HF.out (S1.okB_hi h126))).symm, n, rfl⟩
        · have HM := Lib.hid (S1.okB_mid (bad := bad.data.toList) (c := s[k]) (by omega) (by omega))
          go_wp2
          go_loopw [6] (fun i wr => ∃ j : Nat, j ≤ bad.size ∧ i = .int .i64 j ∧ (bad.data.toList.take j).contains s[k] = false ∧ ∃ n, wr = w.drewN n) (fun i _ => bad.size - (intOf i).toNat)
          case atStart => exact ⟨0, Nat.zero_le _, rfl, by simp, n, rfl⟩
          case round =>
            obtain ⟨j, hj, rfl, hno, m, rfl⟩ := hrel
            by_cases hjt : j < bad.size
            · have HC := Lib.hid (S1.contains_snoc bad s[k] j hjt)
              have HI := Lib.hid (S1.contains_hit bad s[k] j hjt)
              have HN := Lib.hid hno
              have HE := Lib.hid (S1.byte_eq s[k] bad[j])
              clear hno
              have i1 : (0 : Int) ≤ (k : Int) := by omega
              have i2 : (k : Int) < (s.size : Int) := by omega
              have i3 : (0 : Int) ≤ (j : Int) := by omega
              have i4 : (j : Int) < (bad.size : Int) := by omega
              go_wp2
              go_quiet (fail)
              go_wp2
              · have e : ((s[k].toNat : Int) == (bad[j].toNat : Int)) = true := by assumption
                go_ret
                exact ⟨ret_bool (S1.text_bad _ _ (HF.out (by rw [HM.out, HI.out (by simpa [HE.out] using e)]; rfl))).symm, qt⟩
              · have e : ((s[k].toNat : Int) == (bad[j].toNat : Int)) = false := by assumption
                go_roundw
                case rel => exact ⟨j + 1, by omega, by go_num, by rw [HC.out, HN.out, ← HE.out, e]; rfl, _, rfl⟩
                case measure => simp [intOf]; omega
            · have HC := Lib.hid (S1.contains_end bad s[k] j (by omega) hno)
              clear hno
              go_wp2
              go_roundw
              case rel => exact ⟨k + 1, by omega, by go_num, by rw [HS.out, HA.out, HM.out, HC.out]; rfl, _, rfl⟩
              case measure => simp [intOf]; omega
    · go_wp2
      go_ret
      exact ⟨ret_bool (by rw [S1.text_all _ _ (S1.all_end _ _ _ (by omega) hall)]; simp; omega), n, rfl⟩

theorem refName_any (s : ByteArray) (w : World) (hs : s.size ≤ maxLen) :
    Calls Try.prog 31 #[.string s] w fun e w' => e = .returned (.bool (S1.vName s.data.toList)) ∧ ∃ n, w' = w.drewN n := by
  rcases S1.ba_cases s with rfl | ⟨h1, h2, h3, h4⟩
  · go_enter Try.func31, Try.ntmps31
    go_wp2
    go_ret
    exact ⟨rfl, 0, rfl⟩
  · have hz : (0 : Int) < (s.size : Int) := by omega
    go_enter Try.func31, Try.ntmps31
    go_wp2_with (go_at_call 70; refine (reftext_any _ ⟨#[46, 64]⟩ _ hs (by decide)).mono ?_; rintro e w' ⟨rfl, n, rfl⟩)
    go_ret
    exact ⟨ret_bool (by simp only [S1.vName, h3, Bool.not_false, Bool.true_and]), n, rfl⟩

theorem refInst_any (s : ByteArray) (w : World) (hs : s.size ≤ maxLen) :
    Calls Try.prog 32 #[.string s] w fun e w' => e = .returned (.bool (S1.text [64] s.data.toList)) ∧ ∃ n, w' = w.drewN n := by
  go_enter Try.func32, Try.ntmps32
  go_wp2_with (go_at_call 70; refine (reftext_any _ ⟨#[64]⟩ _ hs (by decide)).mono ?_; rintro e w' ⟨rfl, n, rfl⟩)
  go_ret
  exact ⟨rfl, n, rfl⟩

theorem refRealm_any (s : ByteArray) (w : World) (hs : s.size ≤ maxLen) :
    Calls Try.prog 69 #[.string s] w fun e w' => e = .returned (.bool (S1.vRealm s.data.toList)) ∧ ∃ n, w' = w.drewN n := by
  rcases S1.ba_cases s with rfl | ⟨h1, h2, h3, h4⟩
  · go_enter Try.func69, Try.ntmps69
    go_wp2
    go_ret
    exact ⟨rfl, 0, rfl⟩
  · have hz : (0 : Int) < (s.size : Int) := by omega
    go_enter Try.func69, Try.ntmps69
    go_wp2_with (go_at_call 70; refine (reftext_any _ ⟨#[64]⟩ _ hs (by decide)).mono ?_; rintro e w' ⟨rfl, n, rfl⟩)
    go_ret
    exact ⟨ret_bool (by simp only [S1.vRealm, h3, Bool.not_false, Bool.true_and]), n, rfl⟩

theorem valid_any (a b c : ByteArray) (w : World) (ha : a.size ≤ maxLen) (hb : b.size ≤ maxLen) (hc : c.size ≤ maxLen) :
    Calls Try.prog 62 #[.agg #[.string a, .string b, .string c]] w fun e w' => e = .returned (.bool (S1.vP a.data.toList b.data.toList c.data.toList)) ∧ Below w.heap.size w w' := by
  rcases h1 : S1.vName a.data.toList <;> rcases h2 : S1.text [64] b.data.toList
  all_goals
    have HV := Lib.hid (S1.vP_eq a.data.toList b.data.toList c.data.toList)
    rw [h1, h2] at HV
    go_enter Try.func62, Try.ntmps62
    go_wp2_with (first | (go_at_call 63; refine (validName_any _ _ ha).mono ?_; rintro e w' ⟨rfl, rfl⟩) | (go_at_call 64; refine (validInstance_any _ _ hb).mono ?_; rintro e w' ⟨rfl, rfl⟩) | (go_at_call 86; refine (validRealm_any _ _ hc).mono ?_; rintro e w' ⟨rfl, rfl⟩))
    go_ret
    exact ⟨ret_bool HV.out.symm, (Below.refl _ _).alloc (Nat.le_refl _) _⟩

theorem refValid_any (a b c : ByteArray) (w : World) (ha : a.size ≤ maxLen) (hb : b.size ≤ maxLen) (hc : c.size ≤ maxLen) :
    Calls Try.prog 30 #[.agg #[.string a, .string b, .string c]] w fun e w' => e = .returned (.bool (S1.vP a.data.toList b.data.toList c.data.toList)) ∧ Below w.heap.size w w' := by
  rcases h1 : S1.vName a.data.toList <;> rcases h2 : S1.text [64] b.data.toList
  all_goals
    have HV := Lib.hid (S1.vP_eq a.data.toList b.data.toList c.data.toList)
    rw [h1, h2] at HV
    go_enter Try.func30, Try.ntmps30
    go_wp2_with (first | (go_at_call 31; refine (refName_any _ _ ha).mono ?_; rintro e w' ⟨rfl, n1, rfl⟩) | (go_at_call 32; refine (refInst_any _ _ hb).mono ?_; rintro e w' ⟨rfl, n2, rfl⟩) | (go_at_call 69; refine (refRealm_any _ _ hc).mono ?_; rintro e w' ⟨rfl, n3, rfl⟩))
    go_ret
    refine ⟨ret_bool HV.out.symm, ?_⟩
    repeat (first | exact Below.refl _ _ | exact (Below.refl _ _).alloc (Nat.le_refl _) _ | apply below_drewN' | apply Below.drew)


end Go.Proofs.Ytkhkmgblgonfoaa
