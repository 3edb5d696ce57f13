/-
  What Put, Read and Is of package header return.
-/
import Derived.Test.YtkhkmgblgonfoaaQHdR
namespace Go.Proofs.Ytkhkmgblgonfoaa
open Go.RowKit
set_option maxRecDepth 100000

theorem hisType_any (n : Int) (w : World) : Calls Try.prog 66 #[.int .i64 n] w fun e w' => e = .returned (.bool (S8.okK n)) ∧ w = w' := by
  have hways : n < 1 ∨ 1 ≤ n ∧ 10 < n ∨ 1 ≤ n ∧ n ≤ 10 := by omega
  rcases hways with h | ⟨h, h'⟩ | ⟨h, h'⟩
  · have H := Lib.hid (S8.okK_no (.inl h))
    go_enter Try.func66, Try.ntmps66
    go_wp2
    go_ret
    exact ⟨ret_bool (by rw [H.out] <;> simp <;> omega), rfl⟩
  · have H := Lib.hid (S8.okK_no (.inr h'))
    go_enter Try.func66, Try.ntmps66
    go_wp2
    go_ret
    exact ⟨ret_bool (by rw [H.out] <;> simp <;> omega), rfl⟩
  · have H := Lib.hid (S8.okK_iff.2 ⟨h, h'⟩)
    go_enter Try.func66, Try.ntmps66
    go_wp2
    go_ret
    exact ⟨ret_bool (by rw [H.out] <;> simp <;> omega), rfl⟩

theorem hput_any (n : Int) (l : Bool) (w : World) : Calls Try.prog 25 #[.int .i64 n, .bool l] w (BytesOut (S8.put n l) w) := by
  rcases hk : S8.okK n
  · have HP := Lib.hid (show S8.put n l = [] by unfold S8.put; rw [hk]; rfl)
    go_enter Try.func25, Try.ntmps25
    go_wp2_with (first | (go_at_call 66; refine (hisType_any _ _).mono ?_; rintro e w' ⟨rfl, rfl⟩))
    go_ret
    exact ⟨none, 0, 0, rfl, by rw [HP.out]; exact Sl.nil _, Below.refl _ _, Fresh.nil _⟩
  · obtain ⟨h, h'⟩ := S8.okK_iff.1 hk
    have HP := Lib.hid (S8.put_ok ⟨h, h'⟩ l)
    have HR := Lib.hid (S8.put_range n l)
    rw [HP.out] at HR
    cases l
    · have e : S8.put n false = [4, 2 * n] := by rw [HP.out]; simp [S8.ord]
      rw [← HP.out, e] at HR
      have BO := Lib.hid (built_out w w [4, 2 * n] HR.out (by simp) (Below.refl _ _))
      rw [e]
      clear HP e
      go_enter Try.func25, Try.ntmps25
      go_wp2_with (first | (go_at_call 66; refine (hisType_any _ _).mono ?_; rintro e w' ⟨rfl, rfl⟩))
      go_ret
      exact BO.out
    · have e : S8.put n true = [4, 2 * n + 1] := by rw [HP.out]; simp [S8.ord]
      rw [← HP.out, e] at HR
      have BO := Lib.hid (built_out w w [4, 2 * n + 1] HR.out (by simp) (Below.refl _ _))
      rw [e]
      clear HP e
      go_enter Try.func25, Try.ntmps25
      go_wp2_with (first | (go_at_call 66; refine (hisType_any _ _).mono ?_; rintro e w' ⟨rfl, rfl⟩))
      go_ret
      exact BO.out

theorem hread_any (A : Option Addr) (n cap : Nat) (zs : List Int) (w : World) (h : Sl w A n cap zs) (hn : n ≤ 100000) : Calls Try.prog 91 #[.slice A n cap] w (ReadOut zs w) := by
  by_cases h2 : n < 2
  · have HX := Lib.hid (S8.rd_short (zs := zs) (by rw [h.len]; exact h2))
    have h2' : (n : Int) < 2 := by omega
    clear h
    go_enter Try.func91, Try.ntmps91
    go_wp2_with (first | (go_at_call 66; refine (hisType_any _ _).mono ?_; rintro e w' ⟨rfl, rfl⟩))
    go_ret3
    exact read_out HX.out (Below.refl _ _)
  · obtain ⟨b, off, x, y, r, rfl, hz, hx, hy, dx, dy⟩ := first_two h (by omega)
    have h2' : ¬ (n : Int) < 2 := by omega
    have lx := cell_lt dx
    have ly := cell_lt dy
    clear h h2
    by_cases hv : x = 4
    · subst hv
      rcases hk : S8.okK (y / 2)
      · have hk' : y / 2 < 1 ∨ 10 < y / 2 := by
          have c : ¬ (1 ≤ y / 2 ∧ y / 2 ≤ 10) := fun g => by rw [S8.okK_iff.2 g] at hk; cases hk
          omega
        have HX := Lib.hid (S8.rd_type hz hk')
        clear hz
        go_enter Try.func91, Try.ntmps91
        go_wp2_with (first | (go_at_call 66; refine (hisType_any _ _).mono ?_; rintro e w' ⟨rfl, rfl⟩))
        all_goals
          go_ret3
          exact read_out HX.out (Below.refl _ _)
      · have HX := Lib.hid (S8.rd_ok hz (S8.okK_iff.1 hk))
        clear hz
        go_enter Try.func91, Try.ntmps91
        go_wp2_with (first | (go_at_call 66; refine (hisType_any _ _).mono ?_; rintro e w' ⟨rfl, rfl⟩))
        all_goals
          go_quiet (fail)
          go_wp2_with (fail)
          go_ret3
          exact read_out HX.out (by repeat (first | exact Below.refl _ _ | apply below_drewN' | apply Below.drew))
    · have HX := Lib.hid (S8.rd_version hz hv)
      have hv' : (x != 4) = true := by simpa using hv
      clear hz
      go_enter Try.func91, Try.ntmps91
      go_wp2_with (first | (go_at_call 66; refine (hisType_any _ _).mono ?_; rintro e w' ⟨rfl, rfl⟩))
      go_ret3
      exact read_out HX.out (Below.refl _ _)

theorem hisOneOf_any (T : Int) (K : Option Addr) (kn kcap : Nat) (ks : List Int) (w : World) (hK : RowK .i64 w K kn ks) (hkn : kn ≤ 1000) : Calls Try.prog 92 #[.int .i64 T, .slice K kn kcap] w fun e w' => e = .returned (.bool (decide (T ∈ ks))) ∧ w = w' := by
  have hl := hK.len
  go_enter Try.func92, Try.ntmps92
  go_wp2
  go_loop [9] (fun i => ∃ k : Nat, k ≤ kn ∧ i = .int .i64 k ∧ ∀ z ∈ ks.take k, z ≠ T) (fun i => kn - (intOf i).toNat)
  case atStart => exact ⟨0, by omega, rfl, by simp⟩
  case round =>
    obtain ⟨k, hk, rfl, hall⟩ := hrel
    by_cases hlt : k < kn
    · obtain ⟨b, off, z, hA, hz, _, _, hc⟩ := hK.at hlt
      subst hA
      have hs := Lib.hid (show ks.take (k + 1) = ks.take k ++ [z] by rw [List.take_add_one, hz]; rfl)
      have hmem := Lib.hid (List.mem_of_getElem? hz)
      have hkk : (k : Int) < (kn : Int) := by omega
      have hcl := cell_lt hc
      replace hall := Lib.hid hall
      clear hz
      by_cases hq : z = T
      · have HY := Lib.hid (show decide (T ∈ ks) = true from decide_eq_true (by rw [← hq]; exact hmem.out))
        subst hq
        go_wp2_with (fail)
        go_ret
        exact ⟨ret_bool HY.out.symm, rfl⟩
      · have hqb : (z == T) = false := by simpa using hq
        go_wp2_with (fail)
        go_round
        case rel => exact ⟨k + 1, by omega, by go_num, by rw [hs.out]; exact ne_snoc hall.out hq⟩
        case measure => simp [intOf]; omega
    · have HN := Lib.hid (show decide (T ∈ ks) = false from decide_eq_false (fun g => hall T (by rw [List.take_of_length_le (by omega)]; exact g) rfl))
      have hkk : ¬ (k : Int) < (kn : Int) := by omega
      go_wp2_with (fail)
      go_ret
      exact ⟨ret_bool HN.out.symm, rfl⟩

theorem his_any (A : Option Addr) (n cap : Nat) (zs : List Int) (K : Option Addr) (kn kcap : Nat) (ks : List Int) (w : World) (h : Sl w A n cap zs) (hn : n ≤ 100000) (hK : RowK .i64 w K kn ks) (hkn : kn ≤ 1000) : Calls Try.prog 72 #[.slice A n cap, .slice K kn kcap] w (IsOut zs ks w) := by
  have RC := Lib.hid (hread_any A n cap zs w h hn)
  unfold ReadOut at RC
  by_cases he : S8.rdE zs = 0
  · rw [he] at RC
    obtain ⟨T, hT⟩ : ∃ T, T = S8.rdK zs := ⟨_, rfl⟩
    have hyes := Lib.hid (fun (g : T ∈ ks) => S8.is_yes (ks := ks) he (by rw [← hT]; exact g))
    have hno := Lib.hid (fun (g : T ∉ ks) => S8.is_no (ks := ks) he (by rw [← hT]; exact g))
    obtain ⟨L, hL⟩ : ∃ L, L = S8.rdL zs := ⟨_, rfl⟩
    rw [← hT, ← hL] at RC
    rw [← hL] at hyes
    clear hT hL he h
    obtain ⟨d, hd⟩ : ∃ d, d = decide (T ∈ ks) := ⟨_, rfl⟩
    have HD := Lib.hid hd
    clear hd
    go_enter Try.func72, Try.ntmps72
    go_wp2_with (fail)
    refine RC.out.mono ?_
    rintro e w1 ⟨rfl, hb1⟩
    have OC := Lib.hid (hisOneOf_any T K kn kcap ks w1 (hK.keep hb1) hkn)
    rw [← HD.out] at OC
    have B1 := Lib.hid hb1
    clear hK hb1
    cases d
    · go_wp2_with (first | (go_at_call 92; refine OC.out.mono ?_; rintro e w' ⟨rfl, rfl⟩))
      go_ret2
      exact is_out (hno.out (of_decide_eq_false HD.out.symm)) B1.out
    · go_wp2_with (first | (go_at_call 92; refine OC.out.mono ?_; rintro e w' ⟨rfl, rfl⟩))
      go_ret2
      exact is_out (hyes.out (of_decide_eq_true HD.out.symm)) B1.out
  · have HX := Lib.hid (S8.is_err he ks)
    have he2 : (S8.rdE zs != 0) = true := by simpa using he
    clear he h hK
    go_enter Try.func72, Try.ntmps72
    go_wp2_with (fail)
    refine RC.out.mono ?_
    rintro e w1 ⟨rfl, hb1⟩
    go_wp2_with (fail)
    go_ret2
    exact is_out HX.out hb1

end Go.Proofs.Ytkhkmgblgonfoaa
