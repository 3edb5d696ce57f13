/-
  What isIndex, room and get of package field return; Number, Short and Octet.
-/
import Derived.Test.YtkhkmgblgonfoaaQFieldRG
import Derived.Test.YtkhkmgblgonfoaaQFieldA
namespace Go.Proofs.Ytkhkmgblgonfoaa
open Go.RowKit

theorem fisIndex_no (A : Option Addr) (bn cap : Nat) (at' : Int) (w : World) (h : at' < 0 ∨ (bn : Int) < at') : Calls Try.prog 94 #[.slice A bn cap, .int .i64 at'] w fun e w' => e = .returned (.bool false) ∧ w = w' := by
  by_cases h0 : at' < 0
  · go_enter Try.func94, Try.ntmps94
    go_wp2
    go_ret
    exact ⟨ret_bool (by simp <;> omega), rfl⟩
  · have h1 : (bn : Int) < at' := by omega
    have h2 : 0 ≤ at' := by omega
    clear h
    go_enter Try.func94, Try.ntmps94
    go_wp2
    go_ret
    exact ⟨ret_bool (by simp <;> omega), rfl⟩
theorem fisIndex_yes (A : Option Addr) (bn cap k : Nat) (w : World) (h : k ≤ bn) : Calls Try.prog 94 #[.slice A bn cap, .int .i64 k] w fun e w' => e = .returned (.bool true) ∧ w = w' := by
  go_enter Try.func94, Try.ntmps94
  go_wp2
  go_ret
  exact ⟨ret_bool (by simp <;> omega), rfl⟩

theorem froom_any (A : Option Addr) (bn cap : Nat) (zs : List Int) (at' n : Int) (w : World) (hl : zs.length = bn) (hm : bn ≤ 9223372036854775807) : Calls Try.prog 98 #[.slice A bn cap, .int .i64 at', .int .i64 n] w fun e w' => e = .returned (.int .i64 (S5.byE zs at' n)) ∧ w = w' := by
  by_cases hr : at' < 0 ∨ (bn : Int) < at'
  · have HT := Lib.hid (S5.by_range (zs := zs) (at' := at') (n := n) (.inl (by rw [hl]; exact hr)))
    have N := Lib.hid (fisIndex_no A bn cap at' w hr)
    clear hl
    go_enter Try.func98, Try.ntmps98
    go_wp2_with (go_at_call 94; refine N.out.mono ?_; rintro e w' ⟨rfl, rfl⟩)
    all_goals
      go_ret
      exact ⟨ret_int HT.out.1.symm, rfl⟩
  · obtain ⟨k, rfl⟩ := Int.eq_ofNat_of_zero_le (show 0 ≤ at' by omega)
    have Y := Lib.hid (fisIndex_yes A bn cap k w (by omega))
    by_cases hn : n < 0
    · have HT := Lib.hid (S5.by_range (zs := zs) (at' := k) (n := n) (.inr hn))
      clear hl
      go_enter Try.func98, Try.ntmps98
      go_wp2_with (go_at_call 94; refine Y.out.mono ?_; rintro e w' ⟨rfl, rfl⟩)
      go_ret
      exact ⟨ret_int HT.out.1.symm, rfl⟩
    · by_cases hc : (bn : Int) - k < n
      · have HT := Lib.hid (S5.by_cut (zs := zs) (at' := k) (n := n) (by rw [hl]; omega) (by rw [hl]; exact hc))
        have hk : (k : Int) ≤ bn := by omega
        clear hl hr
        go_enter Try.func98, Try.ntmps98
        go_wp2_with (go_at_call 94; refine Y.out.mono ?_; rintro e w' ⟨rfl, rfl⟩)
        go_ret
        exact ⟨ret_int HT.out.1.symm, rfl⟩
      · have HT := Lib.hid (S5.by_ok (zs := zs) (at' := k) (n := n) (by rw [hl]; omega) (by rw [hl]; exact hc))
        have hk : (k : Int) ≤ bn := by omega
        clear hl hr
        go_enter Try.func98, Try.ntmps98
        go_wp2_with (go_at_call 94; refine Y.out.mono ?_; rintro e w' ⟨rfl, rfl⟩)
        go_ret
        exact ⟨ret_int HT.out.1.symm, rfl⟩

set_option maxHeartbeats 1600000 in
theorem fget_err (A : Option Addr) (bn cap : Nat) (zs : List Int) (at' : Int) (k : Nat) (l : Bool) (w : World) (h : Sl w A bn cap zs) (hn : bn ≤ 100000) (he : S5.getE zs at' k ≠ 0) : Calls Try.prog 93 #[.slice A bn cap, .int .i64 at', .int .i64 (k : Int), .bool l] w (NumOut zs at' k l w) := by
  have HV := Lib.hid (show S5.getV zs at' k l = 0 ∧ S5.getN zs at' k = 0 by simp [S5.getV, S5.getN, he])
  have h0 : (S5.getE zs at' k != 0) = true := by simpa using he
  have BY := froom_any A bn cap zs at' (k : Int) w h.len (by omega)
  rw [S5.by_get] at BY
  replace BY := Lib.hid BY
  clear he
  go_enter Try.func93, Try.ntmps93
  go_wp2_with (fail)
  refine BY.out.mono ?_
  rintro e w1 ⟨rfl, rfl⟩
  go_wp2_with (fail)
  go_ret3
  exact ⟨ret_three (ival HV.out.1.symm) (ival HV.out.2.symm) rfl, Below.refl _ _⟩

/-- A number's reading that succeeds: its bytes. -/
theorem part_at {zs : List Int} {k m i : Nat} (hi : i < m) : (S5.part zs (k : Int) m)[i]? = zs[k + i]? := by
  unfold S5.part
  rw [List.getElem?_take, if_pos hi, List.getElem?_drop]; rfl

theorem orS (s : Nat) (a b : Int) (a0 : 0 ≤ a) (a1 : a < 2 ^ s) (b0 : 0 ≤ b) (b1 : b ≤ 255) (hs : s ≤ 24) : bits .or .i64 a (b * 2 ^ s) = a + b * 2 ^ s := by
  obtain ⟨m, rfl⟩ := Int.eq_ofNat_of_zero_le a0
  obtain ⟨n, rfl⟩ := Int.eq_ofNat_of_zero_le b0
  have e : ((n : Int) * 2 ^ s) = ((2 ^ s * n : Nat) : Int) := by rw [Int.natCast_mul, Int.natCast_pow, Int.mul_comm]; rfl
  rw [e]
  have hm : m < 2 ^ s := by
    have : (m : Int) < ((2 ^ s : Nat) : Int) := by rw [Int.natCast_pow]; exact a1
    omega
  have hp : 2 ^ s ≤ 16777216 := by
    have := Nat.pow_le_pow_right (n := 2) (by decide) hs
    simpa using this
  have hq : 2 ^ s * n ≤ 16777216 * 255 := Nat.mul_le_mul hp (by omega)
  have hor : m ||| 2 ^ s * n = m + 2 ^ s * n := by
    rw [Nat.or_comm, ← Nat.two_pow_add_eq_or_of_lt hm n, Nat.add_comm]
  have h1 : (BitVec.ofInt 64 ((2 ^ s * n : Nat) : Int)).toNat = 2 ^ s * n := by
    rw [BitVec.ofInt_natCast, BitVec.toNat_ofNat]; exact Nat.mod_eq_of_lt (by omega)
  have h2 : (BitVec.ofInt 64 (m : Int)).toNat = m := by
    rw [BitVec.ofInt_natCast, BitVec.toNat_ofNat]; exact Nat.mod_eq_of_lt (by omega)
  show IntKind.i64.wrap ((BitVec.ofInt 64 (m : Int) ||| BitVec.ofInt 64 ((2 ^ s * n : Nat) : Int)).toNat : Int) = _
  rw [BitVec.toNat_or, h1, h2, hor, IntKind.wrap_i64]
  omega
theorem or1 (a : Int) (a0 : 0 ≤ a) (a1 : a ≤ 255) : bits .or .i64 0 a = a := by
  have := orS 0 0 a (by decide) (by decide) a0 a1 (by decide)
  simpa using this
theorem or2 (a b : Int) (a0 : 0 ≤ a) (a1 : a ≤ 255) (b0 : 0 ≤ b) (b1 : b ≤ 255) : bits .or .i64 (bits .or .i64 0 a) (b * 256) = a + b * 256 := by
  rw [or1 a a0 a1]
  exact orS 8 a b a0 (by show a < 256; omega) b0 b1 (by decide)
theorem or4 (a b c d : Int) (a0 : 0 ≤ a) (a1 : a ≤ 255) (b0 : 0 ≤ b) (b1 : b ≤ 255) (c0 : 0 ≤ c) (c1 : c ≤ 255) (d0 : 0 ≤ d) (d1 : d ≤ 255) :
    bits .or .i64 (bits .or .i64 (bits .or .i64 (bits .or .i64 0 a) (b * 256)) (c * 65536)) (d * 16777216) = a + b * 256 + c * 65536 + d * 16777216 := by
  rw [or2 a b a0 a1 b0 b1]
  have e := orS 16 (a + b * 256) c (by omega) (by show a + b * 256 < 65536; omega) c0 c1 (by decide)
  rw [show ((2 : Int) ^ 16) = 65536 from rfl] at e
  rw [e]
  exact orS 24 (a + b * 256 + c * 65536) d (by omega) (by show a + b * 256 + c * 65536 < 16777216; omega) d0 d1 (by decide)

set_option maxHeartbeats 1600000 in
theorem fget_4l (A : Option Addr) (bn cap : Nat) (zs : List Int) (k : Nat) (w : World) (h : Sl w A bn cap zs) (hn : bn ≤ 100000) (he : S5.getE zs k 4 = 0) : Calls Try.prog 93 #[.slice A bn cap, .int .i64 k, .int .i64 4, .bool true] w (NumOut zs k 4 true w) := by
  have HV := Lib.hid (S5.getV_ok true he)
  have HP := Lib.hid (S5.part_len he)
  have hk : k + 4 ≤ bn := by
    have := HP.out.1
    unfold S5.part at this
    rw [List.length_take, List.length_drop, h.len] at this
    simp at this; omega
  have BY := froom_any A bn cap zs k 4 w h.len (by omega)
  have e4 := S5.by_get zs k 4
  rw [show ((4 : Nat) : Int) = 4 from rfl] at e4
  rw [e4, he] at BY
  replace BY := Lib.hid BY
  have HE := Lib.hid he
  obtain ⟨b, off, rfl⟩ : ∃ b off, A = some ⟨b, off, none⟩ := by
    obtain ⟨b, off, _, e, _⟩ := h.row.at (i := 0) (by omega)
    exact ⟨b, off, e⟩
  obtain ⟨z0, g0, l0, u0, d0⟩ := getR h (i := k + 0) (by omega)
  obtain ⟨z1, g1, l1, u1, d1⟩ := getR h (i := k + 1) (by omega)
  obtain ⟨z2, g2, l2, u2, d2⟩ := getR h (i := k + 2) (by omega)
  obtain ⟨z3, g3, l3, u3, d3⟩ := getR h (i := k + 3) (by omega)
  have HL := Lib.hid (S5.list4 HP.out.1 ((part_at (by decide)).trans g0) ((part_at (by decide)).trans g1) ((part_at (by decide)).trans g2) ((part_at (by decide)).trans g3))
  rw [Nat.add_zero] at d0
  clear g0 g1 g2 g3 he e4
  go_enter Try.func93, Try.ntmps93
  go_wp2_with (fail)
  refine BY.out.mono ?_
  rintro e w1 ⟨rfl, rfl⟩
  go_wp2_with (fail)
  refine wp_loop_rounds 5 ?_
  rw [rounds_succ]
  go_wp2_with ((go_at_call 89; refine (fplace_l _ _ _).mono ?_; rintro e w' ⟨rfl, rfl⟩))
  rw [rounds_succ]
  go_wp2_with ((go_at_call 89; refine (fplace_l _ _ _).mono ?_; rintro e w' ⟨rfl, rfl⟩))
  rw [rounds_succ]
  go_wp2_with ((go_at_call 89; refine (fplace_l _ _ _).mono ?_; rintro e w' ⟨rfl, rfl⟩))
  rw [rounds_succ]
  go_wp2_with ((go_at_call 89; refine (fplace_l _ _ _).mono ?_; rintro e w' ⟨rfl, rfl⟩))
  rw [rounds_succ]
  go_wp2_with (fail)
  have hfin := or4 z0 z1 z2 z3 l0 u0 l1 u1 l2 u2 l3 u3
  have hv : S5.getV zs (k : Int) 4 true = z0 + z1 * 256 + z2 * 65536 + z3 * 16777216 := by
    rw [HV.out.1, HL.out]
    show ((((0 * 256 + z3) * 256 + z2) * 256 + z1) * 256 + z0) = _
    omega
  go_ret3
  exact ⟨ret_three (ival (by rw [hv, hfin])) (ival HV.out.2.symm) (ival HE.out.symm), Below.refl _ _⟩

set_option maxHeartbeats 1600000 in
theorem fget_4b (A : Option Addr) (bn cap : Nat) (zs : List Int) (k : Nat) (w : World) (h : Sl w A bn cap zs) (hn : bn ≤ 100000) (he : S5.getE zs k 4 = 0) : Calls Try.prog 93 #[.slice A bn cap, .int .i64 k, .int .i64 4, .bool false] w (NumOut zs k 4 false w) := by
  have HV := Lib.hid (S5.getV_ok false he)
  have HP := Lib.hid (S5.part_len he)
  have hk : k + 4 ≤ bn := by
    have := HP.out.1
    unfold S5.part at this
    rw [List.length_take, List.length_drop, h.len] at this
    simp at this; omega
  have BY := froom_any A bn cap zs k 4 w h.len (by omega)
  have e4 := S5.by_get zs k 4
  rw [show ((4 : Nat) : Int) = 4 from rfl] at e4
  rw [e4, he] at BY
  replace BY := Lib.hid BY
  have HE := Lib.hid he
  obtain ⟨b, off, rfl⟩ : ∃ b off, A = some ⟨b, off, none⟩ := by
    obtain ⟨b, off, _, e, _⟩ := h.row.at (i := 0) (by omega)
    exact ⟨b, off, e⟩
  obtain ⟨z0, g0, l0, u0, d0⟩ := getR h (i := k + 0) (by omega)
  obtain ⟨z1, g1, l1, u1, d1⟩ := getR h (i := k + 1) (by omega)
  obtain ⟨z2, g2, l2, u2, d2⟩ := getR h (i := k + 2) (by omega)
  obtain ⟨z3, g3, l3, u3, d3⟩ := getR h (i := k + 3) (by omega)
  have HL := Lib.hid (S5.list4 HP.out.1 ((part_at (by decide)).trans g0) ((part_at (by decide)).trans g1) ((part_at (by decide)).trans g2) ((part_at (by decide)).trans g3))
  rw [Nat.add_zero] at d0
  clear g0 g1 g2 g3 he e4
  go_enter Try.func93, Try.ntmps93
  go_wp2_with (fail)
  refine BY.out.mono ?_
  rintro e w1 ⟨rfl, rfl⟩
  go_wp2_with (fail)
  refine wp_loop_rounds 5 ?_
  rw [rounds_succ]
  go_wp2_with ((go_at_call 89; refine (fplace_b _ _ _ (by omega) (by omega) (by omega)).mono ?_; rintro e w' ⟨rfl, rfl⟩))
  rw [rounds_succ]
  go_wp2_with ((go_at_call 89; refine (fplace_b _ _ _ (by omega) (by omega) (by omega)).mono ?_; rintro e w' ⟨rfl, rfl⟩))
  rw [rounds_succ]
  go_wp2_with ((go_at_call 89; refine (fplace_b _ _ _ (by omega) (by omega) (by omega)).mono ?_; rintro e w' ⟨rfl, rfl⟩))
  rw [rounds_succ]
  go_wp2_with ((go_at_call 89; refine (fplace_b _ _ _ (by omega) (by omega) (by omega)).mono ?_; rintro e w' ⟨rfl, rfl⟩))
  rw [rounds_succ]
  go_wp2_with (fail)
  have hfin := or4 z3 z2 z1 z0 l3 u3 l2 u2 l1 u1 l0 u0
  have hv : S5.getV zs (k : Int) 4 false = z3 + z2 * 256 + z1 * 65536 + z0 * 16777216 := by
    rw [HV.out.1, HL.out]
    show ((((0 * 256 + z0) * 256 + z1) * 256 + z2) * 256 + z3) = _
    omega
  go_ret3
  exact ⟨ret_three (ival (by rw [hv, hfin])) (ival HV.out.2.symm) (ival HE.out.symm), Below.refl _ _⟩

set_option maxHeartbeats 1600000 in
theorem fget_2l (A : Option Addr) (bn cap : Nat) (zs : List Int) (k : Nat) (w : World) (h : Sl w A bn cap zs) (hn : bn ≤ 100000) (he : S5.getE zs k 2 = 0) : Calls Try.prog 93 #[.slice A bn cap, .int .i64 k, .int .i64 2, .bool true] w (NumOut zs k 2 true w) := by
  have HV := Lib.hid (S5.getV_ok true he)
  have HP := Lib.hid (S5.part_len he)
  have hk : k + 2 ≤ bn := by
    have := HP.out.1
    unfold S5.part at this
    rw [List.length_take, List.length_drop, h.len] at this
    simp at this; omega
  have BY := froom_any A bn cap zs k 2 w h.len (by omega)
  have e4 := S5.by_get zs k 2
  rw [show ((2 : Nat) : Int) = 2 from rfl] at e4
  rw [e4, he] at BY
  replace BY := Lib.hid BY
  have HE := Lib.hid he
  obtain ⟨b, off, rfl⟩ : ∃ b off, A = some ⟨b, off, none⟩ := by
    obtain ⟨b, off, _, e, _⟩ := h.row.at (i := 0) (by omega)
    exact ⟨b, off, e⟩
  obtain ⟨z0, g0, l0, u0, d0⟩ := getR h (i := k + 0) (by omega)
  obtain ⟨z1, g1, l1, u1, d1⟩ := getR h (i := k + 1) (by omega)
  have HL := Lib.hid (S5.list2 HP.out.1 ((part_at (by decide)).trans g0) ((part_at (by decide)).trans g1))
  rw [Nat.add_zero] at d0
  clear g0 g1 he e4
  go_enter Try.func93, Try.ntmps93
  go_wp2_with (fail)
  refine BY.out.mono ?_
  rintro e w1 ⟨rfl, rfl⟩
  go_wp2_with (fail)
  refine wp_loop_rounds 3 ?_
  rw [rounds_succ]
  go_wp2_with ((go_at_call 89; refine (fplace_l _ _ _).mono ?_; rintro e w' ⟨rfl, rfl⟩))
  rw [rounds_succ]
  go_wp2_with ((go_at_call 89; refine (fplace_l _ _ _).mono ?_; rintro e w' ⟨rfl, rfl⟩))
  rw [rounds_succ]
  go_wp2_with (fail)
  have hfin := or2 z0 z1 l0 u0 l1 u1
  have hv : S5.getV zs (k : Int) 2 true = z0 + z1 * 256 := by
    rw [HV.out.1, HL.out]
    show ((0 * 256 + z1) * 256 + z0) = _
    omega
  go_ret3
  exact ⟨ret_three (ival (by rw [hv, hfin])) (ival HV.out.2.symm) (ival HE.out.symm), Below.refl _ _⟩

set_option maxHeartbeats 1600000 in
theorem fget_2b (A : Option Addr) (bn cap : Nat) (zs : List Int) (k : Nat) (w : World) (h : Sl w A bn cap zs) (hn : bn ≤ 100000) (he : S5.getE zs k 2 = 0) : Calls Try.prog 93 #[.slice A bn cap, .int .i64 k, .int .i64 2, .bool false] w (NumOut zs k 2 false w) := by
  have HV := Lib.hid (S5.getV_ok false he)
  have HP := Lib.hid (S5.part_len he)
  have hk : k + 2 ≤ bn := by
    have := HP.out.1
    unfold S5.part at this
    rw [List.length_take, List.length_drop, h.len] at this
    simp at this; omega
  have BY := froom_any A bn cap zs k 2 w h.len (by omega)
  have e4 := S5.by_get zs k 2
  rw [show ((2 : Nat) : Int) = 2 from rfl] at e4
  rw [e4, he] at BY
  replace BY := Lib.hid BY
  have HE := Lib.hid he
  obtain ⟨b, off, rfl⟩ : ∃ b off, A = some ⟨b, off, none⟩ := by
    obtain ⟨b, off, _, e, _⟩ := h.row.at (i := 0) (by omega)
    exact ⟨b, off, e⟩
  obtain ⟨z0, g0, l0, u0, d0⟩ := getR h (i := k + 0) (by omega)
  obtain ⟨z1, g1, l1, u1, d1⟩ := getR h (i := k + 1) (by omega)
  have HL := Lib.hid (S5.list2 HP.out.1 ((part_at (by decide)).trans g0) ((part_at (by decide)).trans g1))
  rw [Nat.add_zero] at d0
  clear g0 g1 he e4
  go_enter Try.func93, Try.ntmps93
  go_wp2_with (fail)
  refine BY.out.mono ?_
  rintro e w1 ⟨rfl, rfl⟩
  go_wp2_with (fail)
  refine wp_loop_rounds 3 ?_
  rw [rounds_succ]
  go_wp2_with ((go_at_call 89; refine (fplace_b _ _ _ (by omega) (by omega) (by omega)).mono ?_; rintro e w' ⟨rfl, rfl⟩))
  rw [rounds_succ]
  go_wp2_with ((go_at_call 89; refine (fplace_b _ _ _ (by omega) (by omega) (by omega)).mono ?_; rintro e w' ⟨rfl, rfl⟩))
  rw [rounds_succ]
  go_wp2_with (fail)
  have hfin := or2 z1 z0 l1 u1 l0 u0
  have hv : S5.getV zs (k : Int) 2 false = z1 + z0 * 256 := by
    rw [HV.out.1, HL.out]
    show ((0 * 256 + z0) * 256 + z1) = _
    omega
  go_ret3
  exact ⟨ret_three (ival (by rw [hv, hfin])) (ival HV.out.2.symm) (ival HE.out.symm), Below.refl _ _⟩

set_option maxHeartbeats 1600000 in
theorem fget_1b (A : Option Addr) (bn cap : Nat) (zs : List Int) (k : Nat) (w : World) (h : Sl w A bn cap zs) (hn : bn ≤ 100000) (he : S5.getE zs k 1 = 0) : Calls Try.prog 93 #[.slice A bn cap, .int .i64 k, .int .i64 1, .bool false] w (NumOut zs k 1 false w) := by
  have HV := Lib.hid (S5.getV_ok false he)
  have HP := Lib.hid (S5.part_len he)
  have hk : k + 1 ≤ bn := by
    have := HP.out.1
    unfold S5.part at this
    rw [List.length_take, List.length_drop, h.len] at this
    simp at this; omega
  have BY := froom_any A bn cap zs k 1 w h.len (by omega)
  have e4 := S5.by_get zs k 1
  rw [show ((1 : Nat) : Int) = 1 from rfl] at e4
  rw [e4, he] at BY
  replace BY := Lib.hid BY
  have HE := Lib.hid he
  obtain ⟨b, off, rfl⟩ : ∃ b off, A = some ⟨b, off, none⟩ := by
    obtain ⟨b, off, _, e, _⟩ := h.row.at (i := 0) (by omega)
    exact ⟨b, off, e⟩
  obtain ⟨z0, g0, l0, u0, d0⟩ := getR h (i := k + 0) (by omega)
  have HL := Lib.hid (S5.list1 HP.out.1 ((part_at (by decide)).trans g0))
  rw [Nat.add_zero] at d0
  clear g0 he e4
  go_enter Try.func93, Try.ntmps93
  go_wp2_with (fail)
  refine BY.out.mono ?_
  rintro e w1 ⟨rfl, rfl⟩
  go_wp2_with (fail)
  refine wp_loop_rounds 2 ?_
  rw [rounds_succ]
  go_wp2_with ((go_at_call 89; refine (fplace_b _ _ _ (by omega) (by omega) (by omega)).mono ?_; rintro e w' ⟨rfl, rfl⟩))
  rw [rounds_succ]
  go_wp2_with (fail)
  have hfin := or1 z0 l0 u0
  have hv : S5.getV zs (k : Int) 1 false = z0 := by
    rw [HV.out.1, HL.out]
    show (0 * 256 + z0) = _
    omega
  go_ret3
  exact ⟨ret_three (ival (by rw [hv, hfin])) (ival HV.out.2.symm) (ival HE.out.symm), Below.refl _ _⟩

theorem fnumber_any (A : Option Addr) (bn cap : Nat) (zs : List Int) (at' : Int) (l : Bool) (w : World) (h : Sl w A bn cap zs) (hn : bn ≤ 100000) : Calls Try.prog 75 #[.slice A bn cap, .int .i64 at', .bool l] w (NumOut zs at' 4 l w) := by
  have G : Calls Try.prog 93 #[.slice A bn cap, .int .i64 at', .int .i64 4, .bool l] w (NumOut zs at' 4 l w) := by
    by_cases he : S5.getE zs at' 4 = 0
    · have h0 := (S5.part_len he).2
      obtain ⟨k, rfl⟩ := Int.eq_ofNat_of_zero_le h0
      cases l
      · exact fget_4b A bn cap zs k w h hn he
      · exact fget_4l A bn cap zs k w h hn he
    · exact fget_err A bn cap zs at' 4 l w h hn he
  replace G := Lib.hid G
  go_enter Try.func75, Try.ntmps75
  go_wp2_with (fail)
  refine G.out.mono ?_
  rintro e w1 ⟨rfl, hb1⟩
  go_wp2_with (fail)
  go_ret3
  exact ⟨rfl, hb1⟩

theorem fshort_any (A : Option Addr) (bn cap : Nat) (zs : List Int) (at' : Int) (l : Bool) (w : World) (h : Sl w A bn cap zs) (hn : bn ≤ 100000) : Calls Try.prog 84 #[.slice A bn cap, .int .i64 at', .bool l] w (NumOut zs at' 2 l w) := by
  have G : Calls Try.prog 93 #[.slice A bn cap, .int .i64 at', .int .i64 2, .bool l] w (NumOut zs at' 2 l w) := by
    by_cases he : S5.getE zs at' 2 = 0
    · have h0 := (S5.part_len he).2
      obtain ⟨k, rfl⟩ := Int.eq_ofNat_of_zero_le h0
      cases l
      · exact fget_2b A bn cap zs k w h hn he
      · exact fget_2l A bn cap zs k w h hn he
    · exact fget_err A bn cap zs at' 2 l w h hn he
  replace G := Lib.hid G
  go_enter Try.func84, Try.ntmps84
  go_wp2_with (fail)
  refine G.out.mono ?_
  rintro e w1 ⟨rfl, hb1⟩
  go_wp2_with (fail)
  go_ret3
  exact ⟨rfl, hb1⟩

theorem foctet_any (A : Option Addr) (bn cap : Nat) (zs : List Int) (at' : Int) (w : World) (h : Sl w A bn cap zs) (hn : bn ≤ 100000) : Calls Try.prog 76 #[.slice A bn cap, .int .i64 at'] w (NumOut zs at' 1 false w) := by
  have G : Calls Try.prog 93 #[.slice A bn cap, .int .i64 at', .int .i64 1, .bool false] w (NumOut zs at' 1 false w) := by
    by_cases he : S5.getE zs at' 1 = 0
    · have h0 := (S5.part_len he).2
      obtain ⟨k, rfl⟩ := Int.eq_ofNat_of_zero_le h0
      exact fget_1b A bn cap zs k w h hn he
    · exact fget_err A bn cap zs at' 1 false w h hn he
  replace G := Lib.hid G
  go_enter Try.func76, Try.ntmps76
  go_wp2_with (fail)
  refine G.out.mono ?_
  rintro e w1 ⟨rfl, hb1⟩
  go_wp2_with (fail)
  go_ret3
  exact ⟨rfl, hb1⟩

end Go.Proofs.Ytkhkmgblgonfoaa
