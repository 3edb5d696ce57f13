/-
  What Bytes, Number, Short and Octet of the document's answer for fields return.
-/
import Derived.Test.YtkhkmgblgonfoaaGreatQFieldR
namespace Go.Proofs.YtkhkmgblgonfoaaGreat
open Go.RowKit

theorem ori (a b : Int) (a0 : 0 ≤ a) (a1 : a ≤ 16777215) (b0 : 0 ≤ b) (b1 : b ≤ 255) : bits .or .i64 (a * 256) b = a * 256 + b := by
  obtain ⟨m, rfl⟩ := Int.eq_ofNat_of_zero_le a0
  obtain ⟨n, rfl⟩ := Int.eq_ofNat_of_zero_le b0
  have e : ((m : Int) * 256) = ((m * 256 : Nat) : Int) := by omega
  rw [e]
  have hor : m * 256 ||| n = m * 256 + n := by
    have := Nat.two_pow_add_eq_or_of_lt (i := 8) (b := n) (by omega) m
    rw [Nat.mul_comm m 256]
    exact this.symm
  have h1 : (BitVec.ofInt 64 ((m * 256 : Nat) : Int)).toNat = m * 256 := by
    rw [BitVec.ofInt_natCast, BitVec.toNat_ofNat]; exact Nat.mod_eq_of_lt (by omega)
  have h2 : (BitVec.ofInt 64 (n : Int)).toNat = n := by
    rw [BitVec.ofInt_natCast, BitVec.toNat_ofNat]; exact Nat.mod_eq_of_lt (by omega)
  show IntKind.i64.wrap ((BitVec.ofInt 64 ((m * 256 : Nat) : Int) ||| BitVec.ofInt 64 (n : Int)).toNat : Int) = _
  rw [BitVec.toNat_or, h1, h2, hor, IntKind.wrap_i64]
  omega
theorem ori0 (b : Int) (b0 : 0 ≤ b) (b1 : b ≤ 255) : bits .or .i64 0 b = b := by
  have := ori 0 b (by decide) (by decide) b0 b1
  simpa using this

/-- What Bytes returns. -/
def BytesAt (zs : List Int) (at' n : Int) (w : World) (e : Ending) (w' : World) : Prop :=
  ∃ A m cap, e = .returned (.tuple #[.slice A m cap, .int .i64 (S5.byN zs at' n), .int .i64 (S5.byE zs at' n)]) ∧ Sl w' A m cap (S5.byS zs at' n) ∧ Below w.heap.size w w' ∧ Fresh w.heap.size A

set_option maxHeartbeats 1600000 in
theorem r5bytes_any (A : Option Addr) (bn cap : Nat) (zs : List Int) (at' n : Int) (w : World) (h : Sl w A bn cap zs) (hn : bn ≤ 100000) : Calls Tryz.prog 93 #[.slice A bn cap, .int .i64 at', .int .i64 n] w (BytesAt zs at' n w) := by
  have hl := Lib.hid h.len
  have hcap := h.2.1
  have hcm := h.2.2.1
  unfold maxLen at hcm
  have hrg := Lib.hid h.range
  by_cases hr : (at' < 0 ∨ (zs.length : Int) < at') ∨ n < 0
  · have HT := Lib.hid (S5.by_range hr)
    have hr' : (at' < 0 ∨ (bn : Int) < at') ∨ n < 0 := by rw [← hl.out]; exact hr
    clear hr
    rcases hr' with (hr' | hr') | hr'
    all_goals
      go_enter Tryz.func93, Tryz.ntmps93
      go_wp2_with (fail)
      all_goals
        go_ret3
        exact ⟨none, 0, 0, ret_three rfl (ival HT.out.2.2.symm) (ival HT.out.1.symm), by rw [HT.out.2.1]; exact Sl.nil _, Below.refl _ _, Fresh.nil _⟩
  · obtain ⟨k, rfl⟩ := Int.eq_ofNat_of_zero_le (show 0 ≤ at' by omega)
    obtain ⟨m, rfl⟩ := Int.eq_ofNat_of_zero_le (show 0 ≤ n by omega)
    have hk : k ≤ bn := by have := hl.out; omega
    by_cases hc : (bn : Int) - k < m
    · have HT := Lib.hid (S5.by_cut hr (by rw [hl.out]; exact hc))
      clear hr
      go_enter Tryz.func93, Tryz.ntmps93
      go_wp2_with (fail)
      go_ret3
      exact ⟨none, 0, 0, ret_three rfl (ival HT.out.2.2.symm) (ival HT.out.1.symm), by rw [HT.out.2.1]; exact Sl.nil _, Below.refl _ _, Fresh.nil _⟩
    · have HT := Lib.hid (S5.by_ok hr (by rw [hl.out]; exact hc))
      have hkm : k + m ≤ bn := by omega
      clear hr
      have Ba := Lib.hid (fun (x : World) (o : Obj) => (Below.refl x.heap.size x).alloc (Nat.le_refl _) o)
      have hO := Lib.hid (Own.new .u8 5 (w := w) (Nat.le_refl _) [] (by decide))
      have hyr := Lib.hid (show ∀ z ∈ S5.byS zs (k : Int) (m : Int), 0 ≤ z ∧ z ≤ 255 by
        rw [HT.out.2.1]
        intro z hz
        exact hrg.out z (List.mem_of_mem_drop (List.mem_of_mem_take hz)))
      rcases Nat.eq_zero_or_pos m with h0 | h0
      · subst h0
        have hys := Lib.hid (show S5.byS zs (k : Int) ((0 : Nat) : Int) = [] by rw [HT.out.2.1]; simp [S5.part])
        have hw0 : (k : Int) ≤ (cap : Int) := by omega
        by_cases hck : cap = k
        · subst hck
          rcases A with _ | x
          · go_enter Tryz.func93, Tryz.ntmps93
            go_wp2_with (at_builtin; refine wpList_push_row rfl (.tmp 27) (.tmp 33) 22 rfl Tryz.underlying22 u8_infoB (base := w.heap.size) (v := .slice (some ⟨w.heap.size, 0, none⟩) 0 0) (zs := []) (ys := []) (A := none) (m := 0) (c := 0) rfl rfl hO.out (RowK.empty _ _ _) (by simp <;> omega) (by decide) (by simp) ?_; intro v2 w2 O2 hg2 _; have B2 := Own.grown (Ba.out w _) hO.out hg2; clear hg2; rw [List.nil_append, ← hys.out] at O2; obtain ⟨A2, n2, c2, rfl, hs2, hf2⟩ := O2.slf hyr.out; replace hs2 := Lib.hid hs2)
            go_ret3
            exact ⟨A2, n2, c2, ret_three rfl (ival HT.out.2.2.symm) (ival HT.out.1.symm), hs2.out, B2, hf2⟩
          · go_enter Tryz.func93, Tryz.ntmps93
            go_wp2_with (at_builtin; refine wpList_push_row rfl (.tmp 27) (.tmp 33) 22 rfl Tryz.underlying22 u8_infoB (base := w.heap.size) (v := .slice (some ⟨w.heap.size, 0, none⟩) 0 0) (zs := []) (ys := []) (A := some x) (m := 0) (c := 0) rfl rfl hO.out (RowK.empty _ _ _) (by simp <;> omega) (by decide) (by simp) ?_; intro v2 w2 O2 hg2 _; have B2 := Own.grown (Ba.out w _) hO.out hg2; clear hg2; rw [List.nil_append, ← hys.out] at O2; obtain ⟨A2, n2, c2, rfl, hs2, hf2⟩ := O2.slf hyr.out; replace hs2 := Lib.hid hs2)
            go_ret3
            exact ⟨A2, n2, c2, ret_three rfl (ival HT.out.2.2.symm) (ival HT.out.1.symm), hs2.out, B2, hf2⟩
        · obtain ⟨b, off, rfl⟩ : ∃ b off, A = some ⟨b, off, none⟩ := by
            rcases h.2.2.2 with ⟨h1, h2⟩ | h1
            · omega
            · exact h1
          go_enter Tryz.func93, Tryz.ntmps93
          go_wp2_with (at_builtin; refine wpList_push_row rfl (.tmp 27) (.tmp 33) 22 rfl Tryz.underlying22 u8_infoB (base := w.heap.size) (v := .slice (some ⟨w.heap.size, 0, none⟩) 0 0) (zs := []) (ys := []) (A := some ⟨b, off + k, none⟩) (m := 0) (c := cap - k) rfl rfl hO.out (RowK.empty _ _ _) (by simp <;> omega) (by decide) (by simp) ?_; intro v2 w2 O2 hg2 _; have B2 := Own.grown (Ba.out w _) hO.out hg2; clear hg2; rw [List.nil_append, ← hys.out] at O2; obtain ⟨A2, n2, c2, rfl, hs2, hf2⟩ := O2.slf hyr.out; replace hs2 := Lib.hid hs2)
          go_ret3
          exact ⟨A2, n2, c2, ret_three rfl (ival HT.out.2.2.symm) (ival HT.out.1.symm), hs2.out, B2, hf2⟩
      · have hys := Lib.hid (show S5.byS zs (k : Int) (m : Int) = (zs.drop k).take m by rw [HT.out.2.1]; rfl)
        obtain ⟨b, off, rfl⟩ : ∃ b off, A = some ⟨b, off, none⟩ := by
          obtain ⟨b, off, _, e, _⟩ := h.row.at (i := 0) (by omega)
          exact ⟨b, off, e⟩
        have hw0 : (k : Int) + (m : Int) ≤ (cap : Int) := by omega
        have hck : ¬ cap = k := by omega
        have hR := Lib.hid (RowK.keep (Ba.out w (.cells #[] 5)) (h.row.part k m hkm))
        have hR2 : Hid (RowK .u8 (w.alloc (.cells #[] 5)) (some ⟨b, off + k, none⟩) (k + m - k) ((zs.drop k).take m)) := by rw [Nat.add_sub_cancel_left]; exact hR
        go_enter Tryz.func93, Tryz.ntmps93
        go_wp2_with (at_builtin; refine wpList_push_row rfl (.tmp 27) (.tmp 33) 22 rfl Tryz.underlying22 u8_infoB (base := w.heap.size) (v := .slice (some ⟨w.heap.size, 0, none⟩) 0 0) (zs := []) (ys := (zs.drop k).take m) (A := some ⟨b, off + k, none⟩) (m := k + m - k) (c := cap - k) rfl rfl hO.out hR2.out (by simp <;> omega) (by decide) (by simp) ?_; intro v2 w2 O2 hg2 _; have B2 := Own.grown (Ba.out w _) hO.out hg2; clear hg2; rw [List.nil_append, ← hys.out] at O2; obtain ⟨A2, n2, c2, rfl, hs2, hf2⟩ := O2.slf hyr.out; replace hs2 := Lib.hid hs2)
        go_ret3
        exact ⟨A2, n2, c2, ret_three rfl (ival HT.out.2.2.symm) (ival HT.out.1.symm), hs2.out, B2, hf2⟩

/-- The bytes that are read, one by one. -/
theorem getR {w : World} {b off k cap : Nat} {xs : List Int} (h : Sl w (some ⟨b, off, none⟩) k cap xs) {i : Nat} (hi : i < k) : ∃ z, xs[i]? = some z ∧ 0 ≤ z ∧ z ≤ 255 ∧ w.cell? ⟨b, off + i, none⟩ = some (.int .u8 z) := by
  obtain ⟨b', off', z, ha, hz, h1, h2, hc⟩ := h.row.at hi
  cases ha
  exact ⟨z, hz, h1, h2, hc⟩

/-- What a number's reading returns. -/
def NumOut (zs : List Int) (at' : Int) (k : Nat) (l : Bool) (w : World) (e : Ending) (w' : World) : Prop :=
  e = .returned (.tuple #[.int .i64 (S5.getV zs at' k l), .int .i64 (S5.getN zs at' k), .int .i64 (S5.getE zs at' k)]) ∧ Below w.heap.size w w'

set_option maxHeartbeats 1600000 in
theorem r5get_err (A : Option Addr) (bn cap : Nat) (zs : List Int) (at' : Int) (k : Nat) (l : Bool) (w : World) (h : Sl w A bn cap zs) (hn : bn ≤ 100000) (he : S5.getE zs at' k ≠ 0) : Calls Tryz.prog 114 #[.slice A bn cap, .int .i64 at', .int .i64 (k : Int), .bool l] w (NumOut zs at' k l w) := by
  have hb := S5.by_get zs at' k
  have HV := Lib.hid (show S5.getV zs at' k l = 0 ∧ S5.getN zs at' k = 0 by simp [S5.getV, S5.getN, he])
  have h0 : (S5.getE zs at' k != 0) = true := by simpa using he
  have BY := r5bytes_any A bn cap zs at' (k : Int) w h hn
  unfold BytesAt at BY
  rw [hb] at BY
  replace BY := Lib.hid BY
  clear hb he
  go_enter Tryz.func114, Tryz.ntmps114
  go_wp2_with (fail)
  refine BY.out.mono ?_
  rintro e w1 ⟨A1, n1, c1, rfl, hs1, hb1, hf1⟩
  clear hs1
  go_wp2_with (fail)
  go_ret3
  exact ⟨ret_three (ival HV.out.1.symm) (ival HV.out.2.symm) rfl, hb1⟩

end Go.Proofs.YtkhkmgblgonfoaaGreat
