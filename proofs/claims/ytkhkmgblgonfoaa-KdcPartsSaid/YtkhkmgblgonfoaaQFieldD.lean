/-
  What Bytes of package field returns.
-/
import Derived.Test.YtkhkmgblgonfoaaQFieldB
namespace Go.Proofs.Ytkhkmgblgonfoaa
open Go.RowKit
set_option maxRecDepth 100000

theorem bclone_nil (n cap : Nat) (w : World) : Calls Try.prog 99 #[.slice none n cap] w fun e w' => e = .returned (.slice none 0 0) ∧ w = w' := by
  have hq : ∀ w, (binOp .eql 26 (.slice none n cap) (.slice none 0 0)).run Try.prog w = .ok (.bool true) w := fun _ => by kernel_rfl
  go_enter Try.func99, Try.ntmps99
  go_wp2_with (fail)
  go_ret
  exact ⟨rfl, rfl⟩

theorem bclone_some (x : Addr) (n cap : Nat) (zs : List Int) (w : World) (h : RowK .u8 w (some x) n zs) (hl : n ≤ 100000) : Calls Try.prog 99 #[.slice (some x) n cap] w (JoinedB zs w) := by
  replace h := Lib.hid h
  have hq : ∀ w, (binOp .eql 26 (.slice (some x) n cap) (.slice none 0 0)).run Try.prog w = .ok (.bool false) w := fun _ => by kernel_rfl
  go_enter Try.func99, Try.ntmps99
  go_wp2_with (at_builtin; refine wpList_push_row rfl (.tmp 5) (.tmp 6) 26 rfl Try.underlying26 u8_infoB (base := w.heap.size) (v := .slice (some ⟨w.heap.size, 0, none⟩) 0 0) (zs := []) (ys := zs) (A := some x) (m := n) (c := cap) rfl rfl (Own.new .u8 _ (Nat.le_refl _) [] (by decide)) (h.out.keep ((Below.refl _ _).alloc (Nat.le_refl _) _)) (by simp; omega) (by decide) (by simp) ?_; intro v2 w2 own2 hg2 _)
  go_ret
  exact ⟨v2, rfl, by simpa using own2, Own.grown ((Below.refl _ _).alloc (Nat.le_refl _) _) (Own.new .u8 _ (Nat.le_refl _) [] (by decide)) hg2⟩

set_option maxHeartbeats 1600000 in
theorem fbytes_any (A : Option Addr) (bn cap : Nat) (zs : List Int) (at' n : Int) (w : World) (h : Sl w A bn cap zs) (hn : bn ≤ 100000) : Calls Try.prog 81 #[.slice A bn cap, .int .i64 at', .int .i64 n] w (BytesAt zs at' n w) := by
  have hl := Lib.hid h.len
  have hcap := h.2.1
  have hcm := h.2.2.1
  unfold maxLen at hcm
  have hrg := Lib.hid h.range
  have FR := Lib.hid (froom_any A bn cap zs at' n w h.len (by omega))
  by_cases he : S5.byE zs at' n = 0
  · have hb : ¬ ((at' < 0 ∨ (zs.length : Int) < at') ∨ n < 0) := fun c => by have := (S5.by_range c).1; omega
    obtain ⟨k, rfl⟩ := Int.eq_ofNat_of_zero_le (show 0 ≤ at' by omega)
    obtain ⟨m, rfl⟩ := Int.eq_ofNat_of_zero_le (show 0 ≤ n by omega)
    have hc : ¬ (bn : Int) - k < m := fun c => by have := (S5.by_cut hb (by rw [hl.out]; exact c)).1; omega
    have HT := Lib.hid (S5.by_ok hb (by rw [hl.out]; exact hc))
    have hkm : k + m ≤ bn := by have := hl.out; omega
    have hyr := Lib.hid (show ∀ z ∈ S5.byS zs (k : Int) (m : Int), 0 ≤ z ∧ z ≤ 255 by
      rw [HT.out.2.1]
      intro z hz
      exact hrg.out z (List.mem_of_mem_drop (List.mem_of_mem_take hz)))
    rw [he] at FR
    have HE := Lib.hid he
    clear hb hc he
    have hw0 : (k : Int) + (m : Int) ≤ (cap : Int) := by omega
    have hw1 : (k : Int) ≤ (k : Int) + (m : Int) := by omega
    by_cases hck : cap = k
    · subst hck
      obtain rfl : m = 0 := by omega
      have hys := Lib.hid (show S5.byS zs (cap : Int) ((0 : Nat) : Int) = [] by rw [HT.out.2.1]; simp [S5.part])
      rcases A with _ | x
      · go_enter Try.func81, Try.ntmps81
        go_wp2_with (fail)
        refine FR.out.mono ?_
        rintro e w1 ⟨rfl, rfl⟩
        go_wp2_with (go_at_call 99; refine (bclone_nil _ _ _).mono ?_; rintro e w2 ⟨rfl, rfl⟩)
        go_ret3
        exact ⟨none, 0, 0, ret_three rfl (ival HT.out.2.2.symm) (ival HE.out.symm), by rw [hys.out]; exact Sl.nil _, Below.refl _ _, Fresh.nil _⟩
      · have CL := Lib.hid (fun c => bclone_some x 0 c [] w (RowK.empty _ _ _) (by omega))
        rw [← hys.out] at CL
        go_enter Try.func81, Try.ntmps81
        go_wp2_with (fail)
        refine FR.out.mono ?_
        rintro e w1 ⟨rfl, rfl⟩
        go_wp2_with (go_at_call 99; refine (CL.out _).mono ?_; rintro e w2 ⟨v2, rfl, O2, B2⟩; obtain ⟨A2, n2, c2, rfl, hs2, hf2⟩ := O2.slf hyr.out; replace hs2 := Lib.hid hs2)
        go_ret3
        exact ⟨A2, n2, c2, ret_three rfl (ival HT.out.2.2.symm) (ival HE.out.symm), hs2.out, B2, hf2⟩
    · obtain ⟨b, off, rfl⟩ : ∃ b off, A = some ⟨b, off, none⟩ := by
        rcases h.2.2.2 with ⟨h1, h2⟩ | h1
        · omega
        · exact h1
      have hys := Lib.hid (show S5.byS zs (k : Int) (m : Int) = (zs.drop k).take m by rw [HT.out.2.1]; rfl)
      have CL := Lib.hid (fun c => bclone_some ⟨b, off + k, none⟩ m c _ w (h.row.part k m hkm) (by omega))
      rw [← hys.out] at CL
      have hmm : k + m - k = m := by omega
      go_enter Try.func81, Try.ntmps81
      go_wp2_with (fail)
      refine FR.out.mono ?_
      rintro e w1 ⟨rfl, rfl⟩
      go_wp2_with (go_at_call 99; refine (CL.out _).mono ?_; rintro e w2 ⟨v2, rfl, O2, B2⟩; obtain ⟨A2, n2, c2, rfl, hs2, hf2⟩ := O2.slf hyr.out; replace hs2 := Lib.hid hs2)
      go_ret3
      exact ⟨A2, n2, c2, ret_three rfl (ival HT.out.2.2.symm) (ival HE.out.symm), hs2.out, B2, hf2⟩
  · have HT := Lib.hid (show S5.byS zs at' n = [] ∧ S5.byN zs at' n = 0 by simp [S5.byS, S5.byN, he])
    have he2 : (S5.byE zs at' n != 0) = true := by simpa using he
    clear he
    go_enter Try.func81, Try.ntmps81
    go_wp2_with (fail)
    refine FR.out.mono ?_
    rintro e w1 ⟨rfl, rfl⟩
    go_wp2_with (fail)
    go_ret3
    exact ⟨none, 0, 0, ret_three rfl (ival HT.out.2.symm) rfl, by rw [HT.out.1]; exact Sl.nil _, Below.refl _ _, Fresh.nil _⟩

end Go.Proofs.Ytkhkmgblgonfoaa
