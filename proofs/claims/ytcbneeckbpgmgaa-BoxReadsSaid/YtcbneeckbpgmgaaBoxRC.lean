/-
  What Open and Is of the document's answer for boxes return.
-/
import Derived.Test.YtcbneeckbpgmgaaBoxRB
namespace Go.Proofs.Ytcbneeckbpgmgaa
open Go.RowKit

set_option maxHeartbeats 800000 in
theorem r4is_any (A : Option Addr) (n cap : Nat) (zs : List Int) (w : World) (h : Sl w A n cap zs) : Calls Try.prog 18 #[.slice A n cap] w fun e w' => e = .returned (.bool (S4.isB zs)) ∧ Below w.heap.size w w' := by
  have hlen := h.len
  have hmax := h.max
  unfold maxLen at hmax
  have RD := Lib.hid (r4read_any _ _ _ zs _ h)
  rcases hB : S4.isB zs
  · have hne : (S4.rdE zs == 0) = false ∨ S4.rdE zs = 0 ∧ (S4.rdN zs == (n : Int)) = false := by
      rcases isB_not hB with e | ⟨e, g⟩
      · left; simpa using e
      · right; rw [← hlen]; exact ⟨e, by simpa using g⟩
    clear hlen
    rcases hne with hE | ⟨hE, hN⟩
    all_goals
      go_enter Try.func18, Try.ntmps18
      go_wp2_with (fail)
      refine RD.out.mono ?_
      rintro e w1 ⟨A1, n1, c1, rfl, hs1, hb1, hf1⟩
      clear hs1
      go_wp2_with (fail)
      go_ret
      exact ⟨ret_bool (by simp), hb1.alloc hb1.size _⟩
  · obtain ⟨hE, hN⟩ := isB_parts hB
    rw [hlen] at hN
    clear hlen
    go_enter Try.func18, Try.ntmps18
    go_wp2_with (fail)
    refine RD.out.mono ?_
    rintro e w1 ⟨A1, n1, c1, rfl, hs1, hb1, hf1⟩
    clear hs1
    go_wp2_with (fail)
    go_ret
    exact ⟨ret_bool (by simp), hb1.alloc hb1.size _⟩

set_option maxHeartbeats 1600000 in
theorem r4open_any (A : Option Addr) (n cap : Nat) (zs : List Int) (kind key : Int) (w : World) (h : Sl w A n cap zs) : Calls Try.prog 20 #[.slice A n cap, .int .i64 kind, .int .u64 key] w (OpenB (S4.opOk zs kind key) (S4.opB zs kind key) w) := by
  have hlen := h.len
  have hmax := h.max
  unfold maxLen at hmax
  have RD := Lib.hid (r4read_any _ _ _ zs _ h)
  rcases hB : S4.isB zs
  · have HO := Lib.hid (op_not (zs := zs) (kind := kind) (key := key) (.inl hB))
    have hne : (S4.rdE zs != 0) = true ∨ S4.rdE zs = 0 ∧ (S4.rdN zs != (n : Int)) = true := by
      rcases isB_not hB with e | ⟨e, g⟩
      · left; simpa using e
      · right; rw [← hlen]; exact ⟨e, by simpa using g⟩
    clear hlen
    rcases hne with hE | ⟨hE, hN⟩
    all_goals
      go_enter Try.func20, Try.ntmps20
      go_wp2_with (fail)
      refine RD.out.mono ?_
      rintro e w1 ⟨A1, n1, c1, rfl, hs1, hb1, hf1⟩
      clear hs1
      go_wp2_with (fail)
      go_ret2
      exact ⟨none, 0, 0, ret_two rfl (bval HO.out.1.symm), by rw [HO.out.2]; exact Sl.nil _, hb1.alloc hb1.size _, Fresh.nil _⟩
  · obtain ⟨hE, hN⟩ := isB_parts hB
    rw [hlen] at hN
    clear hlen
    by_cases hK : S4.rdK zs = kind
    · by_cases hY : S4.rdY zs = key
      · subst hK hY
        have HO := Lib.hid (op_yes hB)
        go_enter Try.func20, Try.ntmps20
        go_wp2_with (fail)
        refine RD.out.mono ?_
        rintro e w1 ⟨A1, n1, c1, rfl, hs1, hb1, hf1⟩
        replace hs1 := Lib.hid hs1
        go_wp2_with (fail)
        go_ret2
        exact ⟨A1, n1, c1, ret_two rfl (bval HO.out.1.symm), by rw [HO.out.2]; exact hs1.out.keep ((Below.refl _ _).alloc (Nat.le_refl _) _), hb1.alloc hb1.size _, hf1⟩
      · have HO := Lib.hid (op_not (zs := zs) (kind := kind) (key := key) (.inr (.inr hY)))
        go_enter Try.func20, Try.ntmps20
        go_wp2_with (fail)
        refine RD.out.mono ?_
        rintro e w1 ⟨A1, n1, c1, rfl, hs1, hb1, hf1⟩
        clear hs1
        go_wp2_with (fail)
        go_ret2
        exact ⟨none, 0, 0, ret_two rfl (bval HO.out.1.symm), by rw [HO.out.2]; exact Sl.nil _, hb1.alloc hb1.size _, Fresh.nil _⟩
    · have HO := Lib.hid (op_not (zs := zs) (kind := kind) (key := key) (.inr (.inl hK)))
      go_enter Try.func20, Try.ntmps20
      go_wp2_with (fail)
      refine RD.out.mono ?_
      rintro e w1 ⟨A1, n1, c1, rfl, hs1, hb1, hf1⟩
      clear hs1
      go_wp2_with (fail)
      go_ret2
      exact ⟨none, 0, 0, ret_two rfl (bval HO.out.1.symm), by rw [HO.out.2]; exact Sl.nil _, hb1.alloc hb1.size _, Fresh.nil _⟩

end Go.Proofs.Ytcbneeckbpgmgaa
