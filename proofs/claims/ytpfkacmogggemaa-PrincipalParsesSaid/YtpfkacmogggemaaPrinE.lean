/-
  What both Formats and both Compares return.
-/
import Derived.Test.YtpfkacmogggemaaPrinD
import Derived.WalkLawsBesides
namespace Go.Proofs.Ytpfkacmogggemaa
open Go.RowKit

theorem less_ba (a b : ByteArray) : Op.bytesLess a.toList b.toList = decide (Lib.compareBytes a.data.toList b.data.toList = -1) := by
  rw [ByteArray.toList_eq, ByteArray.toList_eq]; exact S1.cb_less _ _

theorem eq_ba (a b : ByteArray) : (a.toList == b.toList) = decide (Lib.compareBytes a.data.toList b.data.toList = 0) := by
  rw [ByteArray.toList_eq, ByteArray.toList_eq, Bool.eq_iff_iff]
  simp only [beq_iff_eq, decide_eq_true_eq, S1.cb_eq]

theorem order_any (a b : ByteArray) (w : World) :
    Calls Try.prog 33 #[.string a, .string b] w fun e w' => e = .returned (.int .i64 (Lib.compareBytes a.data.toList b.data.toList)) ∧ w = w' := by
  have hl := less_ba a b
  have he := eq_ba a b
  rcases S1.cb_range a.data.toList b.data.toList with h | h | h
  · rw [h] at hl he
    have h' := Lib.hid h
    clear h he
    go_enter Try.func33, Try.ntmps33
    go_wp2
    go_ret
    exact ⟨ret_int h'.out.symm, rfl⟩
  · rw [h] at hl he
    have h' := Lib.hid h
    clear h
    go_enter Try.func33, Try.ntmps33
    go_wp2
    go_ret
    exact ⟨ret_int h'.out.symm, rfl⟩
  · rw [h] at hl he
    have h' := Lib.hid h
    clear h
    go_enter Try.func33, Try.ntmps33
    go_wp2
    go_ret
    exact ⟨ret_int h'.out.symm, rfl⟩

set_option maxHeartbeats 400000 in
theorem compare_any (a b c a2 b2 c2 : ByteArray) (w : World) :
    Calls Try.prog 23 #[.agg #[.string a, .string b, .string c], .agg #[.string a2, .string b2, .string c2]] w fun e w' => e = .returned (.int .i64 (S1.cmp a.data.toList b.data.toList c.data.toList a2.data.toList b2.data.toList c2.data.toList)) ∧ Below w.heap.size w w' := by
  rcases h1 : (Lib.compareBytes c.data.toList c2.data.toList != 0) <;> rcases h2 : (Lib.compareBytes a.data.toList a2.data.toList != 0)
  all_goals
    go_enter Try.func23, Try.ntmps23
    go_wp2_with (go_at_call 32; refine (Try.strings_Compare _ _ _).mono ?_; rintro e w' ⟨rfl, rfl⟩)
    go_ret
    refine ⟨ret_int ?_, ?_⟩
    · unfold S1.cmp; simp only [bne_iff_ne, ne_eq, bne_eq_false_iff_eq] at h1 h2; simp [h1, h2]
    · exact ((Below.refl _ _).alloc (Nat.le_refl _) _).alloc (by simp) _

set_option maxHeartbeats 400000 in
theorem refCompare_any (a b c a2 b2 c2 : ByteArray) (w : World) :
    Calls Try.prog 24 #[.agg #[.string a, .string b, .string c], .agg #[.string a2, .string b2, .string c2]] w fun e w' => e = .returned (.int .i64 (S1.cmp a.data.toList b.data.toList c.data.toList a2.data.toList b2.data.toList c2.data.toList)) ∧ Below w.heap.size w w' := by
  rcases h1 : (Lib.compareBytes c.data.toList c2.data.toList == 0) <;> rcases h2 : (Lib.compareBytes a.data.toList a2.data.toList == 0)
  all_goals
    go_enter Try.func24, Try.ntmps24
    go_wp2_with (go_at_call 33; refine (order_any _ _ _).mono ?_; rintro e w' ⟨rfl, rfl⟩)
    go_ret
    refine ⟨ret_int ?_, ?_⟩
    · unfold S1.cmp; simp only [beq_iff_eq, beq_eq_false_iff_ne, ne_eq] at h1 h2; simp [h1, h2]
    · exact ((Below.refl _ _).alloc (Nat.le_refl _) _).alloc (by simp) _

/-- What Format returns. -/
def formatV (a b c : List UInt8) : Value := if S1.vP a b c then .tuple #[.string ⟨(S1.fmt a b c).toArray⟩, .int .i64 0] else .tuple #[.string ⟨#[]⟩, .int .i64 103]

theorem formatV_no {a b c : List UInt8} (h : S1.vP a b c = false) : formatV a b c = .tuple #[.string ⟨#[]⟩, .int .i64 103] := by
  unfold formatV; rw [h]; rfl

theorem formatV_yes {a b c : List UInt8} {s : ByteArray} (h : S1.vP a b c = true) (hs : s.data.toList = S1.fmt a b c) : formatV a b c = .tuple #[.string s, .int .i64 0] := by
  unfold formatV; rw [h, ← hs, mk_list]; rfl

theorem format_any (a b c : ByteArray) (w : World) (ha : a.size ≤ maxLen) (hb : b.size ≤ maxLen) (hc : c.size ≤ maxLen) :
    Calls Try.prog 21 #[.agg #[.string a, .string b, .string c]] w fun e w' => e = .returned (formatV a.data.toList b.data.toList c.data.toList) ∧ Below w.heap.size w w' := by
  rcases h1 : S1.vP a.data.toList b.data.toList c.data.toList
  · go_enter Try.func21, Try.ntmps21
    go_wp2_with (fail)
    refine (valid_any _ _ _ _ ha hb hc).mono ?_
    rintro e w' ⟨rfl, hbl⟩
    rw [h1]
    go_wp2_with (fail)
    go_ret2
    exact ⟨congrArg Ending.returned (formatV_no h1).symm, ((Below.refl _ _).alloc (Nat.le_refl _) _).trans (hbl.mono (by simp))⟩
  · obtain ⟨⟨s1, s2, s3⟩, n1, n2⟩ := S1.vP_short h1
    have z1 : a.size ≤ 39 := by simpa using s1
    have z2 : b.size ≤ 39 := by simpa using s2
    have z3 : c.size ≤ 39 := by simpa using s3
    clear s1 s2 s3 n1 n2
    rcases S1.ba_cases b with rfl | ⟨g1, g2, g3, g4⟩
    all_goals
      go_enter Try.func21, Try.ntmps21
      go_wp2_with (fail)
      refine (valid_any _ _ _ _ ha hb hc).mono ?_
      rintro e w' ⟨rfl, hbl⟩
      rw [h1]
      obtain ⟨hc, hf⟩ := bcell hbl
      have c0 : w'.cell? ⟨w.heap.size, 0, none⟩ = some (.string a) := by rw [hc _ _ (by simp)]; simp [go_sem]
      have c1 := hc w.heap.size 1 (by simp)
      simp [go_sem] at c1
      have c2 : w'.cell? ⟨w.heap.size, 2, none⟩ = some (.string c) := by rw [hc _ _ (by simp)]; simp [go_sem]
      clear hc hf
      have H1 := Lib.hid h1
      clear h1
      go_wp2_with (fail)
      go_ret2
      refine ⟨congrArg Ending.returned (formatV_yes H1.out ?_).symm, ((Below.refl _ _).alloc (Nat.le_refl _) _).trans (hbl.mono (by simp))⟩
    · simp [S1.fmt]
    · have g5 : ¬ b.data.toList = [] := by intro e; rw [e] at g3; cases g3
      unfold S1.fmt; rw [if_neg g5]; simp

theorem refFormat_any (a b c : ByteArray) (w : World) (ha : a.size ≤ maxLen) (hb : b.size ≤ maxLen) (hc : c.size ≤ maxLen) :
    Calls Try.prog 22 #[.agg #[.string a, .string b, .string c]] w fun e w' => e = .returned (formatV a.data.toList b.data.toList c.data.toList) ∧ Below w.heap.size w w' := by
  rcases h1 : S1.vP a.data.toList b.data.toList c.data.toList
  · go_enter Try.func22, Try.ntmps22
    go_wp2_with (fail)
    refine (refValid_any _ _ _ _ ha hb hc).mono ?_
    rintro e w' ⟨rfl, hbl⟩
    rw [h1]
    go_wp2_with (fail)
    go_ret2
    exact ⟨congrArg Ending.returned (formatV_no h1).symm, ((Below.refl _ _).alloc (Nat.le_refl _) _).trans (hbl.mono (by simp))⟩
  · obtain ⟨⟨s1, s2, s3⟩, n1, n2⟩ := S1.vP_short h1
    have z1 : a.size ≤ 39 := by simpa using s1
    have z2 : b.size ≤ 39 := by simpa using s2
    have z3 : c.size ≤ 39 := by simpa using s3
    clear s1 s2 s3 n1 n2
    rcases S1.ba_cases b with rfl | ⟨g1, g2, g3, g4⟩
    all_goals
      go_enter Try.func22, Try.ntmps22
      go_wp2_with (fail)
      refine (refValid_any _ _ _ _ ha hb hc).mono ?_
      rintro e w' ⟨rfl, hbl⟩
      rw [h1]
      obtain ⟨hc, hf⟩ := bcell hbl
      have c0 : w'.cell? ⟨w.heap.size, 0, none⟩ = some (.string a) := by rw [hc _ _ (by simp)]; simp [go_sem]
      have c1 := hc w.heap.size 1 (by simp)
      simp [go_sem] at c1
      have c2 : w'.cell? ⟨w.heap.size, 2, none⟩ = some (.string c) := by rw [hc _ _ (by simp)]; simp [go_sem]
      clear hc hf
      have H1 := Lib.hid h1
      clear h1
      go_wp2_with (fail)
      go_ret2
      refine ⟨congrArg Ending.returned (formatV_yes H1.out ?_).symm, ((Below.refl _ _).alloc (Nat.le_refl _) _).trans (hbl.mono (by simp))⟩
    · simp [S1.fmt]
    · have g5 : ¬ b.data.toList = [] := by intro e; rw [e] at g3; cases g3
      unfold S1.fmt; rw [if_neg g5]; simp

end Go.Proofs.Ytpfkacmogggemaa
