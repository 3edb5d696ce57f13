/-
  What is formatted is parsed as it was.
-/
import Derived.Test.YtpfkacmogggemaaPlainA
namespace Go.Proofs.Ytpfkacmogggemaa
namespace S1

theorem all_no (bad l : List UInt8) (c : UInt8) (hc : bad.contains c = true) (h : l.all (okB bad) = true) : l.contains c = false := by
  rw [Bool.eq_false_iff]
  intro hm
  rw [List.contains_iff_mem] at hm
  rw [List.all_eq_true] at h
  have := h c hm
  unfold okB at this
  rw [hc] at this
  simp at this

theorem vP_parts {a b c : List UInt8} (h : vP a b c = true) : a.contains 46 = false ∧ a.contains 64 = false ∧ b.contains 64 = false := by
  unfold vP vName vInst vRealm text at h
  simp only [Bool.and_eq_true] at h
  exact ⟨all_no _ _ 46 (by rfl) h.1.1.2.1, all_no _ _ 64 (by rfl) h.1.1.2.1, all_no _ _ 64 (by rfl) h.1.2.1⟩

theorem idx_hit (l r : List UInt8) (c : UInt8) (h : l.contains c = false) : idx (l ++ c :: r) c = l.length := by
  rw [idx_app c l _ h]; simp [idx]

theorem idx_miss (l : List UInt8) (c : UInt8) (h : l.contains c = false) : idx l c = l.length := by
  have := idx_app c l [] h
  rw [List.append_nil] at this
  rw [this]; simp [idx]

theorem cut_hit (l r : List UInt8) (c : UInt8) (h : l.contains c = false) : (l ++ c :: r).take (idx (l ++ c :: r) c) = l ∧ after (l ++ c :: r) c = r ∧ found (l ++ c :: r) c = true := by
  unfold after found
  rw [idx_hit l r c h]
  have : l.length < (l ++ c :: r).length := by simp
  refine ⟨by simp, ?_, by simp⟩
  rw [if_pos this]
  rw [show l ++ c :: r = (l ++ [c]) ++ r by simp, List.drop_left' (by simp)]

theorem cut_miss (l : List UInt8) (c : UInt8) (h : l.contains c = false) : l.take (idx l c) = l ∧ after l c = [] := by
  unfold after
  rw [idx_miss l c h]; simp

theorem back {a b c : List UInt8} (h : vP a b c = true) (r : List UInt8) : pName (fmt a b c) = a ∧ pInst (fmt a b c) = b ∧ pRealm (fmt a b c) r = c ∧ pOk (fmt a b c) r = true := by
  obtain ⟨h1, h2, h3⟩ := vP_parts h
  have hL : ∃ L : List UInt8, fmt a b c = L ++ 64 :: c ∧ L.contains 64 = false ∧ L.take (idx L 46) = a ∧ after L 46 = b := by
    by_cases hb : b = []
    · subst hb
      refine ⟨a, by simp [fmt], h2, ?_, ?_⟩
      · exact (cut_miss a 46 h1).1
      · exact (cut_miss a 46 h1).2
    · refine ⟨a ++ 46 :: b, by simp [fmt, hb], ?_, (cut_hit a b 46 h1).1, (cut_hit a b 46 h1).2.1⟩
      rw [Bool.eq_false_iff] at h2 h3 ⊢
      intro hm
      rw [List.contains_iff_mem, List.mem_append, List.mem_cons] at hm
      rw [Ne, List.contains_iff_mem] at h2 h3
      rcases hm with hm | hm | hm
      · exact h2 hm
      · exact absurd hm (by decide)
      · exact h3 hm
  obtain ⟨L, hf, hn, ha, hb⟩ := hL
  obtain ⟨e1, e2, e3⟩ := cut_hit L c 64 hn
  have p1 : pLocal (fmt a b c) = L := by unfold pLocal; rw [hf]; exact e1
  have p2 : pName (fmt a b c) = a := by unfold pName; rw [p1]; exact ha
  have p3 : pInst (fmt a b c) = b := by unfold pInst; rw [p1]; exact hb
  have p4 : pRealm (fmt a b c) r = c := by unfold pRealm; rw [hf, e3, e2]; rfl
  exact ⟨p2, p3, p4, by unfold pOk; rw [p2, p3, p4]; exact h⟩

theorem fmt_len {a b c : List UInt8} (h : vP a b c = true) : (fmt a b c).length ≤ 200 := by
  obtain ⟨⟨h1, h2, h3⟩, _, _⟩ := vP_short h
  unfold fmt
  split <;> simp <;> omega

end S1
end Go.Proofs.Ytpfkacmogggemaa
