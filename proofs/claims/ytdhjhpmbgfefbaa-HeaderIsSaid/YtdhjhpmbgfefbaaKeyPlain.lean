/-
  Keys, as plain numbers: class and serial number, and which numbers are keys.
-/
import Derived.Test.YtdhjhpmbgfefbaaProg
namespace Go.Proofs.Ytdhjhpmbgfefbaa.S3

def isC (n : Int) : Bool := decide (n = 1) || decide (n = 2)
def isS (n : Int) : Bool := decide (1 ≤ n) && decide (n ≤ 4294967295)

theorem isC_cases (n : Int) : (isC n = true ∧ n = 1) ∨ (isC n = true ∧ n = 2) ∨ (isC n = false ∧ n ≠ 1 ∧ n ≠ 2) := by
  by_cases h : n = 1
  · left; simp [isC, h]
  · by_cases g : n = 2
    · right; left; simp [isC, g]
    · right; right; simp [isC, h, g]
theorem isC_yes {n : Int} (h : n = 1 ∨ n = 2) : isC n = true := by rcases h with rfl | rfl <;> rfl
theorem isC_no {n : Int} (h : n ≠ 1) (g : n ≠ 2) : isC n = false := by simp [isC, h, g]
theorem isS_cases (n : Int) : (isS n = true ∧ 1 ≤ n ∧ n ≤ 4294967295) ∨ (isS n = false ∧ n < 1) ∨ (isS n = false ∧ 1 ≤ n ∧ 4294967295 < n) := by
  rcases Int.lt_or_le n 1 with h | h
  · right; left; exact ⟨by simp [isS]; omega, h⟩
  · rcases Int.lt_or_le 4294967295 n with g | g
    · right; right; exact ⟨by simp [isS]; omega, h, g⟩
    · left; exact ⟨by simp [isS]; omega, h, g⟩
theorem isS_yes {n : Int} (h : 1 ≤ n) (g : n ≤ 4294967295) : isS n = true := by simp [isS]; omega
theorem isS_no {n : Int} (h : n < 1 ∨ 4294967295 < n) : isS n = false := by simp [isS]; omega
theorem isS_iff {n : Int} : isS n = true ↔ 1 ≤ n ∧ n ≤ 4294967295 := by simp [isS]
theorem isC_iff {n : Int} : isC n = true ↔ n = 1 ∨ n = 2 := by simp [isC]

/-- The key of a class and a serial number, 0 if there is none. -/
def mk (c s : Int) : Int := if isC c && isS s then c * 72057594037927936 + s else 0
def vk (k : Int) : Bool := isC (k / 72057594037927936) && isS (k % 72057594037927936)
def ck (k : Int) : Int := if vk k then k / 72057594037927936 else 0
def sk (k : Int) : Int := if vk k then k % 72057594037927936 else 0

theorem mk_yes {c s : Int} (hc : isC c = true) (hs : isS s = true) : mk c s = c * 72057594037927936 + s := by simp [mk, hc, hs]
theorem mk_noC {c s : Int} (hc : isC c = false) : mk c s = 0 := by simp [mk, hc]
theorem mk_noS {c s : Int} (hs : isS s = false) : mk c s = 0 := by simp [mk, hs]
theorem vk_iff {k : Int} : vk k = true ↔ (k / 72057594037927936 = 1 ∨ k / 72057594037927936 = 2) ∧ 1 ≤ k % 72057594037927936 ∧ k % 72057594037927936 ≤ 4294967295 := by
  unfold vk; rw [Bool.and_eq_true, isC_iff, isS_iff]
theorem mk_range (c s : Int) : 0 ≤ mk c s ∧ mk c s ≤ 18446744073709551615 := by
  unfold mk
  split
  · rename_i h
    rw [Bool.and_eq_true, isC_iff, isS_iff] at h
    omega
  · omega
theorem vk_mk (c s : Int) : vk (mk c s) = (isC c && isS s) := by
  rcases h : isC c && isS s
  · have : mk c s = 0 := by simp [mk, h]
    rw [this]; rfl
  · have e : mk c s = c * 72057594037927936 + s := by simp [mk, h]
    rw [Bool.and_eq_true, isC_iff, isS_iff] at h
    rw [vk_iff, e]; omega
theorem vk_zero : vk 0 = false := by decide
theorem mk_ne {c s : Int} (hc : isC c = true) (hs : isS s = true) : mk c s ≠ 0 := by
  intro h; have := vk_mk c s; rw [h, hc, hs] at this; exact absurd this (by decide)
theorem vk_mk_ne (c s : Int) : vk (mk c s) = decide (mk c s ≠ 0) := by
  rw [vk_mk]
  rcases hc : isC c
  · rw [mk_noC hc]; rfl
  · rcases hs : isS s
    · rw [mk_noS hs]; rfl
    · have := mk_ne hc hs; simp [this]
theorem ck_mk {c s : Int} (hc : isC c = true) (hs : isS s = true) : ck (mk c s) = c := by
  unfold ck; rw [vk_mk, hc, hs, if_pos (by rfl), mk_yes hc hs]; rw [isS_iff] at hs; omega
theorem sk_mk {c s : Int} (hc : isC c = true) (hs : isS s = true) : sk (mk c s) = s := by
  unfold sk; rw [vk_mk, hc, hs, if_pos (by rfl), mk_yes hc hs]; rw [isS_iff] at hs; omega
theorem mk_self {k : Int} (h : vk k = true) : mk (k / 72057594037927936) (k % 72057594037927936) = k := by
  have h' := h
  unfold vk at h'
  unfold mk; rw [h', if_pos rfl]; omega
/-- The reference's way to say that k is a key. -/
theorem vk_ref (k : Int) : vk k = (decide (k ≠ 0) && decide (mk (k / 72057594037927936) (k % 72057594037927936) = k)) := by
  rcases h : vk k
  · rcases Int.lt_trichotomy k 0 with h' | h' | h'
    · have := (mk_range (k / 72057594037927936) (k % 72057594037927936)).1
      have : ¬ mk (k / 72057594037927936) (k % 72057594037927936) = k := by omega
      simp [this]
    · subst h'; rfl
    · have : ¬ mk (k / 72057594037927936) (k % 72057594037927936) = k := by
        intro e
        have g := vk_mk (k / 72057594037927936) (k % 72057594037927936)
        rw [e, h] at g
        have g' : mk (k / 72057594037927936) (k % 72057594037927936) = 0 := by unfold mk; rw [← g]; rfl
        omega
      simp [this]
  · have e := mk_self h
    have : k ≠ 0 := by rintro rfl; exact absurd h (by decide)
    simp [e, this]
theorem ck_range (k : Int) : 0 ≤ ck k ∧ ck k ≤ 2 := by
  unfold ck; split
  · rename_i h; rw [vk_iff] at h; omega
  · omega
theorem sk_range (k : Int) : 0 ≤ sk k ∧ sk k ≤ 4294967295 := by
  unfold sk; split
  · rename_i h; rw [vk_iff] at h; omega
  · omega
theorem mk_inj {c s d t : Int} (hc : isC c = true) (hs : isS s = true) (hd : isC d = true) (ht : isS t = true) (h : mk c s = mk d t) : c = d ∧ s = t := by
  have e1 := ck_mk hc hs; have e2 := ck_mk hd ht; have e3 := sk_mk hc hs; have e4 := sk_mk hd ht
  rw [h] at e1 e3
  exact ⟨e1.symm.trans e2, e3.symm.trans e4⟩

end Go.Proofs.Ytdhjhpmbgfefbaa.S3
