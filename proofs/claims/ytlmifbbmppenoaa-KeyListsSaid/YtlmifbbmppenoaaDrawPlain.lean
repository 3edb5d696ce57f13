/-
  Which serial number is drawn, as a plain function of the list of used keys.
-/
import Derived.Test.YtlmifbbmppenoaaKeyPlain
import Derived.Test.YtlmifbbmppenoaaListPlain
namespace Go.Proofs.Ytlmifbbmppenoaa.S3

/-- The least number from n on, of m numbers, at which t is false; 0 if there is none. -/
def free (t : Int → Bool) (n : Int) : Nat → Int
  | 0 => 0
  | m + 1 => if t n then free t (n + 1) m else n

theorem free_zero (t : Int → Bool) (n : Int) : free t n 0 = 0 := rfl
theorem free_go {t : Int → Bool} {n : Int} {m : Nat} (h : t n = true) : free t n (m + 1) = free t (n + 1) m := by simp [free, h]
theorem free_stop {t : Int → Bool} {n : Int} {m : Nat} (h : t n = false) : free t n (m + 1) = n := by simp [free, h]

theorem free_cases (t : Int → Bool) (n : Int) (m : Nat) : (free t n m = 0 ∧ ∀ s, n ≤ s → s < n + m → t s = true) ∨ (n ≤ free t n m ∧ free t n m < n + m ∧ t (free t n m) = false) := by
  induction m generalizing n with
  | zero => left; exact ⟨rfl, fun s h1 h2 => absurd h2 (by omega)⟩
  | succ m ih =>
    rcases h : t n
    · right; rw [free_stop h]; exact ⟨by omega, by omega, h⟩
    · rw [free_go h]
      rcases ih (n + 1) with ⟨h1, h2⟩ | ⟨h1, h2, h3⟩
      · left
        refine ⟨h1, fun s s0 s1 => ?_⟩
        rcases Int.lt_or_eq_of_le s0 with h' | rfl
        · exact h2 s (by omega) (by omega)
        · exact h
      · right; exact ⟨by omega, by omega, h3⟩

theorem free_app (t : Int → Bool) (n : Int) (a b : Nat) (hn : 1 ≤ n) : free t n (a + b) = if free t n a = 0 then free t (n + a) b else free t n a := by
  induction a generalizing n with
  | zero => simp [free]
  | succ a ih =>
    rw [show a + 1 + b = (a + b) + 1 by omega]
    rcases h : t n
    · rw [free_stop h, free_stop h, if_neg (by omega)]
    · rw [free_go h, free_go h, ih (n + 1) (by omega), show n + 1 + (a : Int) = n + ((a + 1 : Nat) : Int) by omega]

def wantV (want : Int) : Int := if isS want then want else 1
theorem wantV_range (want : Int) : 1 ≤ wantV want ∧ wantV want ≤ 4294967295 := by
  unfold wantV; split
  · rename_i h; exact isS_iff.1 h
  · omega
theorem wantV_yes {n : Int} (h : isS n = true) : wantV n = n := by simp [wantV, h]
theorem wantV_no {n : Int} (h : isS n = false) : wantV n = 1 := by simp [wantV, h]

def used (zs : List Int) (c s : Int) : Bool := has (mk c s) zs
/-- How many numbers there are from n up to the greatest one; kept behind a name. -/
def span (n l : Int) : Nat := (l - n + 1).toNat

theorem span_val {n l : Int} (h : n ≤ l + 1) : (span n l : Int) = l - n + 1 := by unfold span; omega

/-- The serial number that is drawn, 0 if there is none. -/
def drawS (zs : List Int) (c want : Int) : Int :=
  if isC c then (if free (used zs c) (wantV want) (span (wantV want) 4294967295) = 0 then free (used zs c) 1 (span 1 (wantV want - 1)) else free (used zs c) (wantV want) (span (wantV want) 4294967295)) else 0

theorem drawS_noC {zs : List Int} {c want : Int} (h : isC c = false) : drawS zs c want = 0 := by simp [drawS, h]
theorem drawS_one {zs : List Int} {c want : Int} (h : isC c = true) (g : free (used zs c) (wantV want) (span (wantV want) 4294967295) ≠ 0) : drawS zs c want = free (used zs c) (wantV want) (span (wantV want) 4294967295) := by
  simp [drawS, h, g]
theorem drawS_two {zs : List Int} {c want : Int} (h : isC c = true) (g : free (used zs c) (wantV want) (span (wantV want) 4294967295) = 0) : drawS zs c want = free (used zs c) 1 (span 1 (wantV want - 1)) := by
  simp [drawS, h, g]

/-- If m keys in a row are all in a list, it has at least m elements. -/
theorem full_length (c : Int) (hc : isC c = true) (m : Nat) (n : Int) (hn : 1 ≤ n) (hm : n + m ≤ 4294967296) (zs : List Int) (h : ∀ s, n ≤ s → s < n + m → mk c s ∈ zs) : m ≤ zs.length := by
  induction m generalizing n zs with
  | zero => omega
  | succ m ih =>
    have h0 := h n (by omega) (by omega)
    have := ih (n + 1) (by omega) (by omega) (zs.erase (mk c n)) fun s s0 s1 => by
      refine (List.mem_erase_of_ne fun e => ?_).2 (h s (by omega) (by omega))
      have := (mk_inj hc (isS_yes (by omega) (by omega)) hc (isS_yes (by omega) (by omega)) e).2
      omega
    rw [List.length_erase_of_mem h0] at this
    have := List.length_pos_of_mem h0
    omega

/-- In a list that is not too long a number is drawn: one that is not used. -/
theorem drawS_ok {zs : List Int} {c want : Int} (hc : isC c = true) (hz : zs.length < 4294967295) : isS (drawS zs c want) = true ∧ used zs c (drawS zs c want) = false ∧ drawS zs c want ≠ 0 := by
  obtain ⟨v1, v2⟩ := wantV_range want
  have e1 := span_val (n := wantV want) (l := 4294967295) (by omega)
  have e2 := span_val (n := 1) (l := wantV want - 1) (by omega)
  rcases free_cases (used zs c) (wantV want) (span (wantV want) 4294967295) with ⟨h1, h2⟩ | ⟨h1, h2, h3⟩
  · rw [drawS_two hc h1]
    rcases free_cases (used zs c) 1 (span 1 (wantV want - 1)) with ⟨g1, g2⟩ | ⟨g1, g2, g3⟩
    · exfalso
      have := full_length c hc 4294967295 1 (by omega) (by omega) zs fun s s0 s1 => by
        rw [← has_iff]
        by_cases e : s < wantV want
        · exact g2 s s0 (by omega)
        · exact h2 s (by omega) (by omega)
      omega
    · exact ⟨isS_yes g1 (by omega), g3, by omega⟩
  · have e : drawS zs c want = free (used zs c) (wantV want) (span (wantV want) 4294967295) := drawS_one hc (by omega)
    rw [e]
    exact ⟨isS_yes (by omega) (by omega), h3, by omega⟩

/-- The reference begins anew at 1 where the code goes on. -/
theorem drawS_ref {zs : List Int} {c want : Int} (hc : isC c = true) :
    drawS zs c want = if free (used zs c) (wantV want) (span (wantV want) 4294967295) = 0 then free (used zs c) 1 (span 1 4294967295) else free (used zs c) (wantV want) (span (wantV want) 4294967295) := by
  obtain ⟨v1, v2⟩ := wantV_range want
  by_cases g : free (used zs c) (wantV want) (span (wantV want) 4294967295) = 0
  · rw [drawS_two hc g, if_pos g, show span 1 4294967295 = span 1 (wantV want - 1) + span (wantV want) 4294967295 by unfold span; omega, free_app _ _ _ _ (by omega)]
    have e : (1 : Int) + (span 1 (wantV want - 1) : Int) = wantV want := by unfold span; omega
    rw [e, g]
    split
    · rename_i h; exact h
    · rfl
  · rw [drawS_one hc g, if_neg g]

end Go.Proofs.Ytlmifbbmppenoaa.S3
