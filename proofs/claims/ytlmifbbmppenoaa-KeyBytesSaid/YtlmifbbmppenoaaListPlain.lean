/-
  Lists of numbers: whether one is in it, the places, ascending lists.
-/
import Derived.Test.YtlmifbbmppenoaaProg
namespace Go.Proofs.Ytlmifbbmppenoaa.S3

def has (k : Int) (zs : List Int) : Bool := decide (k ∈ zs)
theorem has_iff {k : Int} {zs : List Int} : has k zs = true ↔ k ∈ zs := by simp [has]
theorem has_no {k : Int} {zs : List Int} : has k zs = false ↔ k ∉ zs := by simp [has]
theorem has_nil (k : Int) : has k [] = false := rfl
theorem has_snoc (k z : Int) (zs : List Int) : has k (zs ++ [z]) = (has k zs || decide (k = z)) := by
  unfold has; rw [← Bool.decide_or, decide_eq_decide]; simp
theorem has_take_succ {k z : Int} {zs : List Int} {i : Nat} (h : zs[i]? = some z) : has k (zs.take (i + 1)) = (has k (zs.take i) || decide (k = z)) := by
  rw [List.take_add_one, h]; exact has_snoc k z _
theorem has_take_hit {z : Int} {zs : List Int} {i : Nat} (h : zs[i]? = some z) : has z zs = true := by
  rw [has_iff]; exact List.mem_of_getElem? h

/-- The first place of k, -1 if there is none. -/
def idx (k : Int) : List Int → Int
  | [] => -1
  | z :: r => if z = k then 0 else if idx k r < 0 then -1 else idx k r + 1
theorem idx_no {k : Int} {zs : List Int} (h : has k zs = false) : idx k zs = -1 := by
  rw [has_no] at h
  induction zs with
  | nil => rfl
  | cons z r ih =>
    simp at h
    unfold idx
    rw [if_neg (fun e => h.1 e.symm), ih h.2]; rfl
theorem idx_hit {k : Int} {zs : List Int} {i : Nat} (h : zs[i]? = some k) (hn : has k (zs.take i) = false) : idx k zs = i := by
  rw [has_no] at hn
  induction zs generalizing i with
  | nil => simp at h
  | cons z r ih =>
    rcases i with _ | i
    · simp at h; subst h; simp [idx]
    · simp at h hn
      have e := ih h hn.2
      unfold idx
      rw [if_neg (fun e => hn.1 e.symm), e, if_neg (by omega)]; simp
theorem idx_ge (k : Int) (zs : List Int) : decide (0 ≤ idx k zs) = has k zs := by
  rcases h : has k zs
  · rw [idx_no h]; rfl
  · rw [has_iff] at h
    induction zs with
    | nil => cases h
    | cons z r ih =>
      unfold idx
      by_cases e : z = k
      · simp [e]
      · have hr : k ∈ r := by
          rcases List.mem_cons.1 h with rfl | h'
          · exact absurd rfl e
          · exact h'
        have := ih hr
        simp at this
        rw [if_neg e, if_neg (by omega)]; simp; omega

end Go.Proofs.Ytlmifbbmppenoaa.S3
