/-
  Searching in ascending lists, and leaving out what stands twice in a row.
-/
import Derived.Test.YtlmifbbmppenoaaListPlain
namespace Go.Proofs.Ytlmifbbmppenoaa.S3

def AllLess (k : Int) (l : List Int) : Prop := ∀ z ∈ l, z < k
def AllFrom (k : Int) (l : List Int) : Prop := ∀ z ∈ l, k ≤ z

theorem Asc.at {zs : List Int} (h : Asc zs) {i j : Nat} {x y : Int} (hx : zs[i]? = some x) (hy : zs[j]? = some y) (hij : i < j) : x < y := by
  obtain ⟨hi, rfl⟩ := List.getElem?_eq_some_iff.1 hx
  obtain ⟨hj, rfl⟩ := List.getElem?_eq_some_iff.1 hy
  exact List.pairwise_iff_getElem.1 h i j hi hj hij

theorem asc_less {zs : List Int} (h : Asc zs) {i : Nat} {k z : Int} (hz : zs[i]? = some z) (hk : z < k) : AllLess k (zs.take (i + 1)) := by
  intro y hy
  obtain ⟨j, hj⟩ := List.mem_iff_getElem?.1 hy
  rw [List.getElem?_take] at hj
  split at hj
  · rename_i hji
    rcases Nat.lt_or_eq_of_le (Nat.le_of_lt_succ hji) with h' | rfl
    · have := h.at hj hz h'; omega
    · rw [hz] at hj; cases hj; exact hk
  · cases hj
theorem asc_from {zs : List Int} (h : Asc zs) {i : Nat} {k z : Int} (hz : zs[i]? = some z) (hk : ¬ z < k) : AllFrom k (zs.drop i) := by
  intro y hy
  obtain ⟨j, hj⟩ := List.mem_iff_getElem?.1 hy
  rw [List.getElem?_drop] at hj
  rcases Nat.eq_zero_or_pos j with rfl | h'
  · rw [Nat.add_zero, hz] at hj; cases hj; omega
  · have := h.at hz hj (by omega); omega

/-- One more element, unless it is the last one again. -/
def push1 (acc : List Int) (z : Int) : List Int := if acc.getLast? = some z then acc else acc ++ [z]
def comp (zs : List Int) : List Int := zs.foldl push1 []
theorem comp_snoc (zs : List Int) (z : Int) : comp (zs ++ [z]) = push1 (comp zs) z := by simp [comp, List.foldl_append]
theorem comp_last (zs : List Int) : (comp zs).getLast? = zs.getLast? := by
  suffices ∀ (m : Nat) (l : List Int), l.length = m → (comp l).getLast? = l.getLast? from this _ zs rfl
  intro m
  induction m with
  | zero =>
    intro l hl
    have : l = [] := List.eq_nil_of_length_eq_zero hl
    subst this; rfl
  | succ m ih =>
    intro l hl
    have hne : l ≠ [] := by rintro rfl; cases hl
    obtain ⟨q, z, rfl⟩ : ∃ q z, l = q ++ [z] := ⟨_, _, (List.dropLast_concat_getLast hne).symm⟩
    rw [comp_snoc]
    unfold push1
    split
    · rename_i h; rw [h]; simp
    · simp
theorem comp_len (zs : List Int) : (comp zs).length ≤ zs.length := by
  suffices ∀ (acc : List Int), (zs.foldl push1 acc).length ≤ acc.length + zs.length by
    have := this []
    rw [List.length_nil, Nat.zero_add] at this
    exact this
  induction zs with
  | nil => intro acc; exact Nat.le_refl _
  | cons z r ih =>
    intro acc
    have h1 := ih (push1 acc z)
    have h2 : (push1 acc z).length ≤ acc.length + 1 := by unfold push1; split <;> simp
    show (r.foldl push1 (push1 acc z)).length ≤ acc.length + (r.length + 1)
    omega
theorem comp_mem {zs : List Int} {m : Int} (h : m ∈ comp zs) : m ∈ zs := by
  suffices ∀ acc : List Int, m ∈ zs.foldl push1 acc → m ∈ acc ∨ m ∈ zs by
    rcases this [] h with h | h
    · cases h
    · exact h
  clear h
  induction zs with
  | nil => intro acc h; exact .inl h
  | cons z r ih =>
    intro acc h
    rcases ih (push1 acc z) h with h | h
    · unfold push1 at h
      split at h
      · exact .inl h
      · rcases List.mem_append.1 h with h | h
        · exact .inl h
        · right; rw [List.mem_singleton] at h; subst h; exact List.mem_cons_self ..
    · exact .inr (List.mem_cons_of_mem _ h)
theorem take_last {zs : List Int} {j : Nat} {y : Int} (h : zs[j]? = some y) : (zs.take (j + 1)).getLast? = some y := by
  rw [List.take_add_one, h]; simp
/-- The step of the second loop: the element before is the last one so far. -/
theorem comp_step {zs : List Int} {j : Nat} {y z : Int} (hy : zs[j]? = some y) (hz : zs[j + 1]? = some z) : comp (zs.take (j + 1 + 1)) = if z = y then comp (zs.take (j + 1)) else comp (zs.take (j + 1)) ++ [z] := by
  rw [List.take_add_one (i := j + 1), hz]
  show comp (zs.take (j + 1) ++ [z]) = _
  rw [comp_snoc]
  unfold push1
  rw [comp_last, take_last hy]
  by_cases e : z = y
  · rw [if_pos e, e, if_pos rfl]
  · rw [if_neg e, if_neg (fun h => e (by injection h with h; exact h.symm))]
/-- .. and as long as nothing has been left out. -/
theorem comp_all {zs : List Int} {j : Nat} {y z : Int} (hy : zs[j]? = some y) (hz : zs[j + 1]? = some z) (h : comp (zs.take (j + 1)) = zs.take (j + 1)) (hne : z ≠ y) : comp (zs.take (j + 1 + 1)) = zs.take (j + 1 + 1) := by
  rw [comp_step hy hz, if_neg hne, h, List.take_add_one (i := j + 1), hz]; rfl
theorem comp_one {zs : List Int} (h : 1 ≤ zs.length) : comp (zs.take 1) = zs.take 1 := by
  rcases zs with _ | ⟨z, r⟩
  · cases h
  · rfl

theorem fold_asc (r : List Int) (acc : List Int) (h : Asc (acc ++ r)) : r.foldl push1 acc = acc ++ r := by
  induction r generalizing acc with
  | nil => simp
  | cons y r ih =>
    have hp : push1 acc y = acc ++ [y] := by
      unfold push1
      rw [if_neg]
      intro hl
      have hm := List.mem_of_getLast? hl
      have := (List.pairwise_append.1 h).2.2 y hm y (by simp)
      omega
    show r.foldl push1 (push1 acc y) = _
    rw [hp, ih (acc ++ [y]) (by simpa using h)]; simp
theorem comp_asc {zs : List Int} (h : Asc zs) : comp zs = zs := by
  have := fold_asc zs [] h
  simpa [comp] using this

/-- The code's way to insert: put it in its place, then leave out what stands twice. -/
theorem comp_add {zs : List Int} (h : Asc zs) {k : Int} {i : Nat} (h1 : AllLess k (zs.take i)) (h2 : AllFrom k (zs.drop i)) : comp (zs.take i ++ [k] ++ zs.drop i) = add k zs := by
  have ha : Asc (zs.take i ++ zs.drop i) := by rw [List.take_append_drop]; exact h
  obtain ⟨a1, a2, a3⟩ := List.pairwise_append.1 ha
  have ak : Asc (zs.take i ++ [k]) := List.pairwise_append.2 ⟨a1, List.pairwise_singleton .., fun x hx y hy => by
    rw [List.mem_singleton] at hy; subst hy; exact h1 x hx⟩
  have e0 : comp (zs.take i ++ [k] ++ zs.drop i) = (zs.drop i).foldl push1 (zs.take i ++ [k]) := by
    have := comp_asc ak
    unfold comp at this ⊢
    rw [List.foldl_append, this]
  rw [e0, add_skip (i := i) h1]
  rcases hd : zs.drop i with _ | ⟨y, r⟩
  · rfl
  · rw [hd] at h2 a2 a3
    have hy := h2 y (by simp)
    by_cases e : y = k
    · subst e
      have hp : push1 (zs.take i ++ [y]) y = zs.take i ++ [y] := by simp [push1]
      show r.foldl push1 (push1 (zs.take i ++ [y]) y) = _
      rw [hp, fold_asc r (zs.take i ++ [y]) (by rw [List.append_assoc]; exact List.pairwise_append.2 ⟨a1, a2, a3⟩), add_cons, if_neg (by omega), if_pos rfl]; simp
    · rw [add_cons, if_neg (by omega), if_neg e]
      have := fold_asc (y :: r) (zs.take i ++ [k]) (List.pairwise_append.2 ⟨ak, a2, fun x hx z hz => by
        have hzy : y ≤ z := by
          rcases List.mem_cons.1 hz with rfl | hz
          · exact Int.le_refl _
          · have := (List.pairwise_cons.1 a2).1 z hz; omega
        rcases List.mem_append.1 hx with hx | hx
        · have := h1 x hx; omega
        · rw [List.mem_singleton] at hx; omega⟩)
      rw [this]; simp

/-- What is written so far, and the rest as it was. -/
theorem mixed_at {A zs : List Int} {kk i : Nat} (hA : A.length = kk) (hi : kk ≤ i) : (A ++ zs.drop kk)[i]? = zs[i]? := by
  rw [List.getElem?_append_right (by omega), List.getElem?_drop]; congr 1; omega
theorem mixed_len {A zs : List Int} {kk : Nat} (hA : A.length = kk) (hk : kk ≤ zs.length) : (A ++ zs.drop kk).length = zs.length := by simp; omega
theorem mixed_set {A zs : List Int} {kk : Nat} (hA : A.length = kk) (hk : kk < zs.length) (z : Int) : (A ++ zs.drop kk).set kk z = (A ++ [z]) ++ zs.drop (kk + 1) := by
  rw [List.set_append_right _ _ (by omega), List.drop_eq_getElem_cons hk, hA, Nat.sub_self, List.set_cons_zero, List.append_assoc]; rfl

end Go.Proofs.Ytlmifbbmppenoaa.S3
