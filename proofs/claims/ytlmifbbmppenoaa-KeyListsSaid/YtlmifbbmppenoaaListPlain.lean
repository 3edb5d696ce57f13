/-
  Lists of numbers: whether one is in it, the places, ascending lists.
-/
import Derived.Test.YtlmifbbmppenoaaProg
namespace Go.Proofs.Ytlmifbbmppenoaa.S3

def has (k : Int) (zs : List Int) : Bool := decide (k ∈ zs)
theorem has_iff {k : Int} {zs : List Int} : has k zs = true ↔ k ∈ zs := by simp [has]
theorem has_no {k : Int} {zs : List Int} : has k zs = false ↔ k ∉ zs := by simp [has]
theorem has_nil (k : Int) : has k [] = false := rfl
theorem has_snoc (k z : Int) (zs : List Int) : has k (zs ++ [z]) = (has k zs || decide (k = z)) := by
  unfold has; rw [← Bool.decide_or, decide_eq_decide]; simp
theorem has_take_succ {k z : Int} {zs : List Int} {i : Nat} (h : zs[i]? = some z) : has k (zs.take (i + 1)) = (has k (zs.take i) || decide (k = z)) := by
  rw [List.take_add_one, h]; exact has_snoc k z _
theorem has_take_hit {z : Int} {zs : List Int} {i : Nat} (h : zs[i]? = some z) : has z zs = true := by
  rw [has_iff]; exact List.mem_of_getElem? h

/-- The first place of k, -1 if there is none. -/
def idx (k : Int) : List Int → Int
  | [] => -1
  | z :: r => if z = k then 0 else if idx k r < 0 then -1 else idx k r + 1
theorem idx_no {k : Int} {zs : List Int} (h : has k zs = false) : idx k zs = -1 := by
  rw [has_no] at h
  induction zs with
  | nil => rfl
  | cons z r ih =>
    simp at h
    unfold idx
    rw [if_neg (fun e => h.1 e.symm), ih h.2]; rfl
theorem idx_hit {k : Int} {zs : List Int} {i : Nat} (h : zs[i]? = some k) (hn : has k (zs.take i) = false) : idx k zs = i := by
  rw [has_no] at hn
  induction zs generalizing i with
  | nil => simp at h
  | cons z r ih =>
    rcases i with _ | i
    · simp at h; subst h; simp [idx]
    · simp at h hn
      have e := ih h hn.2
      unfold idx
      rw [if_neg (fun e => hn.1 e.symm), e, if_neg (by omega)]; simp
theorem idx_ge (k : Int) (zs : List Int) : decide (0 ≤ idx k zs) = has k zs := by
  rcases h : has k zs
  · rw [idx_no h]; rfl
  · rw [has_iff] at h
    induction zs with
    | nil => cases h
    | cons z r ih =>
      unfold idx
      by_cases e : z = k
      · simp [e]
      · have hr : k ∈ r := by
          rcases List.mem_cons.1 h with rfl | h'
          · exact absurd rfl e
          · exact h'
        have := ih hr
        simp at this
        rw [if_neg e, if_neg (by omega)]; simp; omega

/-- A list with k in it: where it belongs in an ascending one. -/
def add (k : Int) : List Int → List Int
  | [] => [k]
  | z :: r => if z < k then z :: add k r else if z = k then z :: r else k :: z :: r

theorem add_cons (k z : Int) (r : List Int) : add k (z :: r) = if z < k then z :: add k r else if z = k then z :: r else k :: z :: r := rfl

theorem add_end {k : Int} {zs : List Int} (h : ∀ z ∈ zs, z < k) : add k zs = zs ++ [k] := by
  induction zs with
  | nil => rfl
  | cons z r ih =>
    have hz := h z (List.mem_cons_self ..)
    unfold add
    rw [if_pos hz, ih fun y hy => h y (List.mem_cons_of_mem _ hy)]; rfl
theorem add_skip {k : Int} {zs : List Int} {i : Nat} (h : ∀ z ∈ zs.take i, z < k) : add k zs = zs.take i ++ add k (zs.drop i) := by
  induction zs generalizing i with
  | nil => simp
  | cons z r ih =>
    rcases i with _ | i
    · simp
    · have hz := h z (by simp)
      show add k (z :: r) = z :: (r.take i ++ add k (r.drop i))
      rw [add_cons, if_pos hz, ih fun y hy => h y (by rw [List.take_succ_cons]; exact List.mem_cons_of_mem _ hy)]
theorem add_hit {k : Int} {zs : List Int} {i : Nat} (h : ∀ z ∈ zs.take i, z < k) (g : zs[i]? = some k) : add k zs = zs := by
  have hi := (List.getElem?_eq_some_iff.1 g).1
  rw [add_skip h, List.drop_eq_getElem_cons hi, (List.getElem?_eq_some_iff.1 g).2]
  rw [show add k (k :: zs.drop (i + 1)) = k :: zs.drop (i + 1) by unfold add; simp]
  rw [← (List.getElem?_eq_some_iff.1 g).2, ← List.drop_eq_getElem_cons hi, List.take_append_drop]
theorem add_in {k : Int} {zs : List Int} {i : Nat} {y : Int} (h : ∀ z ∈ zs.take i, z < k) (g : zs[i]? = some y) (hy : ¬ y < k) (hne : y ≠ k) : add k zs = zs.take i ++ k :: zs.drop i := by
  have hi := (List.getElem?_eq_some_iff.1 g).1
  rw [add_skip h, List.drop_eq_getElem_cons hi, (List.getElem?_eq_some_iff.1 g).2]
  congr 1
  unfold add
  rw [if_neg hy, if_neg hne]
theorem add_len (k : Int) (zs : List Int) : (add k zs).length ≤ zs.length + 1 := by
  induction zs with
  | nil => exact Nat.le_refl _
  | cons z r ih =>
    unfold add
    split
    · simp; omega
    · split <;> simp
theorem add_mem {k y : Int} {zs : List Int} (h : y ∈ add k zs) : y = k ∨ y ∈ zs := by
  induction zs with
  | nil => left; simpa [add] using h
  | cons z r ih =>
    unfold add at h
    split at h
    · rcases List.mem_cons.1 h with rfl | h
      · right; exact List.mem_cons_self ..
      · rcases ih h with h | h
        · exact .inl h
        · exact .inr (List.mem_cons_of_mem _ h)
    · split at h
      · exact .inr h
      · rcases List.mem_cons.1 h with h | h
        · exact .inl h
        · exact .inr h
theorem add_has (k : Int) (zs : List Int) : k ∈ add k zs := by
  induction zs with
  | nil => simp [add]
  | cons z r ih =>
    unfold add
    split
    · exact List.mem_cons_of_mem _ ih
    · split
      · rename_i h; subst h; exact List.mem_cons_self ..
      · exact List.mem_cons_self ..

/-- Ascending, each once. -/
def Asc (zs : List Int) : Prop := zs.Pairwise (· < ·)
theorem Asc.nil : Asc [] := List.Pairwise.nil
theorem Asc.add {k : Int} {zs : List Int} (h : Asc zs) : Asc (add k zs) := by
  induction zs with
  | nil => exact List.pairwise_singleton ..
  | cons z r ih =>
    obtain ⟨h1, h2⟩ := List.pairwise_cons.1 h
    unfold S3.add
    split
    · rename_i hz
      refine List.pairwise_cons.2 ⟨fun y hy => ?_, ih h2⟩
      rcases add_mem hy with rfl | hy
      · exact hz
      · exact h1 y hy
    · rename_i hz
      split
      · exact h
      · rename_i hne
        refine List.pairwise_cons.2 ⟨fun y hy => ?_, h⟩
        rcases List.mem_cons.1 hy with rfl | hy
        · omega
        · have := h1 y hy; omega

/-- Insert many. -/
def adds (f : Int → Int) (bs : List Int) : List Int := bs.foldl (fun l b => add (f b) l) []
theorem adds_nil (f : Int → Int) : adds f [] = [] := rfl
theorem adds_snoc (f : Int → Int) (bs : List Int) (b : Int) : adds f (bs ++ [b]) = add (f b) (adds f bs) := by simp [adds, List.foldl_append]
theorem adds_take {f : Int → Int} {bs : List Int} {j : Nat} {b : Int} (h : bs[j]? = some b) : adds f (bs.take (j + 1)) = add (f b) (adds f (bs.take j)) := by rw [List.take_add_one, h]; exact adds_snoc f _ b
theorem adds_facts (f : Int → Int) (bs : List Int) : Asc (adds f bs) ∧ (adds f bs).length ≤ bs.length ∧ ∀ n ∈ adds f bs, ∃ b ∈ bs, n = f b := by
  suffices ∀ (m : Nat) (l : List Int), l.length = m → Asc (adds f l) ∧ (adds f l).length ≤ l.length ∧ ∀ n ∈ adds f l, ∃ b ∈ l, n = f b from this _ bs rfl
  intro m
  induction m with
  | zero =>
    intro l hl
    have : l = [] := List.eq_nil_of_length_eq_zero hl
    subst this
    exact ⟨Asc.nil, Nat.le_refl _, fun n hn => by simp [adds] at hn⟩
  | succ m ih =>
    intro l hl
    have hne : l ≠ [] := by rintro rfl; cases hl
    obtain ⟨q, z, rfl⟩ : ∃ q z, l = q ++ [z] := ⟨_, _, (List.dropLast_concat_getLast hne).symm⟩
    obtain ⟨h1, h2, h3⟩ := ih q (by simpa using hl)
    rw [adds_snoc]
    refine ⟨h1.add, ?_, fun n hn => ?_⟩
    · have := add_len (f z) (adds f q); simp; omega
    · rcases add_mem hn with rfl | hn
      · exact ⟨z, by simp, rfl⟩
      · obtain ⟨b, hb, e⟩ := h3 n hn
        exact ⟨b, by simp [hb], e⟩

end Go.Proofs.Ytlmifbbmppenoaa.S3
