/-
  Fields of messages, as lists of numbers: what the functions of chapter 5 write and read.
-/
import Derived.Test.YtdhjhpmbgfefbaaBytesPlain
namespace Go.Proofs.Ytdhjhpmbgfefbaa.S5

def be4 (n : Int) : List Int := [n / 16777216 % 256, n / 65536 % 256, n / 256 % 256, n % 256]
def le4 (n : Int) : List Int := [n % 256, n / 256 % 256, n / 65536 % 256, n / 16777216 % 256]
def be2 (n : Int) : List Int := [n / 256 % 256, n % 256]
def le2 (n : Int) : List Int := [n % 256, n / 256 % 256]
/-- A number in four bytes, in two, in one. -/
def num4 (l : Bool) (n : Int) : List Int := if l then le4 n else be4 n
def num2 (l : Bool) (n : Int) : List Int := if l then le2 n else be2 n
def num1 (n : Int) : List Int := [n % 256]
theorem num4_len (l : Bool) (n : Int) : (num4 l n).length = 4 := by cases l <;> rfl
theorem num2_len (l : Bool) (n : Int) : (num2 l n).length = 2 := by cases l <;> rfl
theorem num4_range (l : Bool) (n : Int) : ∀ z ∈ num4 l n, 0 ≤ z ∧ z ≤ 255 := by
  intro z hz
  cases l <;> simp only [num4, be4, le4, if_true, if_false, Bool.false_eq_true, List.mem_cons, List.not_mem_nil, or_false] at hz <;> rcases hz with rfl | rfl | rfl | rfl <;> omega
theorem num2_range (l : Bool) (n : Int) : ∀ z ∈ num2 l n, 0 ≤ z ∧ z ≤ 255 := by
  intro z hz
  cases l <;> simp only [num2, be2, le2, if_true, if_false, Bool.false_eq_true, List.mem_cons, List.not_mem_nil, or_false] at hz <;> rcases hz with rfl | rfl <;> omega
theorem num1_range (n : Int) : ∀ z ∈ num1 n, 0 ≤ z ∧ z ≤ 255 := by
  intro z hz
  simp only [num1, List.mem_cons, List.not_mem_nil, or_false] at hz
  subst hz; omega
theorem num4_rev (l : Bool) (n : Int) : num4 (!l) n = (num4 l n).reverse := by cases l <;> rfl

/-- Zeros up to the next multiple of eight. -/
def padN (n : Nat) : Nat := (8 - n % 8) % 8
def pad (zs : List Int) : List Int := zs ++ List.replicate (padN zs.length) 0
theorem pad_range {zs : List Int} (h : ∀ n ∈ zs, 0 ≤ n ∧ n ≤ 255) (k : Nat) : ∀ n ∈ zs ++ List.replicate k 0, 0 ≤ n ∧ n ≤ 255 := by
  intro n hn
  rcases List.mem_append.1 hn with hn | hn
  · exact h n hn
  · have := List.eq_of_mem_replicate hn; omega
/-- A text, and three texts. -/
def text (s : List Int) : List Int := s ++ [0]
def three (a b c : List Int) : List Int := text a ++ text b ++ text c

/-- Reading k bytes at an index: the error, the value, the index behind. -/
def part (zs : List Int) (at' : Int) (k : Nat) : List Int := (zs.drop at'.toNat).take k
def getE (zs : List Int) (at' : Int) (k : Nat) : Int := if at' < 0 ∨ (zs.length : Int) < at' then 104 else if (zs.length : Int) - at' < k then 101 else 0
def getV (zs : List Int) (at' : Int) (k : Nat) (l : Bool) : Int := if getE zs at' k = 0 then (if l then S3.num (part zs at' k).reverse else S3.num (part zs at' k)) else 0
def getN (zs : List Int) (at' : Int) (k : Nat) : Int := if getE zs at' k = 0 then at' + k else 0
theorem get_range {zs : List Int} {at' : Int} {k : Nat} {l : Bool} (h : at' < 0 ∨ (zs.length : Int) < at') : getE zs at' k = 104 ∧ getV zs at' k l = 0 ∧ getN zs at' k = 0 := by
  have e : getE zs at' k = 104 := by unfold getE; rw [if_pos h]
  exact ⟨e, by simp [getV, e], by simp [getN, e]⟩
theorem get_cut {zs : List Int} {at' : Int} {k : Nat} {l : Bool} (h : ¬ (at' < 0 ∨ (zs.length : Int) < at')) (g : (zs.length : Int) - at' < k) : getE zs at' k = 101 ∧ getV zs at' k l = 0 ∧ getN zs at' k = 0 := by
  have e : getE zs at' k = 101 := by unfold getE; rw [if_neg h, if_pos g]
  exact ⟨e, by simp [getV, e], by simp [getN, e]⟩
theorem get_ok {zs : List Int} {at' : Int} {k : Nat} {l : Bool} (h : ¬ (at' < 0 ∨ (zs.length : Int) < at')) (g : ¬ (zs.length : Int) - at' < k) :
    getE zs at' k = 0 ∧ getV zs at' k l = (if l then S3.num (part zs at' k).reverse else S3.num (part zs at' k)) ∧ getN zs at' k = at' + k := by
  have e : getE zs at' k = 0 := by unfold getE; rw [if_neg h, if_neg g]
  exact ⟨e, by unfold getV; rw [if_pos e], by unfold getN; rw [if_pos e]⟩

theorem part_len {zs : List Int} {at' : Int} {k : Nat} (h : getE zs at' k = 0) : (part zs at' k).length = k ∧ 0 ≤ at' := by
  unfold getE at h
  split at h
  · omega
  · split at h
    · omega
    · refine ⟨?_, by omega⟩
      unfold part
      rw [List.length_take, List.length_drop]
      omega
theorem getV_ok {zs : List Int} {at' : Int} {k : Nat} (l : Bool) (h : getE zs at' k = 0) : getV zs at' k l = (if l then S3.num (part zs at' k).reverse else S3.num (part zs at' k)) ∧ getN zs at' k = at' + k :=
  ⟨by unfold getV; rw [if_pos h], by unfold getN; rw [if_pos h]⟩
theorem list4 {xs : List Int} {a b c d : Int} (h : xs.length = 4) (h0 : xs[0]? = some a) (h1 : xs[1]? = some b) (h2 : xs[2]? = some c) (h3 : xs[3]? = some d) : xs = [a, b, c, d] := by
  match xs, h with
  | [x, y, z, t], _ => simp at h0 h1 h2 h3; subst h0 h1 h2 h3; rfl
theorem list2 {xs : List Int} {a b : Int} (h : xs.length = 2) (h0 : xs[0]? = some a) (h1 : xs[1]? = some b) : xs = [a, b] := by
  match xs, h with
  | [x, y], _ => simp at h0 h1; subst h0 h1; rfl
theorem list1 {xs : List Int} {a : Int} (h : xs.length = 1) (h0 : xs[0]? = some a) : xs = [a] := by
  match xs, h with
  | [x], _ => simp at h0; subst h0; rfl

/-- Reading n bytes at an index. -/
def byE (zs : List Int) (at' n : Int) : Int := if (at' < 0 ∨ (zs.length : Int) < at') ∨ n < 0 then 104 else if (zs.length : Int) - at' < n then 101 else 0
def byS (zs : List Int) (at' n : Int) : List Int := if byE zs at' n = 0 then part zs at' n.toNat else []
def byN (zs : List Int) (at' n : Int) : Int := if byE zs at' n = 0 then at' + n else 0
theorem by_range {zs : List Int} {at' n : Int} (h : (at' < 0 ∨ (zs.length : Int) < at') ∨ n < 0) : byE zs at' n = 104 ∧ byS zs at' n = [] ∧ byN zs at' n = 0 := by
  have e : byE zs at' n = 104 := by unfold byE; rw [if_pos h]
  exact ⟨e, by simp [byS, e], by simp [byN, e]⟩
theorem by_cut {zs : List Int} {at' n : Int} (h : ¬ ((at' < 0 ∨ (zs.length : Int) < at') ∨ n < 0)) (g : (zs.length : Int) - at' < n) : byE zs at' n = 101 ∧ byS zs at' n = [] ∧ byN zs at' n = 0 := by
  have e : byE zs at' n = 101 := by unfold byE; rw [if_neg h, if_pos g]
  exact ⟨e, by simp [byS, e], by simp [byN, e]⟩
theorem by_ok {zs : List Int} {at' n : Int} (h : ¬ ((at' < 0 ∨ (zs.length : Int) < at') ∨ n < 0)) (g : ¬ (zs.length : Int) - at' < n) : byE zs at' n = 0 ∧ byS zs at' n = part zs at' n.toNat ∧ byN zs at' n = at' + n := by
  have e : byE zs at' n = 0 := by unfold byE; rw [if_neg h, if_neg g]
  exact ⟨e, by unfold byS; rw [if_pos e], by unfold byN; rw [if_pos e]⟩
theorem by_get (zs : List Int) (at' : Int) (k : Nat) : byE zs at' k = getE zs at' k := by
  unfold byE getE
  have : ¬ ((k : Int) < 0) := by omega
  simp [this]

/-- Reading a text: what lies before the next zero among forty bytes. -/
def near (zs : List Int) (at' : Int) : List Int := (zs.drop at'.toNat).take 40
def upto (l : List Int) : List Int := l.takeWhile (fun z => z != 0)
def txE (zs : List Int) (at' : Int) : Int := if at' < 0 ∨ (zs.length : Int) < at' then 104 else if (near zs at').contains 0 then 0 else if (zs.length : Int) - at' < 40 then 101 else 105
def txS (zs : List Int) (at' : Int) : List Int := if txE zs at' = 0 then upto (near zs at') else []
def txN (zs : List Int) (at' : Int) : Int := if txE zs at' = 0 then at' + (upto (near zs at')).length + 1 else 0

theorem tx_err {zs : List Int} {at' : Int} (h : txE zs at' ≠ 0) : txS zs at' = [] ∧ txN zs at' = 0 := by simp [txS, txN, h]
theorem tx_range {zs : List Int} {at' : Int} (h : at' < 0 ∨ (zs.length : Int) < at') : txE zs at' = 104 ∧ txS zs at' = [] ∧ txN zs at' = 0 := by
  have e : txE zs at' = 104 := by unfold txE; rw [if_pos h]
  exact ⟨e, tx_err (by rw [e]; decide)⟩
/-- None of the first m bytes from an index on is zero. -/
def Free (zs : List Int) (at' : Int) (m : Nat) : Prop := ∀ i, i < m → ∃ z, zs[at'.toNat + i]? = some z ∧ z ≠ 0

theorem near_at {zs : List Int} {at' : Int} {i : Nat} (hi : i < 40) : (near zs at')[i]? = zs[at'.toNat + i]? := by
  unfold near; rw [List.getElem?_take, if_pos hi, List.getElem?_drop]
theorem upto_free {l : List Int} {m : Nat} (h : ∀ i, i < m → ∃ z, l[i]? = some z ∧ z ≠ 0) (h0 : l[m]? = some 0) : upto l = l.take m ∧ l.contains 0 = true := by
  induction m generalizing l with
  | zero =>
    match l, h0 with
    | z :: r, h0 => simp at h0; subst h0; simp [upto]
  | succ m ih =>
    match l with
    | [] => simp at h0
    | z :: r =>
      obtain ⟨z', e, hz⟩ := h 0 (by omega)
      simp at e; subst e
      have ih' := ih (l := r) (fun i hi => by simpa using h (i + 1) (by omega)) (by simpa using h0)
      refine ⟨?_, ?_⟩
      · unfold upto at ih' ⊢
        rw [List.takeWhile_cons_of_pos (by simpa using hz), List.take_succ_cons, ih'.1]
      · have := ih'.2
        rw [List.contains_iff_mem] at this ⊢
        exact List.mem_cons_of_mem _ this
theorem none_free {l : List Int} (h : ∀ i, i < l.length → ∃ z, l[i]? = some z ∧ z ≠ 0) : l.contains 0 = false := by
  rcases e : l.contains 0
  · rfl
  · rw [List.contains_iff_mem] at e
    obtain ⟨i, hi, hz⟩ := List.getElem_of_mem e
    obtain ⟨z, h1, h2⟩ := h i hi
    rw [List.getElem?_eq_getElem hi, hz] at h1
    simp at h1; exact absurd h1.symm h2

theorem tx_hit {zs : List Int} {at' : Int} {m : Nat} (h : ¬ (at' < 0 ∨ (zs.length : Int) < at')) (hm : m < 40) (hf : Free zs at' m) (h0 : zs[at'.toNat + m]? = some 0) :
    txE zs at' = 0 ∧ txS zs at' = (zs.drop at'.toNat).take m ∧ txN zs at' = at' + m + 1 := by
  obtain ⟨e1, e2⟩ := upto_free (l := near zs at') (m := m) (fun i hi => by rw [near_at (by omega)]; exact hf i hi) (by rw [near_at hm]; exact h0)
  have hlen : m ≤ (zs.drop at'.toNat).length := by
    rcases Nat.lt_or_ge (at'.toNat + m) zs.length with q | q
    · simp; omega
    · rw [List.getElem?_eq_none q] at h0; cases h0
  have e3 : upto (near zs at') = (zs.drop at'.toNat).take m := by
    rw [e1]; unfold near; rw [List.take_take]; congr 1; omega
  have e : txE zs at' = 0 := by unfold txE; rw [if_neg h, if_pos e2]
  refine ⟨e, by unfold txS; rw [if_pos e, e3], ?_⟩
  unfold txN
  rw [if_pos e, e3, List.length_take, Nat.min_eq_left hlen]
theorem tx_end {zs : List Int} {at' : Int} {m : Nat} (h : ¬ (at' < 0 ∨ (zs.length : Int) < at')) (hm : m < 40) (hf : Free zs at' m) (h0 : (zs.length : Int) ≤ at' + m) : txE zs at' = 101 ∧ txS zs at' = [] ∧ txN zs at' = 0 := by
  have hl : (near zs at').length ≤ m := by unfold near; rw [List.length_take, List.length_drop]; omega
  have e2 := none_free (l := near zs at') (fun i hi => by rw [near_at (by omega)]; exact hf i (by omega))
  have e : txE zs at' = 101 := by unfold txE; rw [if_neg h, e2]; simp; omega
  exact ⟨e, tx_err (by rw [e]; decide)⟩
theorem tx_long {zs : List Int} {at' : Int} (h : ¬ (at' < 0 ∨ (zs.length : Int) < at')) (hf : Free zs at' 40) : txE zs at' = 105 ∧ txS zs at' = [] ∧ txN zs at' = 0 := by
  have hl : (zs.length : Int) ≥ at' + 40 := by
    obtain ⟨z, h1, _⟩ := hf 39 (by omega)
    rcases Nat.lt_or_ge (at'.toNat + 39) zs.length with q | q
    · omega
    · rw [List.getElem?_eq_none q] at h1; cases h1
  have e2 := none_free (l := near zs at') (fun i hi => by
    have : i < 40 := by unfold near at hi; rw [List.length_take] at hi; omega
    rw [near_at this]; exact hf i this)
  have e : txE zs at' = 105 := by unfold txE; rw [if_neg h, e2]; simp; omega
  exact ⟨e, tx_err (by rw [e]; decide)⟩
theorem tx_range' {zs : List Int} (hb : ∀ n ∈ zs, 0 ≤ n ∧ n ≤ 255) (at' : Int) : ∀ n ∈ txS zs at', 0 ≤ n ∧ n ≤ 255 := by
  intro n hn
  unfold txS at hn
  split at hn
  · exact hb n (List.mem_of_mem_drop (List.mem_of_mem_take (List.takeWhile_subset _ hn)))
  · cases hn
theorem Free.zero (zs : List Int) (at' : Int) : Free zs at' 0 := fun i hi => absurd hi (Nat.not_lt_zero i)
theorem Free.step {zs : List Int} {at' : Int} {m : Nat} {z : Int} (h : Free zs at' m) (hz : zs[at'.toNat + m]? = some z) (hne : z ≠ 0) : Free zs at' (m + 1) := by
  intro i hi
  rcases Nat.lt_or_ge i m with q | q
  · exact h i q
  · have : i = m := by omega
    subst this; exact ⟨z, hz, hne⟩

end Go.Proofs.Ytdhjhpmbgfefbaa.S5
