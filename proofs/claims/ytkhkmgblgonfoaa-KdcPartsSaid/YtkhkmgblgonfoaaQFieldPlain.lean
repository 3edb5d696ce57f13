/-
  What the proof wants: FieldPlain, FieldPlainB, FieldTrip, SlStr, FieldAt, HdPlain, RqPlain, ErPlain, RpPlain, PtPlain, BoxPlain, TkPlain.
-/
import Derived.Test.YtkhkmgblgonfoaaQKeyPlain
import Derived.Test.YtkhkmgblgonfoaaQPlainA
import Derived.Laws.BytesArg
import Derived.Test.YtkhkmgblgonfoaaQBase
import Derived.Lib.AppendStr

/-
  Fields of messages, as lists of numbers: what the functions of chapter 5 write and read.
-/
namespace Go.Proofs.Ytkhkmgblgonfoaa.S5

def be4 (n : Int) : List Int := [n / 16777216 % 256, n / 65536 % 256, n / 256 % 256, n % 256]
def le4 (n : Int) : List Int := [n % 256, n / 256 % 256, n / 65536 % 256, n / 16777216 % 256]
def be2 (n : Int) : List Int := [n / 256 % 256, n % 256]
def le2 (n : Int) : List Int := [n % 256, n / 256 % 256]
/-- A number in four bytes, in two, in one. -/
def num4 (l : Bool) (n : Int) : List Int := if l then le4 n else be4 n
def num2 (l : Bool) (n : Int) : List Int := if l then le2 n else be2 n
def num1 (n : Int) : List Int := [n % 256]
theorem num4_len (l : Bool) (n : Int) : (num4 l n).length = 4 := by cases l <;> rfl
theorem num2_len (l : Bool) (n : Int) : (num2 l n).length = 2 := by cases l <;> rfl
theorem num4_range (l : Bool) (n : Int) : ∀ z ∈ num4 l n, 0 ≤ z ∧ z ≤ 255 := by
  intro z hz
  cases l <;> simp only [num4, be4, le4, if_true, if_false, Bool.false_eq_true, List.mem_cons, List.not_mem_nil, or_false] at hz <;> rcases hz with rfl | rfl | rfl | rfl <;> omega
theorem num2_range (l : Bool) (n : Int) : ∀ z ∈ num2 l n, 0 ≤ z ∧ z ≤ 255 := by
  intro z hz
  cases l <;> simp only [num2, be2, le2, if_true, if_false, Bool.false_eq_true, List.mem_cons, List.not_mem_nil, or_false] at hz <;> rcases hz with rfl | rfl <;> omega
theorem num1_range (n : Int) : ∀ z ∈ num1 n, 0 ≤ z ∧ z ≤ 255 := by
  intro z hz
  simp only [num1, List.mem_cons, List.not_mem_nil, or_false] at hz
  subst hz; omega
theorem num4_rev (l : Bool) (n : Int) : num4 (!l) n = (num4 l n).reverse := by cases l <;> rfl

/-- Zeros up to the next multiple of eight. -/
def padN (n : Nat) : Nat := (8 - n % 8) % 8
def pad (zs : List Int) : List Int := zs ++ List.replicate (padN zs.length) 0
theorem pad_range {zs : List Int} (h : ∀ n ∈ zs, 0 ≤ n ∧ n ≤ 255) (k : Nat) : ∀ n ∈ zs ++ List.replicate k 0, 0 ≤ n ∧ n ≤ 255 := by
  intro n hn
  rcases List.mem_append.1 hn with hn | hn
  · exact h n hn
  · have := List.eq_of_mem_replicate hn; omega
/-- A text, and three texts. -/
def text (s : List Int) : List Int := s ++ [0]
def three (a b c : List Int) : List Int := text a ++ text b ++ text c

/-- Reading k bytes at an index: the error, the value, the index behind. -/
def part (zs : List Int) (at' : Int) (k : Nat) : List Int := (zs.drop at'.toNat).take k
def getE (zs : List Int) (at' : Int) (k : Nat) : Int := if at' < 0 ∨ (zs.length : Int) < at' then 104 else if (zs.length : Int) - at' < k then 101 else 0
def getV (zs : List Int) (at' : Int) (k : Nat) (l : Bool) : Int := if getE zs at' k = 0 then (if l then S3.num (part zs at' k).reverse else S3.num (part zs at' k)) else 0
def getN (zs : List Int) (at' : Int) (k : Nat) : Int := if getE zs at' k = 0 then at' + k else 0
theorem get_range {zs : List Int} {at' : Int} {k : Nat} {l : Bool} (h : at' < 0 ∨ (zs.length : Int) < at') : getE zs at' k = 104 ∧ getV zs at' k l = 0 ∧ getN zs at' k = 0 := by
  have e : getE zs at' k = 104 := by unfold getE; rw [if_pos h]
  exact ⟨e, by simp [getV, e], by simp [getN, e]⟩
theorem get_cut {zs : List Int} {at' : Int} {k : Nat} {l : Bool} (h : ¬ (at' < 0 ∨ (zs.length : Int) < at')) (g : (zs.length : Int) - at' < k) : getE zs at' k = 101 ∧ getV zs at' k l = 0 ∧ getN zs at' k = 0 := by
  have e : getE zs at' k = 101 := by unfold getE; rw [if_neg h, if_pos g]
  exact ⟨e, by simp [getV, e], by simp [getN, e]⟩
theorem get_ok {zs : List Int} {at' : Int} {k : Nat} {l : Bool} (h : ¬ (at' < 0 ∨ (zs.length : Int) < at')) (g : ¬ (zs.length : Int) - at' < k) :
    getE zs at' k = 0 ∧ getV zs at' k l = (if l then S3.num (part zs at' k).reverse else S3.num (part zs at' k)) ∧ getN zs at' k = at' + k := by
  have e : getE zs at' k = 0 := by unfold getE; rw [if_neg h, if_neg g]
  exact ⟨e, by unfold getV; rw [if_pos e], by unfold getN; rw [if_pos e]⟩

theorem part_len {zs : List Int} {at' : Int} {k : Nat} (h : getE zs at' k = 0) : (part zs at' k).length = k ∧ 0 ≤ at' := by
  unfold getE at h
  split at h
  · omega
  · split at h
    · omega
    · refine ⟨?_, by omega⟩
      unfold part
      rw [List.length_take, List.length_drop]
      omega
theorem getV_ok {zs : List Int} {at' : Int} {k : Nat} (l : Bool) (h : getE zs at' k = 0) : getV zs at' k l = (if l then S3.num (part zs at' k).reverse else S3.num (part zs at' k)) ∧ getN zs at' k = at' + k :=
  ⟨by unfold getV; rw [if_pos h], by unfold getN; rw [if_pos h]⟩
theorem list4 {xs : List Int} {a b c d : Int} (h : xs.length = 4) (h0 : xs[0]? = some a) (h1 : xs[1]? = some b) (h2 : xs[2]? = some c) (h3 : xs[3]? = some d) : xs = [a, b, c, d] := by
  match xs, h with
  | [x, y, z, t], _ => simp at h0 h1 h2 h3; subst h0 h1 h2 h3; rfl
theorem list2 {xs : List Int} {a b : Int} (h : xs.length = 2) (h0 : xs[0]? = some a) (h1 : xs[1]? = some b) : xs = [a, b] := by
  match xs, h with
  | [x, y], _ => simp at h0 h1; subst h0 h1; rfl
theorem list1 {xs : List Int} {a : Int} (h : xs.length = 1) (h0 : xs[0]? = some a) : xs = [a] := by
  match xs, h with
  | [x], _ => simp at h0; subst h0; rfl

/-- Reading n bytes at an index. -/
def byE (zs : List Int) (at' n : Int) : Int := if (at' < 0 ∨ (zs.length : Int) < at') ∨ n < 0 then 104 else if (zs.length : Int) - at' < n then 101 else 0
def byS (zs : List Int) (at' n : Int) : List Int := if byE zs at' n = 0 then part zs at' n.toNat else []
def byN (zs : List Int) (at' n : Int) : Int := if byE zs at' n = 0 then at' + n else 0
theorem by_range {zs : List Int} {at' n : Int} (h : (at' < 0 ∨ (zs.length : Int) < at') ∨ n < 0) : byE zs at' n = 104 ∧ byS zs at' n = [] ∧ byN zs at' n = 0 := by
  have e : byE zs at' n = 104 := by unfold byE; rw [if_pos h]
  exact ⟨e, by simp [byS, e], by simp [byN, e]⟩
theorem by_cut {zs : List Int} {at' n : Int} (h : ¬ ((at' < 0 ∨ (zs.length : Int) < at') ∨ n < 0)) (g : (zs.length : Int) - at' < n) : byE zs at' n = 101 ∧ byS zs at' n = [] ∧ byN zs at' n = 0 := by
  have e : byE zs at' n = 101 := by unfold byE; rw [if_neg h, if_pos g]
  exact ⟨e, by simp [byS, e], by simp [byN, e]⟩
theorem by_ok {zs : List Int} {at' n : Int} (h : ¬ ((at' < 0 ∨ (zs.length : Int) < at') ∨ n < 0)) (g : ¬ (zs.length : Int) - at' < n) : byE zs at' n = 0 ∧ byS zs at' n = part zs at' n.toNat ∧ byN zs at' n = at' + n := by
  have e : byE zs at' n = 0 := by unfold byE; rw [if_neg h, if_neg g]
  exact ⟨e, by unfold byS; rw [if_pos e], by unfold byN; rw [if_pos e]⟩
theorem by_get (zs : List Int) (at' : Int) (k : Nat) : byE zs at' k = getE zs at' k := by
  unfold byE getE
  have : ¬ ((k : Int) < 0) := by omega
  simp [this]

/-- Reading a text: what lies before the next zero among forty bytes. -/
def near (zs : List Int) (at' : Int) : List Int := (zs.drop at'.toNat).take 40
def upto (l : List Int) : List Int := l.takeWhile (fun z => z != 0)
def txE (zs : List Int) (at' : Int) : Int := if at' < 0 ∨ (zs.length : Int) < at' then 104 else if (near zs at').contains 0 then 0 else if (zs.length : Int) - at' < 40 then 101 else 105
def txS (zs : List Int) (at' : Int) : List Int := if txE zs at' = 0 then upto (near zs at') else []
def txN (zs : List Int) (at' : Int) : Int := if txE zs at' = 0 then at' + (upto (near zs at')).length + 1 else 0

theorem tx_err {zs : List Int} {at' : Int} (h : txE zs at' ≠ 0) : txS zs at' = [] ∧ txN zs at' = 0 := by simp [txS, txN, h]
theorem tx_range {zs : List Int} {at' : Int} (h : at' < 0 ∨ (zs.length : Int) < at') : txE zs at' = 104 ∧ txS zs at' = [] ∧ txN zs at' = 0 := by
  have e : txE zs at' = 104 := by unfold txE; rw [if_pos h]
  exact ⟨e, tx_err (by rw [e]; decide)⟩
/-- None of the first m bytes from an index on is zero. -/
def Free (zs : List Int) (at' : Int) (m : Nat) : Prop := ∀ i, i < m → ∃ z, zs[at'.toNat + i]? = some z ∧ z ≠ 0

theorem near_at {zs : List Int} {at' : Int} {i : Nat} (hi : i < 40) : (near zs at')[i]? = zs[at'.toNat + i]? := by
  unfold near; rw [List.getElem?_take, if_pos hi, List.getElem?_drop]
theorem upto_free {l : List Int} {m : Nat} (h : ∀ i, i < m → ∃ z, l[i]? = some z ∧ z ≠ 0) (h0 : l[m]? = some 0) : upto l = l.take m ∧ l.contains 0 = true := by
  induction m generalizing l with
  | zero =>
    match l, h0 with
    | z :: r, h0 => simp at h0; subst h0; simp [upto]
  | succ m ih =>
    match l with
    | [] => simp at h0
    | z :: r =>
      obtain ⟨z', e, hz⟩ := h 0 (by omega)
      simp at e; subst e
      have ih' := ih (l := r) (fun i hi => by simpa using h (i + 1) (by omega)) (by simpa using h0)
      refine ⟨?_, ?_⟩
      · unfold upto at ih' ⊢
        rw [List.takeWhile_cons_of_pos (by simpa using hz), List.take_succ_cons, ih'.1]
      · have := ih'.2
        rw [List.contains_iff_mem] at this ⊢
        exact List.mem_cons_of_mem _ this
theorem none_free {l : List Int} (h : ∀ i, i < l.length → ∃ z, l[i]? = some z ∧ z ≠ 0) : l.contains 0 = false := by
  rcases e : l.contains 0
  · rfl
  · rw [List.contains_iff_mem] at e
    obtain ⟨i, hi, hz⟩ := List.getElem_of_mem e
    obtain ⟨z, h1, h2⟩ := h i hi
    rw [List.getElem?_eq_getElem hi, hz] at h1
    simp at h1; exact absurd h1.symm h2

theorem tx_hit {zs : List Int} {at' : Int} {m : Nat} (h : ¬ (at' < 0 ∨ (zs.length : Int) < at')) (hm : m < 40) (hf : Free zs at' m) (h0 : zs[at'.toNat + m]? = some 0) :
    txE zs at' = 0 ∧ txS zs at' = (zs.drop at'.toNat).take m ∧ txN zs at' = at' + m + 1 := by
  obtain ⟨e1, e2⟩ := upto_free (l := near zs at') (m := m) (fun i hi => by rw [near_at (by omega)]; exact hf i hi) (by rw [near_at hm]; exact h0)
  have hlen : m ≤ (zs.drop at'.toNat).length := by
    rcases Nat.lt_or_ge (at'.toNat + m) zs.length with q | q
    · simp; omega
    · rw [List.getElem?_eq_none q] at h0; cases h0
  have e3 : upto (near zs at') = (zs.drop at'.toNat).take m := by
    rw [e1]; unfold near; rw [List.take_take]; congr 1; omega
  have e : txE zs at' = 0 := by unfold txE; rw [if_neg h, if_pos e2]
  refine ⟨e, by unfold txS; rw [if_pos e, e3], ?_⟩
  unfold txN
  rw [if_pos e, e3, List.length_take, Nat.min_eq_left hlen]
theorem tx_end {zs : List Int} {at' : Int} {m : Nat} (h : ¬ (at' < 0 ∨ (zs.length : Int) < at')) (hm : m < 40) (hf : Free zs at' m) (h0 : (zs.length : Int) ≤ at' + m) : txE zs at' = 101 ∧ txS zs at' = [] ∧ txN zs at' = 0 := by
  have hl : (near zs at').length ≤ m := by unfold near; rw [List.length_take, List.length_drop]; omega
  have e2 := none_free (l := near zs at') (fun i hi => by rw [near_at (by omega)]; exact hf i (by omega))
  have e : txE zs at' = 101 := by unfold txE; rw [if_neg h, e2]; simp; omega
  exact ⟨e, tx_err (by rw [e]; decide)⟩
theorem tx_long {zs : List Int} {at' : Int} (h : ¬ (at' < 0 ∨ (zs.length : Int) < at')) (hf : Free zs at' 40) : txE zs at' = 105 ∧ txS zs at' = [] ∧ txN zs at' = 0 := by
  have hl : (zs.length : Int) ≥ at' + 40 := by
    obtain ⟨z, h1, _⟩ := hf 39 (by omega)
    rcases Nat.lt_or_ge (at'.toNat + 39) zs.length with q | q
    · omega
    · rw [List.getElem?_eq_none q] at h1; cases h1
  have e2 := none_free (l := near zs at') (fun i hi => by
    have : i < 40 := by unfold near at hi; rw [List.length_take] at hi; omega
    rw [near_at this]; exact hf i this)
  have e : txE zs at' = 105 := by unfold txE; rw [if_neg h, e2]; simp; omega
  exact ⟨e, tx_err (by rw [e]; decide)⟩
theorem tx_range' {zs : List Int} (hb : ∀ n ∈ zs, 0 ≤ n ∧ n ≤ 255) (at' : Int) : ∀ n ∈ txS zs at', 0 ≤ n ∧ n ≤ 255 := by
  intro n hn
  unfold txS at hn
  split at hn
  · exact hb n (List.mem_of_mem_drop (List.mem_of_mem_take (List.takeWhile_subset _ hn)))
  · cases hn
theorem Free.zero (zs : List Int) (at' : Int) : Free zs at' 0 := fun i hi => absurd hi (Nat.not_lt_zero i)
theorem Free.step {zs : List Int} {at' : Int} {m : Nat} {z : Int} (h : Free zs at' m) (hz : zs[at'.toNat + m]? = some z) (hne : z ≠ 0) : Free zs at' (m + 1) := by
  intro i hi
  rcases Nat.lt_or_ge i m with q | q
  · exact h i q
  · have : i = m := by omega
    subst this; exact ⟨z, hz, hne⟩

end Go.Proofs.Ytkhkmgblgonfoaa.S5

/-
  Reading a principal: three texts, and whether they are names.
-/
namespace Go.Proofs.Ytkhkmgblgonfoaa.S5

/-- Whether three rows of bytes are a principal's names. -/
def vPr (a b c : List Int) : Bool := S1.vP (strOfNums a).data.toList (strOfNums b).data.toList (strOfNums c).data.toList
def prE (zs : List Int) (at' : Int) : Int :=
  if txE zs at' ≠ 0 then txE zs at' else if txE zs (txN zs at') ≠ 0 then txE zs (txN zs at') else if txE zs (txN zs (txN zs at')) ≠ 0 then txE zs (txN zs (txN zs at')) else if vPr (txS zs at') (txS zs (txN zs at')) (txS zs (txN zs (txN zs at'))) then 0 else 103
def prA (zs : List Int) (at' : Int) : List Int := if prE zs at' = 0 then txS zs at' else []
def prB (zs : List Int) (at' : Int) : List Int := if prE zs at' = 0 then txS zs (txN zs at') else []
def prC (zs : List Int) (at' : Int) : List Int := if prE zs at' = 0 then txS zs (txN zs (txN zs at')) else []
def prN (zs : List Int) (at' : Int) : Int := if prE zs at' = 0 then txN zs (txN zs (txN zs at')) else 0

theorem pr_err {zs : List Int} {at' : Int} (h : prE zs at' ≠ 0) : prA zs at' = [] ∧ prB zs at' = [] ∧ prC zs at' = [] ∧ prN zs at' = 0 := by simp [prA, prB, prC, prN, h]
theorem pr_1 {zs : List Int} {at' : Int} (h : txE zs at' ≠ 0) : prE zs at' = txE zs at' ∧ prA zs at' = [] ∧ prB zs at' = [] ∧ prC zs at' = [] ∧ prN zs at' = 0 := by
  have e : prE zs at' = txE zs at' := by unfold prE; rw [if_pos h]
  exact ⟨e, pr_err (by rw [e]; exact h)⟩
theorem pr_2 {zs : List Int} {at' : Int} (h1 : txE zs at' = 0) (h : txE zs (txN zs at') ≠ 0) : prE zs at' = txE zs (txN zs at') ∧ prA zs at' = [] ∧ prB zs at' = [] ∧ prC zs at' = [] ∧ prN zs at' = 0 := by
  have e : prE zs at' = txE zs (txN zs at') := by unfold prE; rw [if_neg (by simp [h1]), if_pos h]
  exact ⟨e, pr_err (by rw [e]; exact h)⟩
theorem pr_3 {zs : List Int} {at' : Int} (h1 : txE zs at' = 0) (h2 : txE zs (txN zs at') = 0) (h : txE zs (txN zs (txN zs at')) ≠ 0) : prE zs at' = txE zs (txN zs (txN zs at')) ∧ prA zs at' = [] ∧ prB zs at' = [] ∧ prC zs at' = [] ∧ prN zs at' = 0 := by
  have e : prE zs at' = txE zs (txN zs (txN zs at')) := by unfold prE; rw [if_neg (by simp [h1]), if_neg (by simp [h2]), if_pos h]
  exact ⟨e, pr_err (by rw [e]; exact h)⟩
theorem pr_4 {zs : List Int} {at' : Int} (h1 : txE zs at' = 0) (h2 : txE zs (txN zs at') = 0) (h3 : txE zs (txN zs (txN zs at')) = 0) (h : vPr (txS zs at') (txS zs (txN zs at')) (txS zs (txN zs (txN zs at'))) = false) :
    prE zs at' = 103 ∧ prA zs at' = [] ∧ prB zs at' = [] ∧ prC zs at' = [] ∧ prN zs at' = 0 := by
  have e : prE zs at' = 103 := by unfold prE; rw [if_neg (by simp [h1]), if_neg (by simp [h2]), if_neg (by simp [h3]), if_neg (by simp [h])]
  exact ⟨e, pr_err (by rw [e]; decide)⟩
theorem pr_ok {zs : List Int} {at' : Int} (h1 : txE zs at' = 0) (h2 : txE zs (txN zs at') = 0) (h3 : txE zs (txN zs (txN zs at')) = 0) (h : vPr (txS zs at') (txS zs (txN zs at')) (txS zs (txN zs (txN zs at'))) = true) :
    prE zs at' = 0 ∧ prA zs at' = txS zs at' ∧ prB zs at' = txS zs (txN zs at') ∧ prC zs at' = txS zs (txN zs (txN zs at')) ∧ prN zs at' = txN zs (txN zs (txN zs at')) := by
  have e : prE zs at' = 0 := by unfold prE; rw [if_neg (by simp [h1]), if_neg (by simp [h2]), if_neg (by simp [h3]), if_pos h]
  exact ⟨e, by unfold prA; rw [if_pos e], by unfold prB; rw [if_pos e], by unfold prC; rw [if_pos e], by unfold prN; rw [if_pos e]⟩
theorem txS_len (zs : List Int) (at' : Int) : (txS zs at').length ≤ 40 := by
  unfold txS upto near
  split
  · exact Nat.le_trans (List.takeWhile_sublist _).length_le (List.length_take_le _ _)
  · simp

end Go.Proofs.Ytkhkmgblgonfoaa.S5

/-
  What was written is read as it was, whatever is in front of it and behind it: as lists of numbers.
-/
namespace Go.Proofs.Ytkhkmgblgonfoaa.S5

theorem part_mid (f x r : List Int) : part (f ++ x ++ r) (f.length : Int) x.length = x := by
  unfold part
  rw [Int.toNat_natCast, List.append_assoc, List.drop_left, List.take_left]
theorem get_mid (f x r : List Int) (l : Bool) : getE (f ++ x ++ r) (f.length : Int) x.length = 0 ∧ getV (f ++ x ++ r) (f.length : Int) x.length l = (if l then S3.num x.reverse else S3.num x) ∧ getN (f ++ x ++ r) (f.length : Int) x.length = (f.length : Int) + x.length := by
  have h := get_ok (zs := f ++ x ++ r) (at' := (f.length : Int)) (k := x.length) (l := l) (by simp; omega) (by simp; omega)
  rw [part_mid] at h
  exact h

theorem num_be4 {n : Int} (h0 : 0 ≤ n) (h1 : n ≤ 4294967295) : S3.num (be4 n) = n := by
  show (((0 * 256 + n / 16777216 % 256) * 256 + n / 65536 % 256) * 256 + n / 256 % 256) * 256 + n % 256 = n
  omega
theorem num_be2 {n : Int} (h0 : 0 ≤ n) (h1 : n ≤ 65535) : S3.num (be2 n) = n := by
  show (0 * 256 + n / 256 % 256) * 256 + n % 256 = n
  omega
theorem num_1 {n : Int} (h0 : 0 ≤ n) (h1 : n ≤ 255) : S3.num (num1 n) = n := by
  show 0 * 256 + n % 256 = n
  omega
theorem num4_trip {n : Int} (l : Bool) (h0 : 0 ≤ n) (h1 : n ≤ 4294967295) : (if l then S3.num (num4 l n).reverse else S3.num (num4 l n)) = n := by
  cases l
  · exact num_be4 h0 h1
  · show S3.num (be4 n) = n
    exact num_be4 h0 h1
theorem num2_trip {n : Int} (l : Bool) (h0 : 0 ≤ n) (h1 : n ≤ 65535) : (if l then S3.num (num2 l n).reverse else S3.num (num2 l n)) = n := by
  cases l
  · exact num_be2 h0 h1
  · show S3.num (be2 n) = n
    exact num_be2 h0 h1

theorem text_mid (f s r : List Int) (hs : ∀ z ∈ s, z ≠ 0) (hl : s.length ≤ 39) : txE (f ++ text s ++ r) (f.length : Int) = 0 ∧ txS (f ++ text s ++ r) (f.length : Int) = s ∧ txN (f ++ text s ++ r) (f.length : Int) = (f.length : Int) + (text s).length := by
  have e : f ++ text s ++ r = f ++ (s ++ (0 :: r)) := by simp [text]
  have h := tx_hit (zs := f ++ text s ++ r) (at' := (f.length : Int)) (m := s.length) (by simp; omega) (by omega) (fun i hi => by
    refine ⟨s[i], ?_, hs _ (List.getElem_mem hi)⟩
    rw [e, Int.toNat_natCast, List.getElem?_append_right (by omega), Nat.add_sub_cancel_left, List.getElem?_append_left hi, List.getElem?_eq_getElem hi]) (by
    rw [e, Int.toNat_natCast, List.getElem?_append_right (by omega), Nat.add_sub_cancel_left, List.getElem?_append_right (by omega), Nat.sub_self]; rfl)
  obtain ⟨h1, h2, h3⟩ := h
  refine ⟨h1, ?_, ?_⟩
  · rw [h2, e, Int.toNat_natCast, List.drop_left, List.take_left]
  · rw [h3]; simp [text]; omega

theorem prin_mid (f a b c r : List Int) (ha : ∀ z ∈ a, z ≠ 0) (hb : ∀ z ∈ b, z ≠ 0) (hc : ∀ z ∈ c, z ≠ 0) (la : a.length ≤ 39) (lb : b.length ≤ 39) (lc : c.length ≤ 39) (hv : vPr a b c = true) :
    prE (f ++ three a b c ++ r) (f.length : Int) = 0 ∧ prA (f ++ three a b c ++ r) (f.length : Int) = a ∧ prB (f ++ three a b c ++ r) (f.length : Int) = b ∧ prC (f ++ three a b c ++ r) (f.length : Int) = c ∧ prN (f ++ three a b c ++ r) (f.length : Int) = (f.length : Int) + (three a b c).length := by
  have e1 : f ++ three a b c ++ r = f ++ text a ++ (text b ++ text c ++ r) := by simp [three]
  have e2 : f ++ three a b c ++ r = (f ++ text a) ++ text b ++ (text c ++ r) := by simp [three]
  have e3 : f ++ three a b c ++ r = (f ++ text a ++ text b) ++ text c ++ r := by simp [three]
  obtain ⟨p1, p2, p3⟩ := text_mid f a (text b ++ text c ++ r) ha la
  obtain ⟨q1, q2, q3⟩ := text_mid (f ++ text a) b (text c ++ r) hb lb
  obtain ⟨s1, s2, s3⟩ := text_mid (f ++ text a ++ text b) c r hc lc
  rw [← e1] at p1 p2 p3
  rw [← e2] at q1 q2 q3
  rw [← e3] at s1 s2 s3
  have n1 : ((f ++ text a).length : Int) = txN (f ++ three a b c ++ r) (f.length : Int) := by rw [p3]; simp
  rw [n1] at q1 q2 q3
  have n2 : ((f ++ text a ++ text b).length : Int) = txN (f ++ three a b c ++ r) (txN (f ++ three a b c ++ r) (f.length : Int)) := by rw [q3, ← n1]; simp; omega
  rw [n2] at s1 s2 s3
  obtain ⟨h1, h2, h3, h4, h5⟩ := pr_ok p1 q1 s1 (by rw [p2, q2, s2]; exact hv)
  refine ⟨h1, by rw [h2, p2], by rw [h3, q2], by rw [h4, s2], ?_⟩
  rw [h5, s3, ← n2]; simp [three]; omega

/-- What was written behind fs, with rs behind it. -/
def whole (fs rs a b c : List Int) (l : Bool) (n m o : Int) : List Int := fs ++ num4 l n ++ num2 l m ++ num1 o ++ three a b c ++ rs
theorem trip (fs rs a b c : List Int) (l : Bool) (n m o : Int) (k : Nat) (hk : fs.length = k) (n0 : 0 ≤ n) (n1 : n ≤ 4294967295) (m0 : 0 ≤ m) (m1 : m ≤ 65535) (o0 : 0 ≤ o) (o1 : o ≤ 255)
    (ha : ∀ z ∈ a, z ≠ 0) (hb : ∀ z ∈ b, z ≠ 0) (hc : ∀ z ∈ c, z ≠ 0) (la : a.length ≤ 39) (lb : b.length ≤ 39) (lc : c.length ≤ 39) (hv : vPr a b c = true) :
    (getE (whole fs rs a b c l n m o) (k : Int) 4 = 0 ∧ getV (whole fs rs a b c l n m o) (k : Int) 4 l = n ∧ getN (whole fs rs a b c l n m o) (k : Int) 4 = (k : Int) + 4) ∧
    (getE (whole fs rs a b c l n m o) ((k : Int) + 4) 2 = 0 ∧ getV (whole fs rs a b c l n m o) ((k : Int) + 4) 2 l = m ∧ getN (whole fs rs a b c l n m o) ((k : Int) + 4) 2 = (k : Int) + 6) ∧
    (getE (whole fs rs a b c l n m o) ((k : Int) + 6) 1 = 0 ∧ getV (whole fs rs a b c l n m o) ((k : Int) + 6) 1 false = o ∧ getN (whole fs rs a b c l n m o) ((k : Int) + 6) 1 = (k : Int) + 7) ∧
    (prE (whole fs rs a b c l n m o) ((k : Int) + 7) = 0 ∧ prA (whole fs rs a b c l n m o) ((k : Int) + 7) = a ∧ prB (whole fs rs a b c l n m o) ((k : Int) + 7) = b ∧ prC (whole fs rs a b c l n m o) ((k : Int) + 7) = c ∧ prN (whole fs rs a b c l n m o) ((k : Int) + 7) = (k : Int) + 7 + (three a b c).length) := by
  have l4 := num4_len l n
  have l2 := num2_len l m
  have l1 : (num1 o).length = 1 := rfl
  have h1 := get_mid fs (num4 l n) (num2 l m ++ num1 o ++ three a b c ++ rs) l
  have h2 := get_mid (fs ++ num4 l n) (num2 l m) (num1 o ++ three a b c ++ rs) l
  have h3 := get_mid (fs ++ num4 l n ++ num2 l m) (num1 o) (three a b c ++ rs) false
  have h4 := prin_mid (fs ++ num4 l n ++ num2 l m ++ num1 o) a b c rs ha hb hc la lb lc hv
  have w1 : fs ++ num4 l n ++ (num2 l m ++ num1 o ++ three a b c ++ rs) = whole fs rs a b c l n m o := by simp [whole]
  have w2 : fs ++ num4 l n ++ num2 l m ++ (num1 o ++ three a b c ++ rs) = whole fs rs a b c l n m o := by simp [whole]
  have w3 : fs ++ num4 l n ++ num2 l m ++ num1 o ++ (three a b c ++ rs) = whole fs rs a b c l n m o := by simp [whole]
  have w4 : fs ++ num4 l n ++ num2 l m ++ num1 o ++ three a b c ++ rs = whole fs rs a b c l n m o := rfl
  have e2 : ((fs ++ num4 l n).length : Int) = (k : Int) + 4 := by simp [hk, l4]
  have e3 : ((fs ++ num4 l n ++ num2 l m).length : Int) = (k : Int) + 6 := by simp [hk, l4, l2] <;> omega
  have e4 : ((fs ++ num4 l n ++ num2 l m ++ num1 o).length : Int) = (k : Int) + 7 := by simp [hk, l4, l2, l1] <;> omega
  rw [w1, hk, l4, num4_trip l n0 n1] at h1
  rw [w2, e2, l2, num2_trip l m0 m1] at h2
  rw [w3, e3, l1] at h3
  rw [w4, e4] at h4
  refine ⟨h1, ⟨h2.1, h2.2.1, h2.2.2.trans (by omega)⟩, ⟨h3.1, h3.2.1.trans ?_, h3.2.2.trans (by omega)⟩, h4⟩
  show S3.num (num1 o) = o
  exact num_1 o0 o1

end Go.Proofs.Ytkhkmgblgonfoaa.S5

/-
  The bytes of a text as numbers; a text appended to a slice of bytes.
-/
namespace Go.Proofs.Ytkhkmgblgonfoaa
open Go.RowKit

/-- The bytes of a text. -/
def nums (s : ByteArray) : List Int := s.data.toList.map fun b => (b.toNat : Int)
theorem nums_len (s : ByteArray) : (nums s).length = s.size := by unfold nums; rw [List.length_map, Array.length_toList]; rfl
theorem nums_range (s : ByteArray) : ∀ n ∈ nums s, 0 ≤ n ∧ n ≤ 255 := by
  intro n hn
  obtain ⟨b, _, rfl⟩ := List.mem_map.1 hn
  have := b.toNat_lt
  omega
theorem nums_cells (s : ByteArray) : Lib.strCells s = (nums s).map (Value.int .u8) := by simp [Lib.strCells, nums]
theorem str_nums (s : ByteArray) : strOfNums (nums s) = s := by
  have e : (strOfNums (nums s)).data.toList = s.data.toList := by
    rw [strOfNums_data, nums, List.map_map]
    refine (List.map_congr_left (g := id) fun b _ => ?_).trans (List.map_id _)
    show UInt8.ofNat ((b.toNat : Int)).toNat = b
    simp
  exact ByteArray.ext (Array.ext' e)
theorem nums_str {zs : List Int} (h : ∀ n ∈ zs, 0 ≤ n ∧ n ≤ 255) : nums (strOfNums zs) = zs := by
  unfold nums
  rw [strOfNums_data, List.map_map]
  refine (List.map_congr_left (g := id) fun n hn => ?_).trans (List.map_id zs)
  obtain ⟨h0, h1⟩ := h n hn
  show (((UInt8.ofNat n.toNat).toNat : Nat) : Int) = n
  rw [UInt8.toNat_ofNat', Nat.mod_eq_of_lt (by omega)]; omega
theorem nums_inj {s t : ByteArray} (h : nums s = nums t) : s = t := by rw [← str_nums s, ← str_nums t, h]

/-- The text of a row of bytes. -/
theorem conv_at {w : World} {b off n cap : Nat} {zs : List Int} (h : RowK .u8 w (some ⟨b, off, none⟩) n zs) : (convert 26 9 (.slice (some ⟨b, off, none⟩) n cap)).run Try.prog w = .ok (.string (strOfNums zs)) w := by
  refine run_convert_bytes_arg _ _ _ Try.underlying26 Try.underlying5 b off n cap zs h.len (fun i hi => ?_) _ Try.underlying9
  obtain ⟨b', off', z, ha, hz, _, _, hc⟩ := h.at hi
  cases ha
  rw [List.getD, hz]
  exact hc

/-- 'append(v, s...)', s a text. -/
theorem wpList_push_str {P : Program} {w : World} {ops : Array Oper} {rest : List Oper} {o : Oper} {a : Act} {Q : Exit → Act → World → Prop} (hgd : o.guard = none) (sl x : Operand) (t u : TypeId)
    (ho : o.op = .call { callee := .builtin .append, args := #[sl, x], argTypes := #[t, u] }) {e : TypeId} (ht : P.underlying t = some (.slice e)) (hu : P.underlying u = some .string) (hi : (P.info? e).map (fun i => (i.zero, i.size, i.bytes)) = some (some (.int .u8 0), 1, 1))
    {base : Nat} {v : Value} {zs : List Int} {s : ByteArray} (hs : a.eval sl = v) (hx : a.eval x = .string s) (hown : Own .u8 e w base v zs) (h63 : zs.length + s.size < 1000000) (hbase : base ≤ w.heap.size)
    (h : ∀ v' w', Own .u8 e w' base v' (zs ++ nums s) → w.grownBy w' v.ownBlock → wpList P ops Q rest (a.put o.dst v') w') : wpList P ops Q (o :: rest) a w := by
  obtain ⟨i, hi, hz0, hz1, hz2⟩ := info_parts hi
  refine Lib.wpList_append_own_string w hgd sl x t u ho base e i ht hu hi hz0 hz1 hz2 v zs.length (zs.map (Value.int .u8)) hs hown s hx (by unfold maxLen; omega) (by omega) hbase ?_
  intro v' w' h1 h2 _
  refine h v' w' ?_ h2
  unfold Own
  rw [List.length_append, nums_len, List.map_append, ← nums_cells]
  exact h1

end Go.Proofs.Ytkhkmgblgonfoaa

/-
  Reading fields one after another: where a field stands in a row, and what is read there.
-/
namespace Go.Proofs.Ytkhkmgblgonfoaa.S5

/-- The row f stands in zs at this index. -/
def AtF (zs f : List Int) (at' : Int) : Prop := ∃ front rest, zs = front ++ f ++ rest ∧ at' = (front.length : Int)
theorem AtF.all (zs : List Int) : AtF zs zs 0 := ⟨[], [], by simp, rfl⟩
theorem AtF.left {zs x y : List Int} {at' : Int} (h : AtF zs (x ++ y) at') : AtF zs x at' := by
  obtain ⟨f, r, h1, h2⟩ := h
  exact ⟨f, y ++ r, by rw [h1]; simp, h2⟩
theorem AtF.right {zs x y : List Int} {at' : Int} (h : AtF zs (x ++ y) at') : AtF zs y (at' + x.length) := by
  obtain ⟨f, r, h1, h2⟩ := h
  exact ⟨f ++ x, r, by rw [h1]; simp, by rw [h2]; simp⟩
theorem AtF.le {zs x : List Int} {at' : Int} (h : AtF zs x at') : 0 ≤ at' ∧ at' + x.length ≤ zs.length := by
  obtain ⟨f, r, h1, h2⟩ := h
  subst h1 h2
  constructor
  · omega
  · simp; omega

theorem AtF.get {zs x : List Int} {at' : Int} {k : Nat} (l : Bool) (h : AtF zs x at') (hk : x.length = k) : getE zs at' k = 0 ∧ getV zs at' k l = (if l then S3.num x.reverse else S3.num x) ∧ getN zs at' k = at' + k := by
  obtain ⟨f, r, h1, h2⟩ := h
  subst h1 h2 hk
  exact get_mid f x r l
theorem AtF.num4 {zs : List Int} {at' n : Int} {l : Bool} (h : AtF zs (num4 l n) at') (h0 : 0 ≤ n) (h1 : n ≤ 4294967295) : getE zs at' 4 = 0 ∧ getV zs at' 4 l = n ∧ getN zs at' 4 = at' + 4 := by
  have g := h.get (k := 4) l (num4_len l n)
  rw [num4_trip l h0 h1] at g
  exact g
theorem AtF.num2 {zs : List Int} {at' n : Int} {l : Bool} (h : AtF zs (num2 l n) at') (h0 : 0 ≤ n) (h1 : n ≤ 65535) : getE zs at' 2 = 0 ∧ getV zs at' 2 l = n ∧ getN zs at' 2 = at' + 2 := by
  have g := h.get (k := 2) l (num2_len l n)
  rw [num2_trip l h0 h1] at g
  exact g
theorem AtF.num1 {zs : List Int} {at' n : Int} (h : AtF zs (num1 n) at') (h0 : 0 ≤ n) (h1 : n ≤ 255) : getE zs at' 1 = 0 ∧ getV zs at' 1 false = n ∧ getN zs at' 1 = at' + 1 := by
  have g := h.get (k := 1) false rfl
  rw [show (if false = true then S3.num (S5.num1 n).reverse else S3.num (S5.num1 n)) = n from num_1 h0 h1] at g
  exact g
theorem AtF.text {zs s : List Int} {at' : Int} (h : AtF zs (text s) at') (hs : ∀ z ∈ s, z ≠ 0) (hl : s.length ≤ 39) : txE zs at' = 0 ∧ txS zs at' = s ∧ txN zs at' = at' + (s.length + 1) := by
  obtain ⟨f, r, h1, h2⟩ := h
  subst h1 h2
  obtain ⟨g1, g2, g3⟩ := text_mid f s r hs hl
  exact ⟨g1, g2, by rw [g3]; simp [S5.text]⟩
theorem AtF.bytes {zs x : List Int} {at' n : Int} (h : AtF zs x at') (hn : (x.length : Int) = n) : byE zs at' n = 0 ∧ byS zs at' n = x ∧ byN zs at' n = at' + n := by
  obtain ⟨f, r, h1, h2⟩ := h
  subst h1 h2 hn
  obtain ⟨g1, g2, g3⟩ := by_ok (zs := f ++ x ++ r) (at' := (f.length : Int)) (n := x.length) (by simp; omega) (by simp; omega)
  refine ⟨g1, ?_, g3⟩
  rw [g2]
  exact part_mid f x r

/-- Bytes of a valid name: none is zero, and there are few. -/
theorem text_ok {bad : List UInt8} {s : ByteArray} (h : S1.text bad s.data.toList = true) : (∀ z ∈ nums s, z ≠ 0) ∧ (nums s).length ≤ 39 := by
  unfold S1.text at h
  rw [Bool.and_eq_true] at h
  obtain ⟨h1, h2⟩ := h
  refine ⟨fun z hz e => ?_, ?_⟩
  · unfold nums at hz
    obtain ⟨c, hc, rfl⟩ := List.mem_map.1 hz
    have := List.all_eq_true.1 h1 c hc
    unfold S1.okB at this
    simp at this
    omega
  · unfold nums; rw [List.length_map]; simpa using h2
theorem vName_ok {s : ByteArray} (h : S1.vName s.data.toList = true) : (∀ z ∈ nums s, z ≠ 0) ∧ (nums s).length ≤ 39 := by
  unfold S1.vName at h
  rw [Bool.and_eq_true] at h
  exact text_ok h.2
theorem vInst_ok {s : ByteArray} (h : S1.vInst s.data.toList = true) : (∀ z ∈ nums s, z ≠ 0) ∧ (nums s).length ≤ 39 := text_ok h
theorem vRealm_ok {s : ByteArray} (h : S1.vRealm s.data.toList = true) : (∀ z ∈ nums s, z ≠ 0) ∧ (nums s).length ≤ 39 := by
  unfold S1.vRealm at h
  rw [Bool.and_eq_true] at h
  exact text_ok h.2
theorem vP_parts {a b c : List UInt8} (h : S1.vP a b c = true) : S1.vName a = true ∧ S1.vInst b = true ∧ S1.vRealm c = true := by
  unfold S1.vP at h
  rw [Bool.and_eq_true, Bool.and_eq_true] at h
  exact ⟨h.1.1, h.1.2, h.2⟩

/-- A reader's state: where it is, and whether it is bad. -/
structure St where
  at' : Int
  bad : Bool
def St.move (s : St) (next e : Int) : St := if s.bad || (e != 0) then ⟨s.at', true⟩ else ⟨next, false⟩
theorem St.move_ok {s : St} {next e : Int} (h : s.bad = false) (he : e = 0) : s.move next e = ⟨next, false⟩ := by simp [St.move, h, he]
theorem St.move_bad {s : St} {next e : Int} (h : s.bad = true) : (s.move next e).bad = true := by simp [St.move, h]
theorem St.move_err {s : St} {next e : Int} (h : e ≠ 0) : (s.move next e).bad = true := by simp [St.move, h]

end Go.Proofs.Ytkhkmgblgonfoaa.S5

/-
  The first two bytes of messages, as numbers.
-/
namespace Go.Proofs.Ytkhkmgblgonfoaa.S8

def okK (n : Int) : Bool := decide (1 ≤ n) && decide (n ≤ 10)
theorem okK_iff {n : Int} : okK n = true ↔ 1 ≤ n ∧ n ≤ 10 := by simp [okK]
theorem okK_no {n : Int} (h : n < 1 ∨ 10 < n) : okK n = false := by
  rcases hk : okK n
  · rfl
  · have := okK_iff.1 hk; omega
def ord (l : Bool) : Int := if l then 1 else 0
/-- The bytes of a type and a byte order. -/
def put (n : Int) (l : Bool) : List Int := if okK n then [4, 2 * n + ord l] else []
theorem put_no {n : Int} (h : n < 1 ∨ 10 < n) (l : Bool) : put n l = [] := by unfold put; rw [okK_no h]; rfl
theorem put_ok {n : Int} (h : 1 ≤ n ∧ n ≤ 10) (l : Bool) : put n l = [4, 2 * n + ord l] := by unfold put; rw [okK_iff.2 h]; rfl
/-- The error, the type and the byte order of a message. -/
def rdE (zs : List Int) : Int := if zs.length < 2 then 101 else if zs.getD 0 0 ≠ 4 then 39 else if okK (zs.getD 1 0 / 2) then 0 else 40
def rdK (zs : List Int) : Int := if rdE zs = 0 then zs.getD 1 0 / 2 else 0
def rdL (zs : List Int) : Bool := decide (rdE zs = 0) && (zs.getD 1 0 % 2 == 1)
theorem rd_err {zs : List Int} (h : rdE zs ≠ 0) : rdK zs = 0 ∧ rdL zs = false := by simp [rdK, rdL, h]
theorem rd_short {zs : List Int} (h : zs.length < 2) : rdE zs = 101 ∧ rdK zs = 0 ∧ rdL zs = false := by
  have e : rdE zs = 101 := by unfold rdE; rw [if_pos h]
  exact ⟨e, rd_err (by rw [e]; decide)⟩
theorem rd_version {zs : List Int} {a b : Int} {r : List Int} (hz : zs = a :: b :: r) (h : a ≠ 4) : rdE zs = 39 ∧ rdK zs = 0 ∧ rdL zs = false := by
  subst hz
  have e : rdE (a :: b :: r) = 39 := by unfold rdE; rw [if_neg (by simp), if_pos (by simpa using h)]
  exact ⟨e, rd_err (by rw [e]; decide)⟩
theorem rd_type {zs : List Int} {b : Int} {r : List Int} (hz : zs = 4 :: b :: r) (h : b / 2 < 1 ∨ 10 < b / 2) : rdE zs = 40 ∧ rdK zs = 0 ∧ rdL zs = false := by
  subst hz
  have e : rdE (4 :: b :: r) = 40 := by
    unfold rdE
    rw [if_neg (by simp), if_neg (by simp)]
    show (if okK (b / 2) = true then (0 : Int) else 40) = 40
    rw [okK_no h]; rfl
  exact ⟨e, rd_err (by rw [e]; decide)⟩
theorem rd_ok {zs : List Int} {b : Int} {r : List Int} (hz : zs = 4 :: b :: r) (h : 1 ≤ b / 2 ∧ b / 2 ≤ 10) : rdE zs = 0 ∧ rdK zs = b / 2 ∧ rdL zs = (b % 2 == 1) := by
  subst hz
  have e : rdE (4 :: b :: r) = 0 := by
    unfold rdE
    rw [if_neg (by simp), if_neg (by simp)]
    show (if okK (b / 2) = true then (0 : Int) else 40) = 0
    rw [okK_iff.2 h]; rfl
  refine ⟨e, by unfold rdK; rw [if_pos e]; rfl, ?_⟩
  unfold rdL
  rw [e]; rfl
/-- What was put is read as it was, whatever follows. -/
theorem rd_put {n : Int} (h : 1 ≤ n ∧ n ≤ 10) (l : Bool) (r : List Int) : rdE (put n l ++ r) = 0 ∧ rdK (put n l ++ r) = n ∧ rdL (put n l ++ r) = l := by
  rw [put_ok h]
  have hq : (2 * n + ord l) / 2 = n := by unfold ord; split <;> omega
  obtain ⟨e, k, b⟩ := rd_ok (zs := [4, 2 * n + ord l] ++ r) (b := 2 * n + ord l) (r := r) rfl (by rw [hq]; exact h)
  refine ⟨e, k.trans hq, b.trans ?_⟩
  unfold ord
  cases l
  · have : (2 * n + (if false = true then (1 : Int) else 0)) % 2 = 0 := by simp
    rw [this]; rfl
  · have : (2 * n + (if true = true then (1 : Int) else 0)) % 2 = 1 := by simp
    rw [this]; rfl
theorem put_range (n : Int) (l : Bool) : ∀ z ∈ put n l, 0 ≤ z ∧ z ≤ 255 := by
  unfold put
  split
  · rename_i h
    have := okK_iff.1 h
    intro z hz
    simp at hz
    unfold ord at hz
    split at hz <;> omega
  · intro z hz; cases hz
theorem put_len (n : Int) (l : Bool) : (put n l).length ≤ 2 := by unfold put; split <;> simp
/-- Whether a message has one of some types; the error. -/
def isB (zs ks : List Int) : Bool := if rdE zs = 0 ∧ rdK zs ∈ ks then rdL zs else false
def isE (zs ks : List Int) : Int := if rdE zs ≠ 0 then rdE zs else if rdK zs ∈ ks then 0 else 40
theorem is_err {zs : List Int} (h : rdE zs ≠ 0) (ks : List Int) : isE zs ks = rdE zs ∧ isB zs ks = false := by
  unfold isE isB
  rw [if_pos h, if_neg (fun c => h c.1)]; exact ⟨rfl, rfl⟩
theorem is_yes {zs ks : List Int} (h : rdE zs = 0) (g : rdK zs ∈ ks) : isE zs ks = 0 ∧ isB zs ks = rdL zs := by
  unfold isE isB
  rw [if_neg (by simp [h]), if_pos g, if_pos ⟨h, g⟩]; exact ⟨rfl, rfl⟩
theorem is_no {zs ks : List Int} (h : rdE zs = 0) (g : rdK zs ∉ ks) : isE zs ks = 40 ∧ isB zs ks = false := by
  unfold isE isB
  rw [if_neg (by simp [h]), if_neg g, if_neg (fun c => g c.2)]; exact ⟨rfl, rfl⟩

end Go.Proofs.Ytkhkmgblgonfoaa.S8

/-
  Requests of chapter 9 as data: their error, their bytes, which request any bytes are.
-/
namespace Go.Proofs.Ytkhkmgblgonfoaa.S9q

structure Rq where
  l : Bool
  a : ByteArray
  b : ByteArray
  c : ByteArray
  tm : Int
  li : Int
  s : ByteArray
  i : ByteArray
def Rq.zero : Rq := ⟨false, ⟨#[]⟩, ⟨#[]⟩, ⟨#[]⟩, 0, 0, ⟨#[]⟩, ⟨#[]⟩⟩
def Rq.cells (t : Rq) : Array Value := #[.bool t.l, .string t.a, .string t.b, .string t.c, .int .i64 t.tm, .int .i64 t.li, .string t.s, .string t.i]
def Rq.val (t : Rq) : Value := .agg t.cells
/-- Its numbers are numbers of their kinds, its texts have a length. -/
structure Rq.Fit (t : Rq) : Prop where
  a : t.a.size ≤ maxLen
  b : t.b.size ≤ maxLen
  c : t.c.size ≤ maxLen
  tm : -9223372036854775808 ≤ t.tm ∧ t.tm ≤ 9223372036854775807
  li : -9223372036854775808 ≤ t.li ∧ t.li ≤ 9223372036854775807
  s : t.s.size ≤ maxLen
  i : t.i.size ≤ maxLen
theorem Rq.zero_fit : Rq.zero.Fit := ⟨by decide, by decide, by decide, by decide, by decide, by decide, by decide⟩

def win (n m : Int) : Bool := decide (0 ≤ n) && decide (n ≤ m)
theorem win_iff {n m : Int} : win n m = true ↔ 0 ≤ n ∧ n ≤ m := by simp [win]
def q0 (t : Rq) : Bool := (S1.vP t.a.data.toList t.b.data.toList t.c.data.toList && S1.vName t.s.data.toList) && S1.vInst t.i.data.toList
def q1 (t : Rq) : Bool := win t.tm 4294967295 && win t.li 255
def chkE (t : Rq) : Int := if q0 t = false then 103 else if q1 t = false then 104 else 0
theorem chk_0 {t : Rq}  (h : q0 t = false) : chkE t = 103 := by unfold chkE; rw [if_pos h]
theorem chk_1 {t : Rq} (h0 : q0 t = true) (h : q1 t = false) : chkE t = 104 := by unfold chkE; rw [if_neg (by simp [h0]), if_pos h]
theorem chk_ok {t : Rq} (h0 : q0 t = true) (h1 : q1 t = true) : chkE t = 0 := by unfold chkE; rw [if_neg (by simp [h0]), if_neg (by simp [h1])]
theorem chk_zero {t : Rq} (h : chkE t = 0) : q0 t = true ∧ q1 t = true := by
  unfold chkE at h
  split at h
  · omega
  · skip
    split at h
    · omega
    · simp_all
/-- What a valid one's parts are. -/
structure Ok (t : Rq) : Prop where
  a : S1.vName t.a.data.toList = true
  b : S1.vInst t.b.data.toList = true
  c : S1.vRealm t.c.data.toList = true
  s : S1.vName t.s.data.toList = true
  i : S1.vInst t.i.data.toList = true
  tm : 0 ≤ t.tm ∧ t.tm ≤ 4294967295
  li : 0 ≤ t.li ∧ t.li ≤ 255
theorem ok_of {t : Rq} (h : chkE t = 0) : Ok t := by
  obtain ⟨h0, h1⟩ := chk_zero h
  unfold q0 q1 at *
  simp only [Bool.and_eq_true, win_iff, decide_eq_true_eq] at *
  exact ⟨(S5.vP_parts h0.1.1).1, (S5.vP_parts h0.1.1).2.1, (S5.vP_parts h0.1.1).2.2, h0.1.2, h0.2, h1.1, h1.2⟩
theorem small {s : ByteArray} (h : (nums s).length ≤ 39) : s.size ≤ maxLen := by
  rw [nums_len] at h
  exact Nat.le_trans h (by decide)
def flag (l : Bool) : Int := if l then 1 else 0
/-- Its bytes. -/
def raw (t : Rq) : List Int := S8.put 1 t.l ++ (S5.text (nums t.a) ++ (S5.text (nums t.b) ++ (S5.text (nums t.c) ++ (S5.num4 t.l t.tm ++ (S5.num1 t.li ++ (S5.text (nums t.s) ++ S5.text (nums t.i)))))))
def enc (t : Rq) : List Int := raw t
def encB (t : Rq) : List Int := if chkE t = 0 then enc t else []
theorem raw_len (t : Rq) : (raw t).length = 12 + t.a.size + t.b.size + t.c.size + t.s.size + t.i.size := by
  simp [raw, S8.put, S8.okK, S5.num1, S5.text, nums_len, S5.num4_len, S5.num2_len, S3.bytes8_len]; omega
theorem raw_range (t : Rq) : ∀ n ∈ raw t, 0 ≤ n ∧ n ≤ 255 := by
  have ht : ∀ s : ByteArray, ∀ n ∈ S5.text (nums s), 0 ≤ n ∧ n ≤ 255 := by
    intro s n hn
    rcases List.mem_append.1 hn with hn | hn
    · exact nums_range s n hn
    · simp at hn; omega
  intro n hn
  unfold raw at hn
  simp only [List.mem_append] at hn
  rcases hn with h | h | h | h | h | h | h | h
  · exact S8.put_range _ _ n h
  · exact ht _ n h
  · exact ht _ n h
  · exact ht _ n h
  · exact S5.num4_range _ _ n h
  · exact S5.num1_range _ n h
  · exact ht _ n h
  · exact ht _ n h
theorem enc_range (t : Rq) : ∀ n ∈ enc t, 0 ≤ n ∧ n ≤ 255 := raw_range t
theorem enc_len {t : Rq} (h : chkE t = 0) : (enc t).length ≤ 207 := by
  have o := ok_of h
  have h_a : t.a.size ≤ 39 := by have := (S5.vName_ok o.a).2; rwa [nums_len] at this
  have h_b : t.b.size ≤ 39 := by have := (S5.vInst_ok o.b).2; rwa [nums_len] at this
  have h_c : t.c.size ≤ 39 := by have := (S5.vRealm_ok o.c).2; rwa [nums_len] at this
  have h_s : t.s.size ≤ 39 := by have := (S5.vName_ok o.s).2; rwa [nums_len] at this
  have h_i : t.i.size ≤ 39 := by have := (S5.vInst_ok o.i).2; rwa [nums_len] at this
  have e := raw_len t
  unfold enc
  omega
theorem encB_range (t : Rq) : ∀ n ∈ encB t, 0 ≤ n ∧ n ≤ 255 := by
  unfold encB
  split
  · exact enc_range t
  · intro n hn; cases hn
theorem encB_len (t : Rq) : (encB t).length ≤ 207 := by
  unfold encB
  split
  · exact enc_len ‹_›
  · simp

/-- A reader's way through the bytes. -/
def s0 : S5.St := ⟨2, false⟩
def s1 (zs : List Int) : S5.St := (s0).move (S5.txN zs s0.at') (S5.txE zs s0.at')
def s2 (zs : List Int) : S5.St := (s1 zs).move (S5.txN zs (s1 zs).at') (S5.txE zs (s1 zs).at')
def s3 (zs : List Int) : S5.St := (s2 zs).move (S5.txN zs (s2 zs).at') (S5.txE zs (s2 zs).at')
def s4 (zs : List Int) : S5.St := (s3 zs).move (S5.getN zs (s3 zs).at' 4) (S5.getE zs (s3 zs).at' 4)
def s5 (zs : List Int) : S5.St := (s4 zs).move (S5.getN zs (s4 zs).at' 1) (S5.getE zs (s4 zs).at' 1)
def s6 (zs : List Int) : S5.St := (s5 zs).move (S5.txN zs (s5 zs).at') (S5.txE zs (s5 zs).at')
def s7 (zs : List Int) : S5.St := (s6 zs).move (S5.txN zs (s6 zs).at') (S5.txE zs (s6 zs).at')
/-- What is read. -/
def parse (zs : List Int) : Rq :=
  ⟨S8.rdL zs, strOfNums (S5.txS zs s0.at'), strOfNums (S5.txS zs (s1 zs).at'), strOfNums (S5.txS zs (s2 zs).at'), S5.getV zs (s3 zs).at' 4 (S8.rdL zs), S5.getV zs (s4 zs).at' 1 false, strOfNums (S5.txS zs (s5 zs).at'), strOfNums (S5.txS zs (s6 zs).at')⟩
/-- The header, whatever follows. -/
theorem head_pre (t : Rq) (ys : List Int) : S8.rdE (raw t ++ ys) = 0 ∧ S8.rdK (raw t ++ ys) = 1 ∧ S8.rdL (raw t ++ ys) = t.l := by
  unfold raw
  rw [List.append_assoc]
  exact S8.rd_put (by decide) _ _
theorem head_enc (t : Rq) : S8.rdE (enc t) = 0 ∧ S8.rdK (enc t) = 1 ∧ S8.rdL (enc t) = t.l := by
  have h := head_pre t []
  rw [List.append_nil] at h
  exact h
theorem parse_at {t : Rq} (f : t.Fit) (h : chkE t = 0) (zs : List Int) (hl : S8.rdL zs = t.l) (A0 : S5.AtF zs (raw t) 0) : (s7 zs).bad = false ∧ parse zs = t := by
  have o := ok_of h
  unfold raw at A0
  have A1 := A0.right
  have q0 : (0 : Int) + ((S8.put 1 t.l).length : Int) = s0.at' := by simp [S8.put, S8.okK, s0]
  rw [q0] at A1
  obtain ⟨e1, v1, n1⟩ := A1.left.text (S5.vName_ok o.a).1 (S5.vName_ok o.a).2
  have Z1 : s1 zs = ⟨s0.at' + ((nums t.a).length + 1), false⟩ := by unfold s1; rw [S5.St.move_ok (rfl) e1, n1]
  have A2 := A1.right
  have q1 : s0.at' + ((S5.text (nums t.a)).length : Int) = (s1 zs).at' := by rw [Z1]; simp [S5.text]
  rw [q1] at A2
  obtain ⟨e2, v2, n2⟩ := A2.left.text (S5.vInst_ok o.b).1 (S5.vInst_ok o.b).2
  have Z2 : s2 zs = ⟨(s1 zs).at' + ((nums t.b).length + 1), false⟩ := by unfold s2; rw [S5.St.move_ok (by rw [Z1]) e2, n2]
  have A3 := A2.right
  have q2 : (s1 zs).at' + ((S5.text (nums t.b)).length : Int) = (s2 zs).at' := by rw [Z2]; simp [S5.text]
  rw [q2] at A3
  obtain ⟨e3, v3, n3⟩ := A3.left.text (S5.vRealm_ok o.c).1 (S5.vRealm_ok o.c).2
  have Z3 : s3 zs = ⟨(s2 zs).at' + ((nums t.c).length + 1), false⟩ := by unfold s3; rw [S5.St.move_ok (by rw [Z2]) e3, n3]
  have A4 := A3.right
  have q3 : (s2 zs).at' + ((S5.text (nums t.c)).length : Int) = (s3 zs).at' := by rw [Z3]; simp [S5.text]
  rw [q3] at A4
  obtain ⟨e4, v4, n4⟩ := A4.left.num4 (by have := o.tm; omega) (by have := o.tm; omega)
  rw [← hl] at v4
  have Z4 : s4 zs = ⟨(s3 zs).at' + 4, false⟩ := by unfold s4; rw [S5.St.move_ok (by rw [Z3]) e4, n4]
  have A5 := A4.right
  have q4 : (s3 zs).at' + ((S5.num4 t.l t.tm).length : Int) = (s4 zs).at' := by rw [Z4]; simp [S5.num4_len]
  rw [q4] at A5
  obtain ⟨e5, v5, n5⟩ := A5.left.num1 o.li.1 (by have := o.li; omega)
  have Z5 : s5 zs = ⟨(s4 zs).at' + 1, false⟩ := by unfold s5; rw [S5.St.move_ok (by rw [Z4]) e5, n5]
  have A6 := A5.right
  have q5 : (s4 zs).at' + ((S5.num1 t.li).length : Int) = (s5 zs).at' := by rw [Z5]; simp [S5.num1]
  rw [q5] at A6
  obtain ⟨e6, v6, n6⟩ := A6.left.text (S5.vName_ok o.s).1 (S5.vName_ok o.s).2
  have Z6 : s6 zs = ⟨(s5 zs).at' + ((nums t.s).length + 1), false⟩ := by unfold s6; rw [S5.St.move_ok (by rw [Z5]) e6, n6]
  have A7 := A6.right
  have q6 : (s5 zs).at' + ((S5.text (nums t.s)).length : Int) = (s6 zs).at' := by rw [Z6]; simp [S5.text]
  rw [q6] at A7
  obtain ⟨e7, v7, n7⟩ := A7.text (S5.vInst_ok o.i).1 (S5.vInst_ok o.i).2
  have Z7 : s7 zs = ⟨(s6 zs).at' + ((nums t.i).length + 1), false⟩ := by unfold s7; rw [S5.St.move_ok (by rw [Z6]) e7, n7]
  refine ⟨by rw [Z7], ?_⟩
  unfold parse
  rw [v1, v2, v3, v4, v5, v6, v7, hl]
  simp only [str_nums]
theorem parse_enc {t : Rq} (f : t.Fit) (h : chkE t = 0) (zs : List Int) (hz : zs = enc t) : (s7 zs).bad = false ∧ parse zs = t := by
  have A0 : S5.AtF zs (raw t) 0 := by
    subst hz
    unfold enc
    exact S5.AtF.all _
  exact parse_at f h zs (by rw [hz]; exact (head_enc t).2.2) A0
/-- Whether there is one of these bytes; it, or none; the error. -/
def Is (zs : List Int) (t : Rq) : Prop := t.Fit ∧ chkE t = 0 ∧ enc t = zs
open Classical in
noncomputable def decT (zs : List Int) : Rq := if h : ∃ t, Is zs t then h.choose else Rq.zero
open Classical in
noncomputable def decE (zs : List Int) : Int := if S8.isE zs [1] ≠ 0 then S8.isE zs [1] else if ∃ t, Is zs t then 0 else 100
theorem enc_inj {t u : Rq} (f : t.Fit) (h : chkE t = 0) (f' : u.Fit) (h' : chkE u = 0) (e : enc t = enc u) : t = u := by
  rw [← (parse_enc (t := t) f h _ rfl).2, e, (parse_enc f' h' _ rfl).2]
theorem is_enc (t : Rq) : S8.isE (enc t) [1] = 0 ∧ S8.isB (enc t) [1] = t.l := by
  obtain ⟨h1, h2, h3⟩ := head_enc t
  have := S8.is_yes h1 (ks := [1]) (by rw [h2]; simp)
  exact ⟨this.1, this.2.trans h3⟩
theorem dec_kind {zs : List Int} (h : S8.isE zs [1] ≠ 0) : decE zs = S8.isE zs [1] ∧ decT zs = Rq.zero := by
  have hn : ¬ ∃ t, Is zs t := by
    rintro ⟨t, _, _, e⟩
    exact h (by rw [← e]; exact (is_enc t).1)
  exact ⟨by unfold decE; rw [if_pos h], by unfold decT; rw [dif_neg hn]⟩
theorem dec_yes {zs : List Int} {t : Rq} (h : Is zs t) : decE zs = 0 ∧ decT zs = t := by
  have he : ∃ t, Is zs t := ⟨t, h⟩
  have h0 : ¬ S8.isE zs [1] ≠ 0 := by rw [← h.2.2, (is_enc t).1]; simp
  refine ⟨by unfold decE; rw [if_neg h0, if_pos he], ?_⟩
  unfold decT
  rw [dif_pos he]
  have g := he.choose_spec
  exact enc_inj g.1 g.2.1 h.1 h.2.1 (g.2.2.trans h.2.2.symm)
theorem dec_no {zs : List Int} (h : S8.isE zs [1] = 0) (hn : ¬ ∃ t, Is zs t) : decE zs = 100 ∧ decT zs = Rq.zero :=
  ⟨by unfold decE; rw [if_neg (by simp [h]), if_neg hn], by unfold decT; rw [dif_neg hn]⟩
theorem dec_bad {zs : List Int} (h : S8.isE zs [1] = 0) (hb : (s7 zs).bad = true ∨ chkE (parse zs) ≠ 0 ∨ encB (parse zs) ≠ zs) : decE zs = 100 ∧ decT zs = Rq.zero := by
  refine dec_no h ?_
  rintro ⟨t, f, c, e⟩
  obtain ⟨g1, g2⟩ := parse_enc f c zs e.symm
  rcases hb with hb | hb | hb
  · rw [g1] at hb; cases hb
  · rw [g2] at hb; exact hb c
  · rw [g2] at hb; unfold encB at hb; rw [if_pos c] at hb; exact hb e
theorem decT_fit (zs : List Int) : (decT zs).Fit := by
  by_cases he : ∃ t, Is zs t
  · obtain ⟨t, h⟩ := he
    rw [(dec_yes h).2]; exact h.1
  · unfold decT; rw [dif_neg he]; exact Rq.zero_fit
theorem dec_enc {t : Rq} (f : t.Fit) (h : chkE t = 0) : decE (enc t) = 0 ∧ decT (enc t) = t := dec_yes ⟨f, h, rfl⟩

end Go.Proofs.Ytkhkmgblgonfoaa.S9q

/-
  Error replies of chapter 9 as data: their error, their bytes, which error reply any bytes are.
-/
namespace Go.Proofs.Ytkhkmgblgonfoaa.S9e

structure Er where
  l : Bool
  a : ByteArray
  b : ByteArray
  c : ByteArray
  tm : Int
  co : Int
  s : ByteArray
def Er.zero : Er := ⟨false, ⟨#[]⟩, ⟨#[]⟩, ⟨#[]⟩, 0, 0, ⟨#[]⟩⟩
def Er.cells (t : Er) : Array Value := #[.bool t.l, .string t.a, .string t.b, .string t.c, .int .i64 t.tm, .int .i64 t.co, .string t.s]
def Er.val (t : Er) : Value := .agg t.cells
/-- Its numbers are numbers of their kinds, its texts have a length. -/
structure Er.Fit (t : Er) : Prop where
  a : t.a.size ≤ maxLen
  b : t.b.size ≤ maxLen
  c : t.c.size ≤ maxLen
  tm : -9223372036854775808 ≤ t.tm ∧ t.tm ≤ 9223372036854775807
  co : -9223372036854775808 ≤ t.co ∧ t.co ≤ 9223372036854775807
  s : t.s.size ≤ maxLen
theorem Er.zero_fit : Er.zero.Fit := ⟨by decide, by decide, by decide, by decide, by decide, by decide⟩

def win (n m : Int) : Bool := decide (0 ≤ n) && decide (n ≤ m)
theorem win_iff {n m : Int} : win n m = true ↔ 0 ≤ n ∧ n ≤ m := by simp [win]
def nzB (c : UInt8) : Bool := c != 0
def nz (s : ByteArray) : Bool := s.data.toList.all nzB
theorem nz_ok {s : ByteArray} (h : nz s = true) : ∀ z ∈ nums s, z ≠ 0 := fun z hz e => by
  unfold nums at hz
  obtain ⟨c, hc, rfl⟩ := List.mem_map.1 hz
  have := List.all_eq_true.1 h c hc
  unfold nzB at this
  have h0 : c = 0 := UInt8.toNat_inj.1 (by simpa using e)
  rw [h0] at this
  exact absurd this (by decide)
def q0 (t : Er) : Bool := S1.vP t.a.data.toList t.b.data.toList t.c.data.toList
def q1 (t : Er) : Bool := win t.tm 4294967295 && (decide (1 ≤ t.co) && decide (t.co ≤ 99))
def q2 (t : Er) : Bool := decide (t.s.size ≤ 39)
def q3 (t : Er) : Bool := nz t.s
def chkE (t : Er) : Int := if q0 t = false then 103 else if q1 t = false then 104 else if q2 t = false then 105 else if q3 t = false then 100 else 0
theorem chk_0 {t : Er}  (h : q0 t = false) : chkE t = 103 := by unfold chkE; rw [if_pos h]
theorem chk_1 {t : Er} (h0 : q0 t = true) (h : q1 t = false) : chkE t = 104 := by unfold chkE; rw [if_neg (by simp [h0]), if_pos h]
theorem chk_2 {t : Er} (h0 : q0 t = true) (h1 : q1 t = true) (h : q2 t = false) : chkE t = 105 := by unfold chkE; rw [if_neg (by simp [h0]), if_neg (by simp [h1]), if_pos h]
theorem chk_3 {t : Er} (h0 : q0 t = true) (h1 : q1 t = true) (h2 : q2 t = true) (h : q3 t = false) : chkE t = 100 := by unfold chkE; rw [if_neg (by simp [h0]), if_neg (by simp [h1]), if_neg (by simp [h2]), if_pos h]
theorem chk_ok {t : Er} (h0 : q0 t = true) (h1 : q1 t = true) (h2 : q2 t = true) (h3 : q3 t = true) : chkE t = 0 := by unfold chkE; rw [if_neg (by simp [h0]), if_neg (by simp [h1]), if_neg (by simp [h2]), if_neg (by simp [h3])]
theorem chk_zero {t : Er} (h : chkE t = 0) : q0 t = true ∧ q1 t = true ∧ q2 t = true ∧ q3 t = true := by
  unfold chkE at h
  split at h
  · omega
  · skip
    split at h
    · omega
    · skip
      split at h
      · omega
      · skip
        split at h
        · omega
        · simp_all
/-- What a valid one's parts are. -/
structure Ok (t : Er) : Prop where
  a : S1.vName t.a.data.toList = true
  b : S1.vInst t.b.data.toList = true
  c : S1.vRealm t.c.data.toList = true
  tm : 0 ≤ t.tm ∧ t.tm ≤ 4294967295
  co : 1 ≤ t.co ∧ t.co ≤ 99
  sl : t.s.size ≤ 39
  s : ∀ z ∈ nums t.s, z ≠ 0
theorem ok_of {t : Er} (h : chkE t = 0) : Ok t := by
  obtain ⟨h0, h1, h2, h3⟩ := chk_zero h
  unfold q0 q1 q2 q3 at *
  simp only [Bool.and_eq_true, win_iff, decide_eq_true_eq] at *
  exact ⟨(S5.vP_parts h0).1, (S5.vP_parts h0).2.1, (S5.vP_parts h0).2.2, h1.1, h1.2, h2, nz_ok h3⟩
theorem small {s : ByteArray} (h : (nums s).length ≤ 39) : s.size ≤ maxLen := by
  rw [nums_len] at h
  exact Nat.le_trans h (by decide)
def flag (l : Bool) : Int := if l then 1 else 0
/-- Its bytes. -/
def raw (t : Er) : List Int := S8.put 5 t.l ++ (S5.text (nums t.a) ++ (S5.text (nums t.b) ++ (S5.text (nums t.c) ++ (S5.num4 t.l t.tm ++ (S5.num4 t.l t.co ++ S5.text (nums t.s))))))
def enc (t : Er) : List Int := raw t
def encB (t : Er) : List Int := if chkE t = 0 then enc t else []
theorem raw_len (t : Er) : (raw t).length = 14 + t.a.size + t.b.size + t.c.size + t.s.size := by
  simp [raw, S8.put, S8.okK, S5.num1, S5.text, nums_len, S5.num4_len, S5.num2_len, S3.bytes8_len]; omega
theorem raw_range (t : Er) : ∀ n ∈ raw t, 0 ≤ n ∧ n ≤ 255 := by
  have ht : ∀ s : ByteArray, ∀ n ∈ S5.text (nums s), 0 ≤ n ∧ n ≤ 255 := by
    intro s n hn
    rcases List.mem_append.1 hn with hn | hn
    · exact nums_range s n hn
    · simp at hn; omega
  intro n hn
  unfold raw at hn
  simp only [List.mem_append] at hn
  rcases hn with h | h | h | h | h | h | h
  · exact S8.put_range _ _ n h
  · exact ht _ n h
  · exact ht _ n h
  · exact ht _ n h
  · exact S5.num4_range _ _ n h
  · exact S5.num4_range _ _ n h
  · exact ht _ n h
theorem enc_range (t : Er) : ∀ n ∈ enc t, 0 ≤ n ∧ n ≤ 255 := raw_range t
theorem enc_len {t : Er} (h : chkE t = 0) : (enc t).length ≤ 300 := by
  have o := ok_of h
  have h_a : t.a.size ≤ 39 := by have := (S5.vName_ok o.a).2; rwa [nums_len] at this
  have h_b : t.b.size ≤ 39 := by have := (S5.vInst_ok o.b).2; rwa [nums_len] at this
  have h_c : t.c.size ≤ 39 := by have := (S5.vRealm_ok o.c).2; rwa [nums_len] at this
  have h_s : t.s.size ≤ 39 := Nat.le_trans o.sl (by decide)
  have e := raw_len t
  unfold enc
  omega
theorem encB_range (t : Er) : ∀ n ∈ encB t, 0 ≤ n ∧ n ≤ 255 := by
  unfold encB
  split
  · exact enc_range t
  · intro n hn; cases hn
theorem encB_len (t : Er) : (encB t).length ≤ 300 := by
  unfold encB
  split
  · exact enc_len ‹_›
  · simp

/-- A reader's way through the bytes. -/
def s0 : S5.St := ⟨2, false⟩
def s1 (zs : List Int) : S5.St := (s0).move (S5.txN zs s0.at') (S5.txE zs s0.at')
def s2 (zs : List Int) : S5.St := (s1 zs).move (S5.txN zs (s1 zs).at') (S5.txE zs (s1 zs).at')
def s3 (zs : List Int) : S5.St := (s2 zs).move (S5.txN zs (s2 zs).at') (S5.txE zs (s2 zs).at')
def s4 (zs : List Int) : S5.St := (s3 zs).move (S5.getN zs (s3 zs).at' 4) (S5.getE zs (s3 zs).at' 4)
def s5 (zs : List Int) : S5.St := (s4 zs).move (S5.getN zs (s4 zs).at' 4) (S5.getE zs (s4 zs).at' 4)
def s6 (zs : List Int) : S5.St := (s5 zs).move (S5.txN zs (s5 zs).at') (S5.txE zs (s5 zs).at')
/-- What is read. -/
def parse (zs : List Int) : Er :=
  ⟨S8.rdL zs, strOfNums (S5.txS zs s0.at'), strOfNums (S5.txS zs (s1 zs).at'), strOfNums (S5.txS zs (s2 zs).at'), S5.getV zs (s3 zs).at' 4 (S8.rdL zs), S5.getV zs (s4 zs).at' 4 (S8.rdL zs), strOfNums (S5.txS zs (s5 zs).at')⟩
/-- The header, whatever follows. -/
theorem head_pre (t : Er) (ys : List Int) : S8.rdE (raw t ++ ys) = 0 ∧ S8.rdK (raw t ++ ys) = 5 ∧ S8.rdL (raw t ++ ys) = t.l := by
  unfold raw
  rw [List.append_assoc]
  exact S8.rd_put (by decide) _ _
theorem head_enc (t : Er) : S8.rdE (enc t) = 0 ∧ S8.rdK (enc t) = 5 ∧ S8.rdL (enc t) = t.l := by
  have h := head_pre t []
  rw [List.append_nil] at h
  exact h
theorem parse_at {t : Er} (f : t.Fit) (h : chkE t = 0) (zs : List Int) (hl : S8.rdL zs = t.l) (A0 : S5.AtF zs (raw t) 0) : (s6 zs).bad = false ∧ parse zs = t := by
  have o := ok_of h
  unfold raw at A0
  have A1 := A0.right
  have q0 : (0 : Int) + ((S8.put 5 t.l).length : Int) = s0.at' := by simp [S8.put, S8.okK, s0]
  rw [q0] at A1
  obtain ⟨e1, v1, n1⟩ := A1.left.text (S5.vName_ok o.a).1 (S5.vName_ok o.a).2
  have Z1 : s1 zs = ⟨s0.at' + ((nums t.a).length + 1), false⟩ := by unfold s1; rw [S5.St.move_ok (rfl) e1, n1]
  have A2 := A1.right
  have q1 : s0.at' + ((S5.text (nums t.a)).length : Int) = (s1 zs).at' := by rw [Z1]; simp [S5.text]
  rw [q1] at A2
  obtain ⟨e2, v2, n2⟩ := A2.left.text (S5.vInst_ok o.b).1 (S5.vInst_ok o.b).2
  have Z2 : s2 zs = ⟨(s1 zs).at' + ((nums t.b).length + 1), false⟩ := by unfold s2; rw [S5.St.move_ok (by rw [Z1]) e2, n2]
  have A3 := A2.right
  have q2 : (s1 zs).at' + ((S5.text (nums t.b)).length : Int) = (s2 zs).at' := by rw [Z2]; simp [S5.text]
  rw [q2] at A3
  obtain ⟨e3, v3, n3⟩ := A3.left.text (S5.vRealm_ok o.c).1 (S5.vRealm_ok o.c).2
  have Z3 : s3 zs = ⟨(s2 zs).at' + ((nums t.c).length + 1), false⟩ := by unfold s3; rw [S5.St.move_ok (by rw [Z2]) e3, n3]
  have A4 := A3.right
  have q3 : (s2 zs).at' + ((S5.text (nums t.c)).length : Int) = (s3 zs).at' := by rw [Z3]; simp [S5.text]
  rw [q3] at A4
  obtain ⟨e4, v4, n4⟩ := A4.left.num4 (by have := o.tm; omega) (by have := o.tm; omega)
  rw [← hl] at v4
  have Z4 : s4 zs = ⟨(s3 zs).at' + 4, false⟩ := by unfold s4; rw [S5.St.move_ok (by rw [Z3]) e4, n4]
  have A5 := A4.right
  have q4 : (s3 zs).at' + ((S5.num4 t.l t.tm).length : Int) = (s4 zs).at' := by rw [Z4]; simp [S5.num4_len]
  rw [q4] at A5
  obtain ⟨e5, v5, n5⟩ := A5.left.num4 (by have := o.co; omega) (by have := o.co; omega)
  rw [← hl] at v5
  have Z5 : s5 zs = ⟨(s4 zs).at' + 4, false⟩ := by unfold s5; rw [S5.St.move_ok (by rw [Z4]) e5, n5]
  have A6 := A5.right
  have q5 : (s4 zs).at' + ((S5.num4 t.l t.co).length : Int) = (s5 zs).at' := by rw [Z5]; simp [S5.num4_len]
  rw [q5] at A6
  obtain ⟨e6, v6, n6⟩ := A6.text o.s (by rw [nums_len]; exact Nat.le_trans o.sl (by decide))
  have Z6 : s6 zs = ⟨(s5 zs).at' + ((nums t.s).length + 1), false⟩ := by unfold s6; rw [S5.St.move_ok (by rw [Z5]) e6, n6]
  refine ⟨by rw [Z6], ?_⟩
  unfold parse
  rw [v1, v2, v3, v4, v5, v6, hl]
  simp only [str_nums]
theorem parse_enc {t : Er} (f : t.Fit) (h : chkE t = 0) (zs : List Int) (hz : zs = enc t) : (s6 zs).bad = false ∧ parse zs = t := by
  have A0 : S5.AtF zs (raw t) 0 := by
    subst hz
    unfold enc
    exact S5.AtF.all _
  exact parse_at f h zs (by rw [hz]; exact (head_enc t).2.2) A0
/-- Whether there is one of these bytes; it, or none; the error. -/
def Is (zs : List Int) (t : Er) : Prop := t.Fit ∧ chkE t = 0 ∧ enc t = zs
open Classical in
noncomputable def decT (zs : List Int) : Er := if h : ∃ t, Is zs t then h.choose else Er.zero
open Classical in
noncomputable def decE (zs : List Int) : Int := if S8.isE zs [5] ≠ 0 then S8.isE zs [5] else if ∃ t, Is zs t then 0 else 100
theorem enc_inj {t u : Er} (f : t.Fit) (h : chkE t = 0) (f' : u.Fit) (h' : chkE u = 0) (e : enc t = enc u) : t = u := by
  rw [← (parse_enc (t := t) f h _ rfl).2, e, (parse_enc f' h' _ rfl).2]
theorem is_enc (t : Er) : S8.isE (enc t) [5] = 0 ∧ S8.isB (enc t) [5] = t.l := by
  obtain ⟨h1, h2, h3⟩ := head_enc t
  have := S8.is_yes h1 (ks := [5]) (by rw [h2]; simp)
  exact ⟨this.1, this.2.trans h3⟩
theorem dec_kind {zs : List Int} (h : S8.isE zs [5] ≠ 0) : decE zs = S8.isE zs [5] ∧ decT zs = Er.zero := by
  have hn : ¬ ∃ t, Is zs t := by
    rintro ⟨t, _, _, e⟩
    exact h (by rw [← e]; exact (is_enc t).1)
  exact ⟨by unfold decE; rw [if_pos h], by unfold decT; rw [dif_neg hn]⟩
theorem dec_yes {zs : List Int} {t : Er} (h : Is zs t) : decE zs = 0 ∧ decT zs = t := by
  have he : ∃ t, Is zs t := ⟨t, h⟩
  have h0 : ¬ S8.isE zs [5] ≠ 0 := by rw [← h.2.2, (is_enc t).1]; simp
  refine ⟨by unfold decE; rw [if_neg h0, if_pos he], ?_⟩
  unfold decT
  rw [dif_pos he]
  have g := he.choose_spec
  exact enc_inj g.1 g.2.1 h.1 h.2.1 (g.2.2.trans h.2.2.symm)
theorem dec_no {zs : List Int} (h : S8.isE zs [5] = 0) (hn : ¬ ∃ t, Is zs t) : decE zs = 100 ∧ decT zs = Er.zero :=
  ⟨by unfold decE; rw [if_neg (by simp [h]), if_neg hn], by unfold decT; rw [dif_neg hn]⟩
theorem dec_bad {zs : List Int} (h : S8.isE zs [5] = 0) (hb : (s6 zs).bad = true ∨ chkE (parse zs) ≠ 0 ∨ encB (parse zs) ≠ zs) : decE zs = 100 ∧ decT zs = Er.zero := by
  refine dec_no h ?_
  rintro ⟨t, f, c, e⟩
  obtain ⟨g1, g2⟩ := parse_enc f c zs e.symm
  rcases hb with hb | hb | hb
  · rw [g1] at hb; cases hb
  · rw [g2] at hb; exact hb c
  · rw [g2] at hb; unfold encB at hb; rw [if_pos c] at hb; exact hb e
theorem decT_fit (zs : List Int) : (decT zs).Fit := by
  by_cases he : ∃ t, Is zs t
  · obtain ⟨t, h⟩ := he
    rw [(dec_yes h).2]; exact h.1
  · unfold decT; rw [dif_neg he]; exact Er.zero_fit
theorem dec_enc {t : Er} (f : t.Fit) (h : chkE t = 0) : decE (enc t) = 0 ∧ decT (enc t) = t := dec_yes ⟨f, h, rfl⟩

end Go.Proofs.Ytkhkmgblgonfoaa.S9e

/-
  Replies of chapter 9 as data: their error, their bytes, which reply any bytes are.
-/
namespace Go.Proofs.Ytkhkmgblgonfoaa.S9r

structure Rp where
  l : Bool
  a : ByteArray
  b : ByteArray
  c : ByteArray
  tm : Int
  ex : Int
  kv : Int
  z : List Int
def Rp.zero : Rp := ⟨false, ⟨#[]⟩, ⟨#[]⟩, ⟨#[]⟩, 0, 0, 0, []⟩
def Rp.cells (t : Rp) (A : Option Addr) (n cap : Nat) : Array Value := #[.bool t.l, .string t.a, .string t.b, .string t.c, .int .i64 t.tm, .int .i64 t.ex, .int .i64 t.kv, .slice A n cap]
def Rp.val (t : Rp) (A : Option Addr) (n cap : Nat) : Value := .agg (t.cells A n cap)
/-- Its numbers are numbers of their kinds, its texts have a length. -/
structure Rp.Fit (t : Rp) : Prop where
  a : t.a.size ≤ maxLen
  b : t.b.size ≤ maxLen
  c : t.c.size ≤ maxLen
  tm : -9223372036854775808 ≤ t.tm ∧ t.tm ≤ 9223372036854775807
  ex : -9223372036854775808 ≤ t.ex ∧ t.ex ≤ 9223372036854775807
  kv : -9223372036854775808 ≤ t.kv ∧ t.kv ≤ 9223372036854775807
  z : (∀ n ∈ t.z, 0 ≤ n ∧ n ≤ 255)
theorem Rp.zero_fit : Rp.zero.Fit := ⟨by decide, by decide, by decide, by decide, by decide, by decide, (by intro n h; cases h)⟩

def win (n m : Int) : Bool := decide (0 ≤ n) && decide (n ≤ m)
theorem win_iff {n m : Int} : win n m = true ↔ 0 ≤ n ∧ n ≤ m := by simp [win]
def q0 (t : Rp) : Bool := S1.vP t.a.data.toList t.b.data.toList t.c.data.toList
def q1 (t : Rp) : Bool := (win t.tm 4294967295 && win t.ex 4294967295) && win t.kv 255
def q2 (t : Rp) : Bool := decide (t.z.length ≤ 1012)
def chkE (t : Rp) : Int := if q0 t = false then 103 else if q1 t = false then 104 else if q2 t = false then 105 else 0
theorem chk_0 {t : Rp}  (h : q0 t = false) : chkE t = 103 := by unfold chkE; rw [if_pos h]
theorem chk_1 {t : Rp} (h0 : q0 t = true) (h : q1 t = false) : chkE t = 104 := by unfold chkE; rw [if_neg (by simp [h0]), if_pos h]
theorem chk_2 {t : Rp} (h0 : q0 t = true) (h1 : q1 t = true) (h : q2 t = false) : chkE t = 105 := by unfold chkE; rw [if_neg (by simp [h0]), if_neg (by simp [h1]), if_pos h]
theorem chk_ok {t : Rp} (h0 : q0 t = true) (h1 : q1 t = true) (h2 : q2 t = true) : chkE t = 0 := by unfold chkE; rw [if_neg (by simp [h0]), if_neg (by simp [h1]), if_neg (by simp [h2])]
theorem chk_zero {t : Rp} (h : chkE t = 0) : q0 t = true ∧ q1 t = true ∧ q2 t = true := by
  unfold chkE at h
  split at h
  · omega
  · skip
    split at h
    · omega
    · skip
      split at h
      · omega
      · simp_all
/-- What a valid one's parts are. -/
structure Ok (t : Rp) : Prop where
  a : S1.vName t.a.data.toList = true
  b : S1.vInst t.b.data.toList = true
  c : S1.vRealm t.c.data.toList = true
  tm : 0 ≤ t.tm ∧ t.tm ≤ 4294967295
  ex : 0 ≤ t.ex ∧ t.ex ≤ 4294967295
  kv : 0 ≤ t.kv ∧ t.kv ≤ 255
  z : t.z.length ≤ 1012
theorem ok_of {t : Rp} (h : chkE t = 0) : Ok t := by
  obtain ⟨h0, h1, h2⟩ := chk_zero h
  unfold q0 q1 q2 at *
  simp only [Bool.and_eq_true, win_iff, decide_eq_true_eq] at *
  exact ⟨(S5.vP_parts h0).1, (S5.vP_parts h0).2.1, (S5.vP_parts h0).2.2, h1.1.1, h1.1.2, h1.2, h2⟩
theorem small {s : ByteArray} (h : (nums s).length ≤ 39) : s.size ≤ maxLen := by
  rw [nums_len] at h
  exact Nat.le_trans h (by decide)
def flag (l : Bool) : Int := if l then 1 else 0
/-- Its bytes. -/
def raw (t : Rp) : List Int := S8.put 2 t.l ++ (S5.text (nums t.a) ++ (S5.text (nums t.b) ++ (S5.text (nums t.c) ++ (S5.num4 t.l t.tm ++ (S5.num1 1 ++ (S5.num4 t.l t.ex ++ (S5.num1 t.kv ++ (S5.num2 t.l (t.z.length : Int) ++ t.z))))))))
def enc (t : Rp) : List Int := raw t
def encB (t : Rp) : List Int := if chkE t = 0 then enc t else []
theorem raw_len (t : Rp) : (raw t).length = 17 + t.a.size + t.b.size + t.c.size + t.z.length := by
  simp [raw, S8.put, S8.okK, S5.num1, S5.text, nums_len, S5.num4_len, S5.num2_len, S3.bytes8_len]; omega
theorem raw_range (t : Rp) (f : t.Fit) : ∀ n ∈ raw t, 0 ≤ n ∧ n ≤ 255 := by
  have ht : ∀ s : ByteArray, ∀ n ∈ S5.text (nums s), 0 ≤ n ∧ n ≤ 255 := by
    intro s n hn
    rcases List.mem_append.1 hn with hn | hn
    · exact nums_range s n hn
    · simp at hn; omega
  intro n hn
  unfold raw at hn
  simp only [List.mem_append] at hn
  rcases hn with h | h | h | h | h | h | h | h | h | h
  · exact S8.put_range _ _ n h
  · exact ht _ n h
  · exact ht _ n h
  · exact ht _ n h
  · exact S5.num4_range _ _ n h
  · exact S5.num1_range _ n h
  · exact S5.num4_range _ _ n h
  · exact S5.num1_range _ n h
  · exact S5.num2_range _ _ n h
  · exact f.z n h
theorem enc_range (t : Rp) (f : t.Fit) : ∀ n ∈ enc t, 0 ≤ n ∧ n ≤ 255 := raw_range t f
theorem enc_len {t : Rp} (h : chkE t = 0) : (enc t).length ≤ 1200 := by
  have o := ok_of h
  have h_a : t.a.size ≤ 39 := by have := (S5.vName_ok o.a).2; rwa [nums_len] at this
  have h_b : t.b.size ≤ 39 := by have := (S5.vInst_ok o.b).2; rwa [nums_len] at this
  have h_c : t.c.size ≤ 39 := by have := (S5.vRealm_ok o.c).2; rwa [nums_len] at this
  have h_z := o.z
  have e := raw_len t
  unfold enc
  omega
theorem encB_range (t : Rp) (f : t.Fit) : ∀ n ∈ encB t, 0 ≤ n ∧ n ≤ 255 := by
  unfold encB
  split
  · exact enc_range t f
  · intro n hn; cases hn
theorem encB_len (t : Rp) : (encB t).length ≤ 1200 := by
  unfold encB
  split
  · exact enc_len ‹_›
  · simp

/-- A reader's way through the bytes. -/
def s0 : S5.St := ⟨2, false⟩
def s1 (zs : List Int) : S5.St := (s0).move (S5.txN zs s0.at') (S5.txE zs s0.at')
def s2 (zs : List Int) : S5.St := (s1 zs).move (S5.txN zs (s1 zs).at') (S5.txE zs (s1 zs).at')
def s3 (zs : List Int) : S5.St := (s2 zs).move (S5.txN zs (s2 zs).at') (S5.txE zs (s2 zs).at')
def s4 (zs : List Int) : S5.St := (s3 zs).move (S5.getN zs (s3 zs).at' 4) (S5.getE zs (s3 zs).at' 4)
def s5 (zs : List Int) : S5.St := (s4 zs).move (S5.getN zs (s4 zs).at' 1) (S5.getE zs (s4 zs).at' 1)
def s6 (zs : List Int) : S5.St := (s5 zs).move (S5.getN zs (s5 zs).at' 4) (S5.getE zs (s5 zs).at' 4)
def s7 (zs : List Int) : S5.St := (s6 zs).move (S5.getN zs (s6 zs).at' 1) (S5.getE zs (s6 zs).at' 1)
def s8 (zs : List Int) : S5.St := (s7 zs).move (S5.getN zs (s7 zs).at' 2) (S5.getE zs (s7 zs).at' 2)
def s9 (zs : List Int) : S5.St := (s8 zs).move (S5.byN zs (s8 zs).at' (S5.getV zs (s7 zs).at' 2 (S8.rdL zs))) (S5.byE zs (s8 zs).at' (S5.getV zs (s7 zs).at' 2 (S8.rdL zs)))
/-- What is read. -/
def parse (zs : List Int) : Rp :=
  ⟨S8.rdL zs, strOfNums (S5.txS zs s0.at'), strOfNums (S5.txS zs (s1 zs).at'), strOfNums (S5.txS zs (s2 zs).at'), S5.getV zs (s3 zs).at' 4 (S8.rdL zs), S5.getV zs (s5 zs).at' 4 (S8.rdL zs), S5.getV zs (s6 zs).at' 1 false, S5.byS zs (s8 zs).at' (S5.getV zs (s7 zs).at' 2 (S8.rdL zs))⟩
/-- The header, whatever follows. -/
theorem head_pre (t : Rp) (ys : List Int) : S8.rdE (raw t ++ ys) = 0 ∧ S8.rdK (raw t ++ ys) = 2 ∧ S8.rdL (raw t ++ ys) = t.l := by
  unfold raw
  rw [List.append_assoc]
  exact S8.rd_put (by decide) _ _
theorem head_enc (t : Rp) : S8.rdE (enc t) = 0 ∧ S8.rdK (enc t) = 2 ∧ S8.rdL (enc t) = t.l := by
  have h := head_pre t []
  rw [List.append_nil] at h
  exact h
theorem parse_at {t : Rp} (f : t.Fit) (h : chkE t = 0) (zs : List Int) (hl : S8.rdL zs = t.l) (A0 : S5.AtF zs (raw t) 0) : (s9 zs).bad = false ∧ parse zs = t := by
  have o := ok_of h
  unfold raw at A0
  have A1 := A0.right
  have q0 : (0 : Int) + ((S8.put 2 t.l).length : Int) = s0.at' := by simp [S8.put, S8.okK, s0]
  rw [q0] at A1
  obtain ⟨e1, v1, n1⟩ := A1.left.text (S5.vName_ok o.a).1 (S5.vName_ok o.a).2
  have Z1 : s1 zs = ⟨s0.at' + ((nums t.a).length + 1), false⟩ := by unfold s1; rw [S5.St.move_ok (rfl) e1, n1]
  have A2 := A1.right
  have q1 : s0.at' + ((S5.text (nums t.a)).length : Int) = (s1 zs).at' := by rw [Z1]; simp [S5.text]
  rw [q1] at A2
  obtain ⟨e2, v2, n2⟩ := A2.left.text (S5.vInst_ok o.b).1 (S5.vInst_ok o.b).2
  have Z2 : s2 zs = ⟨(s1 zs).at' + ((nums t.b).length + 1), false⟩ := by unfold s2; rw [S5.St.move_ok (by rw [Z1]) e2, n2]
  have A3 := A2.right
  have q2 : (s1 zs).at' + ((S5.text (nums t.b)).length : Int) = (s2 zs).at' := by rw [Z2]; simp [S5.text]
  rw [q2] at A3
  obtain ⟨e3, v3, n3⟩ := A3.left.text (S5.vRealm_ok o.c).1 (S5.vRealm_ok o.c).2
  have Z3 : s3 zs = ⟨(s2 zs).at' + ((nums t.c).length + 1), false⟩ := by unfold s3; rw [S5.St.move_ok (by rw [Z2]) e3, n3]
  have A4 := A3.right
  have q3 : (s2 zs).at' + ((S5.text (nums t.c)).length : Int) = (s3 zs).at' := by rw [Z3]; simp [S5.text]
  rw [q3] at A4
  obtain ⟨e4, v4, n4⟩ := A4.left.num4 (by have := o.tm; omega) (by have := o.tm; omega)
  rw [← hl] at v4
  have Z4 : s4 zs = ⟨(s3 zs).at' + 4, false⟩ := by unfold s4; rw [S5.St.move_ok (by rw [Z3]) e4, n4]
  have A5 := A4.right
  have q4 : (s3 zs).at' + ((S5.num4 t.l t.tm).length : Int) = (s4 zs).at' := by rw [Z4]; simp [S5.num4_len]
  rw [q4] at A5
  obtain ⟨e5, v5, n5⟩ := A5.left.num1 (by decide) (by decide)
  have Z5 : s5 zs = ⟨(s4 zs).at' + 1, false⟩ := by unfold s5; rw [S5.St.move_ok (by rw [Z4]) e5, n5]
  have A6 := A5.right
  have q5 : (s4 zs).at' + ((S5.num1 1).length : Int) = (s5 zs).at' := by rw [Z5]; simp [S5.num1]
  rw [q5] at A6
  obtain ⟨e6, v6, n6⟩ := A6.left.num4 (by have := o.ex; omega) (by have := o.ex; omega)
  rw [← hl] at v6
  have Z6 : s6 zs = ⟨(s5 zs).at' + 4, false⟩ := by unfold s6; rw [S5.St.move_ok (by rw [Z5]) e6, n6]
  have A7 := A6.right
  have q6 : (s5 zs).at' + ((S5.num4 t.l t.ex).length : Int) = (s6 zs).at' := by rw [Z6]; simp [S5.num4_len]
  rw [q6] at A7
  obtain ⟨e7, v7, n7⟩ := A7.left.num1 o.kv.1 (by have := o.kv; omega)
  have Z7 : s7 zs = ⟨(s6 zs).at' + 1, false⟩ := by unfold s7; rw [S5.St.move_ok (by rw [Z6]) e7, n7]
  have A8 := A7.right
  have q7 : (s6 zs).at' + ((S5.num1 t.kv).length : Int) = (s7 zs).at' := by rw [Z7]; simp [S5.num1]
  rw [q7] at A8
  obtain ⟨e8, v8, n8⟩ := A8.left.num2 (by omega) (by have := o.z; omega)
  rw [← hl] at v8
  have Z8 : s8 zs = ⟨(s7 zs).at' + 2, false⟩ := by unfold s8; rw [S5.St.move_ok (by rw [Z7]) e8, n8]
  have A9 := A8.right
  have q8 : (s7 zs).at' + ((S5.num2 t.l (t.z.length : Int)).length : Int) = (s8 zs).at' := by rw [Z8]; simp [S5.num2_len]
  rw [q8] at A9
  obtain ⟨e9, v9, n9⟩ := A9.bytes (n := (t.z.length : Int)) rfl
  rw [← v8] at e9 v9 n9
  have Z9 : s9 zs = ⟨(s8 zs).at' + (t.z.length : Int), false⟩ := by unfold s9; rw [S5.St.move_ok (by rw [Z8]) e9, n9, v8]
  refine ⟨by rw [Z9], ?_⟩
  unfold parse
  rw [v1, v2, v3, v4, v6, v7, v9, hl]
  simp only [str_nums]
theorem parse_enc {t : Rp} (f : t.Fit) (h : chkE t = 0) (zs : List Int) (hz : zs = enc t) : (s9 zs).bad = false ∧ parse zs = t := by
  have A0 : S5.AtF zs (raw t) 0 := by
    subst hz
    unfold enc
    exact S5.AtF.all _
  exact parse_at f h zs (by rw [hz]; exact (head_enc t).2.2) A0
/-- Whether there is one of these bytes; it, or none; the error. -/
def Is (zs : List Int) (t : Rp) : Prop := t.Fit ∧ chkE t = 0 ∧ enc t = zs
open Classical in
noncomputable def decT (zs : List Int) : Rp := if h : ∃ t, Is zs t then h.choose else Rp.zero
open Classical in
noncomputable def decE (zs : List Int) : Int := if S8.isE zs [2] ≠ 0 then S8.isE zs [2] else if ∃ t, Is zs t then 0 else 100
theorem enc_inj {t u : Rp} (f : t.Fit) (h : chkE t = 0) (f' : u.Fit) (h' : chkE u = 0) (e : enc t = enc u) : t = u := by
  rw [← (parse_enc (t := t) f h _ rfl).2, e, (parse_enc f' h' _ rfl).2]
theorem is_enc (t : Rp) : S8.isE (enc t) [2] = 0 ∧ S8.isB (enc t) [2] = t.l := by
  obtain ⟨h1, h2, h3⟩ := head_enc t
  have := S8.is_yes h1 (ks := [2]) (by rw [h2]; simp)
  exact ⟨this.1, this.2.trans h3⟩
theorem dec_kind {zs : List Int} (h : S8.isE zs [2] ≠ 0) : decE zs = S8.isE zs [2] ∧ decT zs = Rp.zero := by
  have hn : ¬ ∃ t, Is zs t := by
    rintro ⟨t, _, _, e⟩
    exact h (by rw [← e]; exact (is_enc t).1)
  exact ⟨by unfold decE; rw [if_pos h], by unfold decT; rw [dif_neg hn]⟩
theorem dec_yes {zs : List Int} {t : Rp} (h : Is zs t) : decE zs = 0 ∧ decT zs = t := by
  have he : ∃ t, Is zs t := ⟨t, h⟩
  have h0 : ¬ S8.isE zs [2] ≠ 0 := by rw [← h.2.2, (is_enc t).1]; simp
  refine ⟨by unfold decE; rw [if_neg h0, if_pos he], ?_⟩
  unfold decT
  rw [dif_pos he]
  have g := he.choose_spec
  exact enc_inj g.1 g.2.1 h.1 h.2.1 (g.2.2.trans h.2.2.symm)
theorem dec_no {zs : List Int} (h : S8.isE zs [2] = 0) (hn : ¬ ∃ t, Is zs t) : decE zs = 100 ∧ decT zs = Rp.zero :=
  ⟨by unfold decE; rw [if_neg (by simp [h]), if_neg hn], by unfold decT; rw [dif_neg hn]⟩
theorem dec_bad {zs : List Int} (h : S8.isE zs [2] = 0) (hb : (s9 zs).bad = true ∨ chkE (parse zs) ≠ 0 ∨ encB (parse zs) ≠ zs) : decE zs = 100 ∧ decT zs = Rp.zero := by
  refine dec_no h ?_
  rintro ⟨t, f, c, e⟩
  obtain ⟨g1, g2⟩ := parse_enc f c zs e.symm
  rcases hb with hb | hb | hb
  · rw [g1] at hb; cases hb
  · rw [g2] at hb; exact hb c
  · rw [g2] at hb; unfold encB at hb; rw [if_pos c] at hb; exact hb e
theorem decT_fit (zs : List Int) : (decT zs).Fit := by
  by_cases he : ∃ t, Is zs t
  · obtain ⟨t, h⟩ := he
    rw [(dec_yes h).2]; exact h.1
  · unfold decT; rw [dif_neg he]; exact Rp.zero_fit
theorem dec_enc {t : Rp} (f : t.Fit) (h : chkE t = 0) : decE (enc t) = 0 ∧ decT (enc t) = t := dec_yes ⟨f, h, rfl⟩

end Go.Proofs.Ytkhkmgblgonfoaa.S9r

/-
  Parts of chapter 9 as data: their error, their bytes, which part any bytes are.
-/
namespace Go.Proofs.Ytkhkmgblgonfoaa.S9p

structure Pt where
  k : Int
  a : ByteArray
  b : ByteArray
  c : ByteArray
  li : Int
  kv : Int
  z : List Int
  tm : Int
def Pt.zero : Pt := ⟨0, ⟨#[]⟩, ⟨#[]⟩, ⟨#[]⟩, 0, 0, [], 0⟩
def Pt.cells (t : Pt) (A : Option Addr) (n cap : Nat) : Array Value := #[.int .u64 t.k, .string t.a, .string t.b, .string t.c, .int .i64 t.li, .int .i64 t.kv, .slice A n cap, .int .i64 t.tm]
def Pt.val (t : Pt) (A : Option Addr) (n cap : Nat) : Value := .agg (t.cells A n cap)
/-- Its numbers are numbers of their kinds, its texts have a length. -/
structure Pt.Fit (t : Pt) : Prop where
  k : 0 ≤ t.k ∧ t.k ≤ 18446744073709551615
  a : t.a.size ≤ maxLen
  b : t.b.size ≤ maxLen
  c : t.c.size ≤ maxLen
  li : -9223372036854775808 ≤ t.li ∧ t.li ≤ 9223372036854775807
  kv : -9223372036854775808 ≤ t.kv ∧ t.kv ≤ 9223372036854775807
  z : (∀ n ∈ t.z, 0 ≤ n ∧ n ≤ 255)
  tm : -9223372036854775808 ≤ t.tm ∧ t.tm ≤ 9223372036854775807
theorem Pt.zero_fit : Pt.zero.Fit := ⟨by decide, by decide, by decide, by decide, by decide, by decide, (by intro n h; cases h), by decide⟩

def win (n m : Int) : Bool := decide (0 ≤ n) && decide (n ≤ m)
theorem win_iff {n m : Int} : win n m = true ↔ 0 ≤ n ∧ n ≤ m := by simp [win]
def q0 (t : Pt) : Bool := S3.vk t.k
def q1 (t : Pt) : Bool := S1.vP t.a.data.toList t.b.data.toList t.c.data.toList
def q2 (t : Pt) : Bool := (win t.li 255 && win t.kv 255) && win t.tm 4294967295
def q3 (t : Pt) : Bool := decide (t.z.length ≤ 255)
def chkE (t : Pt) : Int := if q0 t = false then 10 else if q1 t = false then 103 else if q2 t = false then 104 else if q3 t = false then 105 else 0
theorem chk_0 {t : Pt}  (h : q0 t = false) : chkE t = 10 := by unfold chkE; rw [if_pos h]
theorem chk_1 {t : Pt} (h0 : q0 t = true) (h : q1 t = false) : chkE t = 103 := by unfold chkE; rw [if_neg (by simp [h0]), if_pos h]
theorem chk_2 {t : Pt} (h0 : q0 t = true) (h1 : q1 t = true) (h : q2 t = false) : chkE t = 104 := by unfold chkE; rw [if_neg (by simp [h0]), if_neg (by simp [h1]), if_pos h]
theorem chk_3 {t : Pt} (h0 : q0 t = true) (h1 : q1 t = true) (h2 : q2 t = true) (h : q3 t = false) : chkE t = 105 := by unfold chkE; rw [if_neg (by simp [h0]), if_neg (by simp [h1]), if_neg (by simp [h2]), if_pos h]
theorem chk_ok {t : Pt} (h0 : q0 t = true) (h1 : q1 t = true) (h2 : q2 t = true) (h3 : q3 t = true) : chkE t = 0 := by unfold chkE; rw [if_neg (by simp [h0]), if_neg (by simp [h1]), if_neg (by simp [h2]), if_neg (by simp [h3])]
theorem chk_zero {t : Pt} (h : chkE t = 0) : q0 t = true ∧ q1 t = true ∧ q2 t = true ∧ q3 t = true := by
  unfold chkE at h
  split at h
  · omega
  · skip
    split at h
    · omega
    · skip
      split at h
      · omega
      · skip
        split at h
        · omega
        · simp_all
/-- What a valid one's parts are. -/
structure Ok (t : Pt) : Prop where
  k : S3.vk t.k = true
  a : S1.vName t.a.data.toList = true
  b : S1.vInst t.b.data.toList = true
  c : S1.vRealm t.c.data.toList = true
  li : 0 ≤ t.li ∧ t.li ≤ 255
  kv : 0 ≤ t.kv ∧ t.kv ≤ 255
  tm : 0 ≤ t.tm ∧ t.tm ≤ 4294967295
  z : t.z.length ≤ 255
theorem ok_of {t : Pt} (h : chkE t = 0) : Ok t := by
  obtain ⟨h0, h1, h2, h3⟩ := chk_zero h
  unfold q0 q1 q2 q3 at *
  simp only [Bool.and_eq_true, win_iff, decide_eq_true_eq] at *
  exact ⟨h0, (S5.vP_parts h1).1, (S5.vP_parts h1).2.1, (S5.vP_parts h1).2.2, h2.1.1, h2.1.2, h2.2, h3⟩
theorem small {s : ByteArray} (h : (nums s).length ≤ 39) : s.size ≤ maxLen := by
  rw [nums_len] at h
  exact Nat.le_trans h (by decide)
def flag (l : Bool) : Int := if l then 1 else 0
/-- Its bytes, ahead of the padding and with it. -/
def raw (l : Bool) (t : Pt) : List Int := S5.num1 (flag l) ++ (S3.bytes8 t.k ++ (S5.text (nums t.a) ++ (S5.text (nums t.b) ++ (S5.text (nums t.c) ++ (S5.num1 t.li ++ (S5.num1 t.kv ++ (S5.num1 (t.z.length : Int) ++ (t.z ++ S5.num4 l t.tm))))))))
def enc (l : Bool) (t : Pt) : List Int := S5.pad (raw l t)
def encB (l : Bool) (t : Pt) : List Int := if chkE t = 0 then enc l t else []
theorem raw_len (l : Bool) (t : Pt) : (raw l t).length = 19 + t.a.size + t.b.size + t.c.size + t.z.length := by
  simp [raw, S5.num1, S5.text, nums_len, S5.num4_len, S5.num2_len, S3.bytes8_len]; omega
theorem raw_range (l : Bool) (t : Pt) (f : t.Fit) : ∀ n ∈ raw l t, 0 ≤ n ∧ n ≤ 255 := by
  have ht : ∀ s : ByteArray, ∀ n ∈ S5.text (nums s), 0 ≤ n ∧ n ≤ 255 := by
    intro s n hn
    rcases List.mem_append.1 hn with hn | hn
    · exact nums_range s n hn
    · simp at hn; omega
  intro n hn
  unfold raw at hn
  simp only [List.mem_append] at hn
  rcases hn with h | h | h | h | h | h | h | h | h | h
  · exact S5.num1_range _ n h
  · exact S3.bytes8_range _ n h
  · exact ht _ n h
  · exact ht _ n h
  · exact ht _ n h
  · exact S5.num1_range _ n h
  · exact S5.num1_range _ n h
  · exact S5.num1_range _ n h
  · exact f.z n h
  · exact S5.num4_range _ _ n h
theorem enc_range (l : Bool) (t : Pt) (f : t.Fit) : ∀ n ∈ enc l t, 0 ≤ n ∧ n ≤ 255 := S5.pad_range (raw_range l t f) _
theorem enc_len {t : Pt} (l : Bool) (h : chkE t = 0) : (enc l t).length ≤ 392 := by
  have o := ok_of h
  have h_a : t.a.size ≤ 39 := by have := (S5.vName_ok o.a).2; rwa [nums_len] at this
  have h_b : t.b.size ≤ 39 := by have := (S5.vInst_ok o.b).2; rwa [nums_len] at this
  have h_c : t.c.size ≤ 39 := by have := (S5.vRealm_ok o.c).2; rwa [nums_len] at this
  have h_z := o.z
  have e : (enc l t).length = (raw l t).length + S5.padN (raw l t).length := by unfold enc S5.pad; simp
  rw [e, raw_len]
  unfold S5.padN
  omega
theorem encB_range (l : Bool) (t : Pt) (f : t.Fit) : ∀ n ∈ encB l t, 0 ≤ n ∧ n ≤ 255 := by
  unfold encB
  split
  · exact enc_range l t f
  · intro n hn; cases hn
theorem encB_len (l : Bool) (t : Pt) : (encB l t).length ≤ 392 := by
  unfold encB
  split
  · exact enc_len l ‹_›
  · simp

/-- A reader's way through the bytes. -/
def s0 : S5.St := ⟨0, false⟩
def s1 (l : Bool) (zs : List Int) : S5.St := (s0).move (S5.getN zs s0.at' 1) (S5.getE zs s0.at' 1)
def s2 (l : Bool) (zs : List Int) : S5.St := (s1 l zs).move (S5.byN zs (s1 l zs).at' 8) (S5.byE zs (s1 l zs).at' 8)
def s3 (l : Bool) (zs : List Int) : S5.St := (s2 l zs).move (S5.txN zs (s2 l zs).at') (S5.txE zs (s2 l zs).at')
def s4 (l : Bool) (zs : List Int) : S5.St := (s3 l zs).move (S5.txN zs (s3 l zs).at') (S5.txE zs (s3 l zs).at')
def s5 (l : Bool) (zs : List Int) : S5.St := (s4 l zs).move (S5.txN zs (s4 l zs).at') (S5.txE zs (s4 l zs).at')
def s6 (l : Bool) (zs : List Int) : S5.St := (s5 l zs).move (S5.getN zs (s5 l zs).at' 1) (S5.getE zs (s5 l zs).at' 1)
def s7 (l : Bool) (zs : List Int) : S5.St := (s6 l zs).move (S5.getN zs (s6 l zs).at' 1) (S5.getE zs (s6 l zs).at' 1)
def s8 (l : Bool) (zs : List Int) : S5.St := (s7 l zs).move (S5.getN zs (s7 l zs).at' 1) (S5.getE zs (s7 l zs).at' 1)
def s9 (l : Bool) (zs : List Int) : S5.St := (s8 l zs).move (S5.byN zs (s8 l zs).at' (S5.getV zs (s7 l zs).at' 1 false)) (S5.byE zs (s8 l zs).at' (S5.getV zs (s7 l zs).at' 1 false))
def s10 (l : Bool) (zs : List Int) : S5.St := (s9 l zs).move (S5.getN zs (s9 l zs).at' 4) (S5.getE zs (s9 l zs).at' 4)
/-- What is read. -/
def parse (l : Bool) (zs : List Int) : Pt :=
  ⟨S3.readN (S5.byS zs (s1 l zs).at' 8), strOfNums (S5.txS zs (s2 l zs).at'), strOfNums (S5.txS zs (s3 l zs).at'), strOfNums (S5.txS zs (s4 l zs).at'), S5.getV zs (s5 l zs).at' 1 false, S5.getV zs (s6 l zs).at' 1 false, S5.byS zs (s8 l zs).at' (S5.getV zs (s7 l zs).at' 1 false), S5.getV zs (s9 l zs).at' 4 (l)⟩
theorem parse_at {l : Bool} {t : Pt} (f : t.Fit) (h : chkE t = 0) (zs : List Int) (A0 : S5.AtF zs (raw l t) 0) : (s10 l zs).bad = false ∧ parse l zs = t := by
  have o := ok_of h
  unfold raw at A0
  have q0 : (0 : Int) = s0.at' := rfl
  rw [q0] at A0
  obtain ⟨e1, v1, n1⟩ := A0.left.num1 (n := flag l) (by unfold flag; split <;> omega) (by unfold flag; split <;> omega)
  have Z1 : s1 l zs = ⟨s0.at' + 1, false⟩ := by unfold s1; rw [S5.St.move_ok (rfl) e1, n1]
  have A1 := A0.right
  have q1 : s0.at' + ((S5.num1 (flag l)).length : Int) = (s1 l zs).at' := by rw [Z1]; simp [S5.num1]
  rw [q1] at A1
  obtain ⟨e2, v2, n2⟩ := A1.left.bytes (n := 8) (by rw [S3.bytes8_len]; rfl)
  have Z2 : s2 l zs = ⟨(s1 l zs).at' + 8, false⟩ := by unfold s2; rw [S5.St.move_ok (by rw [Z1]) e2, n2]
  have A2 := A1.right
  have q2 : (s1 l zs).at' + ((S3.bytes8 t.k).length : Int) = (s2 l zs).at' := by rw [Z2]; simp [S3.bytes8_len]
  rw [q2] at A2
  obtain ⟨e3, v3, n3⟩ := A2.left.text (S5.vName_ok o.a).1 (S5.vName_ok o.a).2
  have Z3 : s3 l zs = ⟨(s2 l zs).at' + ((nums t.a).length + 1), false⟩ := by unfold s3; rw [S5.St.move_ok (by rw [Z2]) e3, n3]
  have A3 := A2.right
  have q3 : (s2 l zs).at' + ((S5.text (nums t.a)).length : Int) = (s3 l zs).at' := by rw [Z3]; simp [S5.text]
  rw [q3] at A3
  obtain ⟨e4, v4, n4⟩ := A3.left.text (S5.vInst_ok o.b).1 (S5.vInst_ok o.b).2
  have Z4 : s4 l zs = ⟨(s3 l zs).at' + ((nums t.b).length + 1), false⟩ := by unfold s4; rw [S5.St.move_ok (by rw [Z3]) e4, n4]
  have A4 := A3.right
  have q4 : (s3 l zs).at' + ((S5.text (nums t.b)).length : Int) = (s4 l zs).at' := by rw [Z4]; simp [S5.text]
  rw [q4] at A4
  obtain ⟨e5, v5, n5⟩ := A4.left.text (S5.vRealm_ok o.c).1 (S5.vRealm_ok o.c).2
  have Z5 : s5 l zs = ⟨(s4 l zs).at' + ((nums t.c).length + 1), false⟩ := by unfold s5; rw [S5.St.move_ok (by rw [Z4]) e5, n5]
  have A5 := A4.right
  have q5 : (s4 l zs).at' + ((S5.text (nums t.c)).length : Int) = (s5 l zs).at' := by rw [Z5]; simp [S5.text]
  rw [q5] at A5
  obtain ⟨e6, v6, n6⟩ := A5.left.num1 o.li.1 (by have := o.li; omega)
  have Z6 : s6 l zs = ⟨(s5 l zs).at' + 1, false⟩ := by unfold s6; rw [S5.St.move_ok (by rw [Z5]) e6, n6]
  have A6 := A5.right
  have q6 : (s5 l zs).at' + ((S5.num1 t.li).length : Int) = (s6 l zs).at' := by rw [Z6]; simp [S5.num1]
  rw [q6] at A6
  obtain ⟨e7, v7, n7⟩ := A6.left.num1 o.kv.1 (by have := o.kv; omega)
  have Z7 : s7 l zs = ⟨(s6 l zs).at' + 1, false⟩ := by unfold s7; rw [S5.St.move_ok (by rw [Z6]) e7, n7]
  have A7 := A6.right
  have q7 : (s6 l zs).at' + ((S5.num1 t.kv).length : Int) = (s7 l zs).at' := by rw [Z7]; simp [S5.num1]
  rw [q7] at A7
  obtain ⟨e8, v8, n8⟩ := A7.left.num1 (by omega) (by have := o.z; omega)
  have Z8 : s8 l zs = ⟨(s7 l zs).at' + 1, false⟩ := by unfold s8; rw [S5.St.move_ok (by rw [Z7]) e8, n8]
  have A8 := A7.right
  have q8 : (s7 l zs).at' + ((S5.num1 (t.z.length : Int)).length : Int) = (s8 l zs).at' := by rw [Z8]; simp [S5.num1]
  rw [q8] at A8
  obtain ⟨e9, v9, n9⟩ := A8.left.bytes (n := (t.z.length : Int)) rfl
  rw [← v8] at e9 v9 n9
  have Z9 : s9 l zs = ⟨(s8 l zs).at' + (t.z.length : Int), false⟩ := by unfold s9; rw [S5.St.move_ok (by rw [Z8]) e9, n9, v8]
  have A9 := A8.right
  have q9 : (s8 l zs).at' + ((t.z).length : Int) = (s9 l zs).at' := by rw [Z9]; done
  rw [q9] at A9
  obtain ⟨e10, v10, n10⟩ := A9.num4 (by have := o.tm; omega) (by have := o.tm; omega)
  have Z10 : s10 l zs = ⟨(s9 l zs).at' + 4, false⟩ := by unfold s10; rw [S5.St.move_ok (by rw [Z9]) e10, n10]
  refine ⟨by rw [Z10], ?_⟩
  unfold parse
  rw [v2, (S3.read_bytes8 f.k.1 f.k.2).2, if_pos o.k, v3, v4, v5, v6, v7, v9, v10]
  simp only [str_nums]
theorem parse_enc {l : Bool} {t : Pt} (f : t.Fit) (h : chkE t = 0) (zs : List Int) (hz : zs = enc l t) : (s10 l zs).bad = false ∧ parse l zs = t := by
  have A0 : S5.AtF zs (raw l t) 0 := by
    subst hz
    unfold enc S5.pad
    exact (S5.AtF.all _).left
  exact parse_at f h zs A0
/-- Whether there is one of these bytes; it, or none; the error. -/
def Is (l : Bool) (zs : List Int) (t : Pt) : Prop := t.Fit ∧ chkE t = 0 ∧ enc l t = zs
open Classical in
noncomputable def decT (l : Bool) (zs : List Int) : Pt := if h : ∃ t, Is l zs t then h.choose else Pt.zero
open Classical in
noncomputable def decE (l : Bool) (zs : List Int) : Int := if ∃ t, Is l zs t then 0 else 100
theorem enc_inj {l : Bool} {t u : Pt} (f : t.Fit) (h : chkE t = 0) (f' : u.Fit) (h' : chkE u = 0) (e : enc l t = enc l u) : t = u := by
  rw [← (parse_enc (l := l) (t := t) f h _ rfl).2, e, (parse_enc f' h' _ rfl).2]
theorem dec_yes {l : Bool} {zs : List Int} {t : Pt} (h : Is l zs t) : decE l zs = 0 ∧ decT l zs = t := by
  have he : ∃ t, Is l zs t := ⟨t, h⟩
  refine ⟨by unfold decE; rw [if_pos he], ?_⟩
  unfold decT
  rw [dif_pos he]
  have g := he.choose_spec
  exact enc_inj g.1 g.2.1 h.1 h.2.1 (g.2.2.trans h.2.2.symm)
theorem dec_no {l : Bool} {zs : List Int} (hn : ¬ ∃ t, Is l zs t) : decE l zs = 100 ∧ decT l zs = Pt.zero :=
  ⟨by unfold decE; rw [if_neg hn], by unfold decT; rw [dif_neg hn]⟩
theorem dec_bad {l : Bool} {zs : List Int} (hb : (s10 l zs).bad = true ∨ chkE (parse l zs) ≠ 0 ∨ encB l (parse l zs) ≠ zs) : decE l zs = 100 ∧ decT l zs = Pt.zero := by
  refine dec_no ?_
  rintro ⟨t, f, c, e⟩
  obtain ⟨g1, g2⟩ := parse_enc f c zs e.symm
  rcases hb with hb | hb | hb
  · rw [g1] at hb; cases hb
  · rw [g2] at hb; exact hb c
  · rw [g2] at hb; unfold encB at hb; rw [if_pos c] at hb; exact hb e
theorem decT_fit (l : Bool) (zs : List Int) : (decT l zs).Fit := by
  by_cases he : ∃ t, Is l zs t
  · obtain ⟨t, h⟩ := he
    rw [(dec_yes h).2]; exact h.1
  · unfold decT; rw [dif_neg he]; exact Pt.zero_fit
theorem dec_enc {l : Bool} {t : Pt} (f : t.Fit) (h : chkE t = 0) : decE l (enc l t) = 0 ∧ decT l (enc l t) = t := dec_yes ⟨f, h, rfl⟩

theorem first (l : Bool) (t : Pt) : (enc l t).getD 0 0 = flag l % 256 := by
  unfold enc S5.pad raw S5.num1
  rfl
theorem dec_other {l m : Bool} {t : Pt} (hlm : l ≠ m) : decE m (enc l t) = 100 ∧ decT m (enc l t) = Pt.zero := by
  refine dec_no ?_
  rintro ⟨u, _, _, e⟩
  have h1 := first m u
  have h2 := first l t
  rw [e] at h1
  rw [h1] at h2
  unfold flag at h2
  cases l <;> cases m <;> simp at h2 hlm

end Go.Proofs.Ytkhkmgblgonfoaa.S9p

/-
  Boxes, as lists of numbers: what Make, Read, Open and Is of chapter 4 say of them.
-/
namespace Go.Proofs.Ytkhkmgblgonfoaa.S4

def isK (n : Int) : Bool := decide (1 ≤ n) && decide (n ≤ 10)
theorem isK_cases (n : Int) : (isK n = true ∧ 1 ≤ n ∧ n ≤ 10) ∨ (isK n = false ∧ n < 1) ∨ (isK n = false ∧ 1 ≤ n ∧ 10 < n) := by
  rcases Int.lt_or_le n 1 with h | h
  · right; left; exact ⟨by simp [isK]; omega, h⟩
  · rcases Int.lt_or_le 10 n with g | g
    · right; right; exact ⟨by simp [isK]; omega, h, g⟩
    · left; exact ⟨by simp [isK]; omega, h, g⟩
theorem isK_iff {n : Int} : isK n = true ↔ 1 ≤ n ∧ n ≤ 10 := by simp [isK]

/-- The bytes of a box. -/
def boxOf (kind key : Int) (body : List Int) : List Int := 66 :: kind :: (S3.bytes8 key ++ ((body.length : Int) / 256 :: (body.length : Int) % 256 :: body))
def mkE (kind key : Int) (body : List Int) : Int := if isK kind = false then 104 else if S3.vk key = false then 10 else if 1000 < (body.length : Int) then 105 else 0
def mkB (kind key : Int) (body : List Int) : List Int := if mkE kind key body = 0 then boxOf kind key body else []

theorem mk_kind {kind key : Int} {body : List Int} (h : isK kind = false) : mkE kind key body = 104 ∧ mkB kind key body = [] := by
  have e : mkE kind key body = 104 := by simp [mkE, h]
  exact ⟨e, by unfold mkB; rw [e]; rfl⟩
theorem mk_key {kind key : Int} {body : List Int} (h : isK kind = true) (g : S3.vk key = false) : mkE kind key body = 10 ∧ mkB kind key body = [] := by
  have e : mkE kind key body = 10 := by simp [mkE, h, g]
  exact ⟨e, by unfold mkB; rw [e]; rfl⟩
theorem mk_long {kind key : Int} {body : List Int} (h : isK kind = true) (g : S3.vk key = true) (l : 1000 < (body.length : Int)) : mkE kind key body = 105 ∧ mkB kind key body = [] := by
  have e : mkE kind key body = 105 := by simp only [mkE, h, g]; rw [if_neg (by decide), if_neg (by decide), if_pos l]
  exact ⟨e, by unfold mkB; rw [e]; rfl⟩
theorem mk_ok {kind key : Int} {body : List Int} (h : isK kind = true) (g : S3.vk key = true) (l : (body.length : Int) ≤ 1000) : mkE kind key body = 0 ∧ mkB kind key body = boxOf kind key body := by
  have e : mkE kind key body = 0 := by simp only [mkE, h, g]; rw [if_neg (by decide), if_neg (by decide), if_neg (by omega)]
  exact ⟨e, by unfold mkB; rw [e]; rfl⟩
theorem boxOf_len (kind key : Int) (body : List Int) : (boxOf kind key body).length = 12 + body.length := by simp [boxOf, S3.bytes8]; omega
theorem boxOf_range {kind key : Int} {body : List Int} (h : isK kind = true) (l : (body.length : Int) ≤ 1000) (hb : ∀ n ∈ body, 0 ≤ n ∧ n ≤ 255) : ∀ n ∈ boxOf kind key body, 0 ≤ n ∧ n ≤ 255 := by
  rw [isK_iff] at h
  intro n hn
  unfold boxOf at hn
  rcases List.mem_cons.1 hn with rfl | hn
  · omega
  rcases List.mem_cons.1 hn with rfl | hn
  · omega
  rcases List.mem_append.1 hn with hn | hn
  · exact S3.bytes8_range _ n hn
  rcases List.mem_cons.1 hn with rfl | hn
  · omega
  rcases List.mem_cons.1 hn with rfl | hn
  · omega
  exact hb n hn
theorem mkB_range {kind key : Int} {body : List Int} (hb : ∀ n ∈ body, 0 ≤ n ∧ n ≤ 255) : ∀ n ∈ mkB kind key body, 0 ≤ n ∧ n ≤ 255 := by
  rcases h : isK kind
  · rw [(mk_kind h).2]; simp
  · rcases g : S3.vk key
    · rw [(mk_key h g).2]; simp
    · rcases Int.lt_or_le 1000 (body.length : Int) with l | l
      · rw [(mk_long h g l).2]; simp
      · rw [(mk_ok h g l).2]; exact boxOf_range h l hb
theorem mkB_len (kind key : Int) (body : List Int) : (mkB kind key body).length ≤ 12 + body.length := by
  rcases h : isK kind
  · rw [(mk_kind h).2]; simp
  · rcases g : S3.vk key
    · rw [(mk_key h g).2]; simp
    · rcases Int.lt_or_le 1000 (body.length : Int) with l | l
      · rw [(mk_long h g l).2]; simp
      · rw [(mk_ok h g l).2, boxOf_len]; omega

def at0 (zs : List Int) (i : Nat) : Int := zs.getD i 0
def lenOf (zs : List Int) : Int := at0 zs 10 * 256 + at0 zs 11
def keyAt (zs : List Int) : List Int := (zs.drop 2).take 8
def bad (zs : List Int) : Bool := decide (at0 zs 0 ≠ 66) || !isK (at0 zs 1) || !S3.readOk (keyAt zs) || decide (1000 < lenOf zs)
def rdE (zs : List Int) : Int := if zs.length < 12 then 101 else if bad zs then 100 else if (zs.length : Int) < 12 + lenOf zs then 101 else 0
def rdK (zs : List Int) : Int := if rdE zs = 0 then at0 zs 1 else 0
def rdY (zs : List Int) : Int := if rdE zs = 0 then S3.readN (keyAt zs) else 0
def rdB (zs : List Int) : List Int := if rdE zs = 0 then (zs.drop 12).take (lenOf zs).toNat else []
def rdN (zs : List Int) : Int := if rdE zs = 0 then 12 + lenOf zs else 0
def isB (zs : List Int) : Bool := decide (rdE zs = 0) && decide (rdN zs = (zs.length : Int))
def opOk (zs : List Int) (kind key : Int) : Bool := isB zs && decide (rdK zs = kind) && decide (rdY zs = key)
def opB (zs : List Int) (kind key : Int) : List Int := if opOk zs kind key then rdB zs else []

theorem rd_err {zs : List Int} (h : rdE zs ≠ 0) : rdK zs = 0 ∧ rdY zs = 0 ∧ rdB zs = [] ∧ rdN zs = 0 := by simp [rdK, rdY, rdB, rdN, h]
theorem rd_short {zs : List Int} (h : (zs.length : Int) < 12) : rdE zs = 101 ∧ rdK zs = 0 ∧ rdY zs = 0 ∧ rdB zs = [] ∧ rdN zs = 0 := by
  have e : rdE zs = 101 := by unfold rdE; rw [if_pos (by omega)]
  exact ⟨e, rd_err (by rw [e]; decide)⟩
theorem rd_bad {zs : List Int} (h : ¬ (zs.length : Int) < 12) (g : bad zs = true) : rdE zs = 100 ∧ rdK zs = 0 ∧ rdY zs = 0 ∧ rdB zs = [] ∧ rdN zs = 0 := by
  have e : rdE zs = 100 := by unfold rdE; rw [if_neg (by omega), if_pos g]
  exact ⟨e, rd_err (by rw [e]; decide)⟩
theorem rd_cut {zs : List Int} (h : ¬ (zs.length : Int) < 12) (g : bad zs = false) (l : (zs.length : Int) < 12 + lenOf zs) : rdE zs = 101 ∧ rdK zs = 0 ∧ rdY zs = 0 ∧ rdB zs = [] ∧ rdN zs = 0 := by
  have e : rdE zs = 101 := by unfold rdE; rw [if_neg (by omega), if_neg (by rw [g]; decide), if_pos l]
  exact ⟨e, rd_err (by rw [e]; decide)⟩
theorem rd_ok {zs : List Int} (h : ¬ (zs.length : Int) < 12) (g : bad zs = false) (l : ¬ (zs.length : Int) < 12 + lenOf zs) : rdE zs = 0 ∧ rdK zs = at0 zs 1 ∧ rdY zs = S3.readN (keyAt zs) ∧ rdB zs = (zs.drop 12).take (lenOf zs).toNat ∧ rdN zs = 12 + lenOf zs := by
  have e : rdE zs = 0 := by unfold rdE; rw [if_neg (by omega), if_neg (by rw [g]; decide), if_neg l]
  exact ⟨e, by simp [rdK, e], by simp [rdY, e], by simp [rdB, e], by simp [rdN, e]⟩

theorem bad_parts {zs : List Int} (g : bad zs = false) : at0 zs 0 = 66 ∧ isK (at0 zs 1) = true ∧ S3.readOk (keyAt zs) = true ∧ lenOf zs ≤ 1000 := by
  unfold bad at g
  simp only [Bool.or_eq_false_iff, decide_eq_false_iff_not, Bool.not_eq_false'] at g
  obtain ⟨⟨⟨h1, h2⟩, h3⟩, h4⟩ := g
  exact ⟨by simpa using h1, h2, h3, by omega⟩
theorem good_parts {zs : List Int} (h1 : at0 zs 0 = 66) (h2 : isK (at0 zs 1) = true) (h3 : S3.readOk (keyAt zs) = true) (h4 : lenOf zs ≤ 1000) : bad zs = false := by
  unfold bad
  simp only [h1, h2, h3]
  simp; omega
theorem bad_yes {zs : List Int} (h : at0 zs 0 ≠ 66 ∨ isK (at0 zs 1) = false ∨ S3.readOk (keyAt zs) = false ∨ 1000 < lenOf zs) : bad zs = true := by
  rcases e : bad zs
  · obtain ⟨h1, h2, h3, h4⟩ := bad_parts e
    rcases h with h | h | h | h
    · exact absurd h1 h
    · rw [h2] at h; cases h
    · rw [h3] at h; cases h
    · omega
  · rfl

theorem rdB_range {zs : List Int} (hb : ∀ n ∈ zs, 0 ≤ n ∧ n ≤ 255) : ∀ n ∈ rdB zs, 0 ≤ n ∧ n ≤ 255 := by
  intro n hn
  unfold rdB at hn
  split at hn
  · exact hb n (List.mem_of_mem_drop (List.mem_of_mem_take hn))
  · cases hn

/-- A box, with whatever behind it, is read as it was made. -/
theorem rd_boxOf {kind key : Int} {body : List Int} (rest : List Int) (h : isK kind = true) (g : S3.vk key = true) (k0 : 0 ≤ key) (k1 : key ≤ 18446744073709551615) (l : (body.length : Int) ≤ 1000) :
    rdE (boxOf kind key body ++ rest) = 0 ∧ rdK (boxOf kind key body ++ rest) = kind ∧ rdY (boxOf kind key body ++ rest) = key ∧ rdB (boxOf kind key body ++ rest) = body ∧ rdN (boxOf kind key body ++ rest) = 12 + (body.length : Int) := by
  have ek : keyAt (boxOf kind key body ++ rest) = S3.bytes8 key := by simp [keyAt, boxOf, S3.bytes8]
  have e0 : at0 (boxOf kind key body ++ rest) 0 = 66 := by simp [at0, boxOf]
  have e1 : at0 (boxOf kind key body ++ rest) 1 = kind := by simp [at0, boxOf]
  have el : lenOf (boxOf kind key body ++ rest) = (body.length : Int) := by
    simp [lenOf, at0, boxOf, S3.bytes8]; omega
  have eb : ((boxOf kind key body ++ rest).drop 12).take (lenOf (boxOf kind key body ++ rest)).toNat = body := by
    rw [el]; simp [boxOf, S3.bytes8]
  obtain ⟨r1, r2⟩ := S3.read_bytes8 k0 k1
  have hl : ¬ ((boxOf kind key body ++ rest).length : Int) < 12 := by rw [List.length_append, boxOf_len]; omega
  have hl2 : ¬ ((boxOf kind key body ++ rest).length : Int) < 12 + lenOf (boxOf kind key body ++ rest) := by rw [el, List.length_append, boxOf_len]; omega
  have hb : bad (boxOf kind key body ++ rest) = false := good_parts e0 (by rw [e1]; exact h) (by rw [ek, r1]; exact g) (by rw [el]; exact l)
  obtain ⟨h1, h2, h3, h4, h5⟩ := rd_ok hl hb hl2
  exact ⟨h1, by rw [h2, e1], by rw [h3, ek, r2, if_pos g], by rw [h4, eb], by rw [h5, el]⟩
theorem isB_boxOf {kind key : Int} {body : List Int} (h : isK kind = true) (g : S3.vk key = true) (k0 : 0 ≤ key) (k1 : key ≤ 18446744073709551615) (l : (body.length : Int) ≤ 1000) : isB (boxOf kind key body) = true := by
  obtain ⟨h1, _, _, _, h5⟩ := rd_boxOf [] h g k0 k1 l
  rw [List.append_nil] at h1 h5
  unfold isB
  rw [h1, h5, boxOf_len]; simp
theorem isB_more {kind key : Int} {body : List Int} (z : Int) (h : isK kind = true) (g : S3.vk key = true) (k0 : 0 ≤ key) (k1 : key ≤ 18446744073709551615) (l : (body.length : Int) ≤ 1000) : isB (boxOf kind key body ++ [z]) = false := by
  obtain ⟨h1, _, _, _, h5⟩ := rd_boxOf [z] h g k0 k1 l
  unfold isB
  rw [h1, h5, List.length_append, boxOf_len]; simp; omega
theorem open_boxOf {kind key : Int} {body : List Int} (h : isK kind = true) (g : S3.vk key = true) (k0 : 0 ≤ key) (k1 : key ≤ 18446744073709551615) (l : (body.length : Int) ≤ 1000) (kind' key' : Int) :
    opOk (boxOf kind key body) kind' key' = (decide (kind = kind') && decide (key = key')) ∧ opB (boxOf kind key body) kind' key' = if kind = kind' ∧ key = key' then body else [] := by
  obtain ⟨_, h2, h3, h4, _⟩ := rd_boxOf [] h g k0 k1 l
  rw [List.append_nil] at h2 h3 h4
  have e : opOk (boxOf kind key body) kind' key' = (decide (kind = kind') && decide (key = key')) := by
    unfold opOk; rw [isB_boxOf h g k0 k1 l, h2, h3, Bool.true_and]
  refine ⟨e, ?_⟩
  unfold opB; rw [e, h4]; simp
theorem boxOf_inj {kind key kind' key' : Int} {body body' : List Int} (h : isK kind = true) (g : S3.vk key = true) (k0 : 0 ≤ key) (k1 : key ≤ 18446744073709551615) (l : (body.length : Int) ≤ 1000)
    (h' : isK kind' = true) (g' : S3.vk key' = true) (k0' : 0 ≤ key') (k1' : key' ≤ 18446744073709551615) (l' : (body'.length : Int) ≤ 1000) (e : boxOf kind key body = boxOf kind' key' body') : kind = kind' ∧ key = key' ∧ body = body' := by
  obtain ⟨_, h2, h3, h4, _⟩ := rd_boxOf [] h g k0 k1 l
  obtain ⟨_, q2, q3, q4, _⟩ := rd_boxOf [] h' g' k0' k1' l'
  rw [e] at h2 h3 h4
  exact ⟨h2.symm.trans q2, h3.symm.trans q3, h4.symm.trans q4⟩

/-- A key from its class and a byte. -/
theorem key_of {c n : Int} (hc : c = 1 ∨ c = 2) (n0 : 0 ≤ n) (n1 : n ≤ 255) : S3.vk (c * 72057594037927936 + (1 + n)) = true ∧ 0 ≤ c * 72057594037927936 + (1 + n) ∧ c * 72057594037927936 + (1 + n) ≤ 18446744073709551615 := by
  refine ⟨?_, ?_, ?_⟩
  · rw [S3.vk_iff]; omega
  all_goals omega

end Go.Proofs.Ytkhkmgblgonfoaa.S4

/-
  Tickets as data: when they are valid, their bytes, and which ticket any bytes are.
-/
namespace Go.Proofs.Ytkhkmgblgonfoaa.S6

/-- A ticket. -/
structure Tk where
  l : Bool
  a : ByteArray
  b : ByteArray
  c : ByteArray
  ad : Int
  k : Int
  li : Int
  is : Int
  s : ByteArray
  i : ByteArray
def Tk.zero : Tk := ⟨false, ⟨#[]⟩, ⟨#[]⟩, ⟨#[]⟩, 0, 0, 0, 0, ⟨#[]⟩, ⟨#[]⟩⟩
def Tk.cells (t : Tk) : Array Value := #[.bool t.l, .string t.a, .string t.b, .string t.c, .int .i64 t.ad, .int .u64 t.k, .int .i64 t.li, .int .i64 t.is, .string t.s, .string t.i]
def Tk.val (t : Tk) : Value := .agg t.cells
/-- Its numbers are numbers of their kinds, its texts have a length. -/
structure Tk.Fit (t : Tk) : Prop where
  a : t.a.size ≤ maxLen
  b : t.b.size ≤ maxLen
  c : t.c.size ≤ maxLen
  s : t.s.size ≤ maxLen
  i : t.i.size ≤ maxLen
  ad : -9223372036854775808 ≤ t.ad ∧ t.ad ≤ 9223372036854775807
  k : 0 ≤ t.k ∧ t.k ≤ 18446744073709551615
  li : -9223372036854775808 ≤ t.li ∧ t.li ≤ 9223372036854775807
  is : -9223372036854775808 ≤ t.is ∧ t.is ≤ 9223372036854775807
theorem Tk.zero_fit : Tk.zero.Fit := ⟨by decide, by decide, by decide, by decide, by decide, by decide, by decide, by decide, by decide⟩

def win (n m : Int) : Bool := decide (0 ≤ n) && decide (n ≤ m)
theorem win_iff {n m : Int} : win n m = true ↔ 0 ≤ n ∧ n ≤ m := by simp [win]
/-- Its names, its session key, its numbers. -/
def nm (t : Tk) : Bool := (S1.vP t.a.data.toList t.b.data.toList t.c.data.toList && S1.vName t.s.data.toList) && S1.vInst t.i.data.toList
def rg (t : Tk) : Bool := (win t.ad 4294967295 && win t.li 255) && win t.is 4294967295
def chkE (t : Tk) : Int := if nm t = false then 103 else if S3.ck t.k ≠ 2 then 10 else if rg t = false then 104 else 0
theorem chk_nm {t : Tk} (h : nm t = false) : chkE t = 103 := by unfold chkE; rw [if_pos h]
theorem chk_key {t : Tk} (h : nm t = true) (g : S3.ck t.k ≠ 2) : chkE t = 10 := by unfold chkE; rw [if_neg (by simp [h]), if_pos g]
theorem chk_rg {t : Tk} (h : nm t = true) (g : S3.ck t.k = 2) (r : rg t = false) : chkE t = 104 := by unfold chkE; rw [if_neg (by simp [h]), if_neg (by simp [g]), if_pos r]
theorem chk_ok {t : Tk} (h : nm t = true) (g : S3.ck t.k = 2) (r : rg t = true) : chkE t = 0 := by unfold chkE; rw [if_neg (by simp [h]), if_neg (by simp [g]), if_neg (by simp [r])]
theorem chk_zero {t : Tk} (h : chkE t = 0) : nm t = true ∧ S3.ck t.k = 2 ∧ rg t = true := by
  unfold chkE at h
  split at h
  · omega
  · split at h
    · omega
    · split at h
      · omega
      · simp_all
/-- What a valid ticket's parts are. -/
structure Ok (t : Tk) : Prop where
  a : S1.vName t.a.data.toList = true
  b : S1.vInst t.b.data.toList = true
  c : S1.vRealm t.c.data.toList = true
  s : S1.vName t.s.data.toList = true
  i : S1.vInst t.i.data.toList = true
  k : S3.vk t.k = true ∧ S3.ck t.k = 2
  ad : 0 ≤ t.ad ∧ t.ad ≤ 4294967295
  li : 0 ≤ t.li ∧ t.li ≤ 255
  is : 0 ≤ t.is ∧ t.is ≤ 4294967295
theorem ok_of {t : Tk} (h : chkE t = 0) : Ok t := by
  obtain ⟨h1, h2, h3⟩ := chk_zero h
  unfold nm at h1
  unfold rg at h3
  simp only [Bool.and_eq_true, win_iff] at h1 h3
  obtain ⟨⟨g1, g2⟩, g3⟩ := h1
  obtain ⟨q1, q2, q3⟩ := S5.vP_parts g1
  refine ⟨q1, q2, q3, g2, g3, ⟨?_, h2⟩, h3.1.1, h3.1.2, h3.2⟩
  unfold S3.ck at h2
  split at h2
  · assumption
  · omega

def flag (l : Bool) : Int := if l then 1 else 0
/-- Its bytes, ahead of the padding and with it. -/
def raw (t : Tk) : List Int := S5.num1 (flag t.l) ++ (S5.text (nums t.a) ++ (S5.text (nums t.b) ++ (S5.text (nums t.c) ++ (S5.num4 t.l t.ad ++ (S3.bytes8 t.k ++ (S5.num1 t.li ++ (S5.num4 t.l t.is ++ (S5.text (nums t.s) ++ S5.text (nums t.i)))))))))
def enc (t : Tk) : List Int := S5.pad (raw t)
def encB (t : Tk) : List Int := if chkE t = 0 then enc t else []

theorem raw_len (t : Tk) : (raw t).length = 23 + t.a.size + t.b.size + t.c.size + t.s.size + t.i.size := by
  simp [raw, S5.num1, S5.text, nums_len, S5.num4_len, S3.bytes8_len]; omega
theorem raw_range (t : Tk) : ∀ n ∈ raw t, 0 ≤ n ∧ n ≤ 255 := by
  have ht : ∀ s : ByteArray, ∀ n ∈ S5.text (nums s), 0 ≤ n ∧ n ≤ 255 := by
    intro s n hn
    rcases List.mem_append.1 hn with hn | hn
    · exact nums_range s n hn
    · simp at hn; omega
  intro n hn
  unfold raw at hn
  simp only [List.mem_append] at hn
  rcases hn with h | h | h | h | h | h | h | h | h | h
  · exact S5.num1_range _ n h
  · exact ht _ n h
  · exact ht _ n h
  · exact ht _ n h
  · exact S5.num4_range _ _ n h
  · exact S3.bytes8_range _ n h
  · exact S5.num1_range _ n h
  · exact S5.num4_range _ _ n h
  · exact ht _ n h
  · exact ht _ n h
theorem enc_range (t : Tk) : ∀ n ∈ enc t, 0 ≤ n ∧ n ≤ 255 := S5.pad_range (raw_range t) _
theorem padN_le (n : Nat) : S5.padN n ≤ 7 := by unfold S5.padN; omega
theorem size_le {bad : List UInt8} {s : ByteArray} (h : S1.text bad s.data.toList = true) : s.size ≤ 39 := by
  have := (S5.text_ok h).2
  rwa [nums_len] at this
theorem enc_len {t : Tk} (h : chkE t = 0) : (enc t).length ≤ 224 := by
  have o := ok_of h
  have h1 : t.a.size ≤ 39 := by have := (S5.vName_ok o.a).2; rwa [nums_len] at this
  have h2 : t.b.size ≤ 39 := by have := (S5.vInst_ok o.b).2; rwa [nums_len] at this
  have h3 : t.c.size ≤ 39 := by have := (S5.vRealm_ok o.c).2; rwa [nums_len] at this
  have h4 : t.s.size ≤ 39 := by have := (S5.vName_ok o.s).2; rwa [nums_len] at this
  have h5 : t.i.size ≤ 39 := by have := (S5.vInst_ok o.i).2; rwa [nums_len] at this
  have e : (enc t).length = (raw t).length + S5.padN (raw t).length := by unfold enc S5.pad; simp
  rw [e, raw_len]
  have := padN_le (23 + t.a.size + t.b.size + t.c.size + t.s.size + t.i.size)
  unfold S5.padN at *
  omega
theorem encB_range (t : Tk) : ∀ n ∈ encB t, 0 ≤ n ∧ n ≤ 255 := by
  unfold encB
  split
  · exact enc_range t
  · intro n hn; cases hn
theorem encB_len (t : Tk) : (encB t).length ≤ 224 := by
  unfold encB
  split
  · exact enc_len ‹_›
  · simp

open S5 in
/-- The reader's way through a ticket's bytes. -/
def s1 (zs : List Int) : St := (St.mk 0 false).move (getN zs 0 1) (getE zs 0 1)
def pl (zs : List Int) : Bool := S5.getV zs 0 1 false == 1
open S5 in def s2 (zs : List Int) : St := (s1 zs).move (txN zs (s1 zs).at') (txE zs (s1 zs).at')
open S5 in def s3 (zs : List Int) : St := (s2 zs).move (txN zs (s2 zs).at') (txE zs (s2 zs).at')
open S5 in def s4 (zs : List Int) : St := (s3 zs).move (txN zs (s3 zs).at') (txE zs (s3 zs).at')
open S5 in def s5 (zs : List Int) : St := (s4 zs).move (getN zs (s4 zs).at' 4) (getE zs (s4 zs).at' 4)
open S5 in def s6 (zs : List Int) : St := (s5 zs).move (byN zs (s5 zs).at' 8) (byE zs (s5 zs).at' 8)
open S5 in def s7 (zs : List Int) : St := (s6 zs).move (getN zs (s6 zs).at' 1) (getE zs (s6 zs).at' 1)
open S5 in def s8 (zs : List Int) : St := (s7 zs).move (getN zs (s7 zs).at' 4) (getE zs (s7 zs).at' 4)
open S5 in def s9 (zs : List Int) : St := (s8 zs).move (txN zs (s8 zs).at') (txE zs (s8 zs).at')
open S5 in def s10 (zs : List Int) : St := (s9 zs).move (txN zs (s9 zs).at') (txE zs (s9 zs).at')
open S5 in
/-- What is read. -/
def parse (zs : List Int) : Tk :=
  ⟨pl zs, strOfNums (txS zs (s1 zs).at'), strOfNums (txS zs (s2 zs).at'), strOfNums (txS zs (s3 zs).at'), getV zs (s4 zs).at' 4 (pl zs), S3.readN (byS zs (s5 zs).at' 8), getV zs (s6 zs).at' 1 false, getV zs (s7 zs).at' 4 (pl zs), strOfNums (txS zs (s8 zs).at'), strOfNums (txS zs (s9 zs).at')⟩

/-- What was encoded is read as it was. -/
theorem parse_enc {t : Tk} (f : t.Fit) (h : chkE t = 0) (zs : List Int) (hz : zs = enc t) : (s10 zs).bad = false ∧ parse zs = t := by
  have o := ok_of h
  have A0 : S5.AtF zs (raw t) 0 := by
    subst hz
    unfold enc S5.pad
    exact (S5.AtF.all _).left
  have hfl : 0 ≤ flag t.l ∧ flag t.l ≤ 255 := by unfold flag; split <;> omega
  obtain ⟨e1, v1, n1⟩ := A0.left.num1 hfl.1 hfl.2
  have hl : pl zs = t.l := by
    unfold pl; rw [v1]; unfold flag; cases t.l <;> rfl
  have S1 : s1 zs = ⟨1, false⟩ := by unfold s1; rw [S5.St.move_ok rfl e1, n1]; rfl
  have A1 := A0.right
  have q1 : (0 : Int) + ((S5.num1 (flag t.l)).length : Int) = (s1 zs).at' := by rw [S1]; rfl
  rw [q1] at A1
  obtain ⟨e2, v2, n2⟩ := A1.left.text (S5.vName_ok o.a).1 (S5.vName_ok o.a).2
  have S2 : s2 zs = ⟨(s1 zs).at' + ((nums t.a).length + 1), false⟩ := by unfold s2; rw [S5.St.move_ok (by rw [S1]) e2, n2]
  have A2 := A1.right
  have q2 : (s1 zs).at' + ((S5.text (nums t.a)).length : Int) = (s2 zs).at' := by rw [S2]; simp [S5.text]
  rw [q2] at A2
  obtain ⟨e3, v3, n3⟩ := A2.left.text (S5.vInst_ok o.b).1 (S5.vInst_ok o.b).2
  have S3' : s3 zs = ⟨(s2 zs).at' + ((nums t.b).length + 1), false⟩ := by unfold s3; rw [S5.St.move_ok (by rw [S2]) e3, n3]
  have A3 := A2.right
  have q3 : (s2 zs).at' + ((S5.text (nums t.b)).length : Int) = (s3 zs).at' := by rw [S3']; simp [S5.text]
  rw [q3] at A3
  obtain ⟨e4, v4, n4⟩ := A3.left.text (S5.vRealm_ok o.c).1 (S5.vRealm_ok o.c).2
  have S4' : s4 zs = ⟨(s3 zs).at' + ((nums t.c).length + 1), false⟩ := by unfold s4; rw [S5.St.move_ok (by rw [S3']) e4, n4]
  have A4 := A3.right
  have q4 : (s3 zs).at' + ((S5.text (nums t.c)).length : Int) = (s4 zs).at' := by rw [S4']; simp [S5.text]
  rw [q4] at A4
  obtain ⟨e5, v5, n5⟩ := A4.left.num4 o.ad.1 o.ad.2
  have S5' : s5 zs = ⟨(s4 zs).at' + 4, false⟩ := by unfold s5; rw [S5.St.move_ok (by rw [S4']) e5, n5]
  have A5 := A4.right
  have q5 : (s4 zs).at' + ((S5.num4 t.l t.ad).length : Int) = (s5 zs).at' := by rw [S5']; simp [S5.num4_len]
  rw [q5] at A5
  obtain ⟨e6, v6, n6⟩ := A5.left.bytes (n := 8) (by rw [S3.bytes8_len]; rfl)
  have S6' : s6 zs = ⟨(s5 zs).at' + 8, false⟩ := by unfold s6; rw [S5.St.move_ok (by rw [S5']) e6, n6]
  have A6 := A5.right
  have q6 : (s5 zs).at' + ((S3.bytes8 t.k).length : Int) = (s6 zs).at' := by rw [S6']; simp [S3.bytes8_len]
  rw [q6] at A6
  obtain ⟨e7, v7, n7⟩ := A6.left.num1 o.li.1 o.li.2
  have S7' : s7 zs = ⟨(s6 zs).at' + 1, false⟩ := by unfold s7; rw [S5.St.move_ok (by rw [S6']) e7, n7]
  have A7 := A6.right
  have q7 : (s6 zs).at' + ((S5.num1 t.li).length : Int) = (s7 zs).at' := by rw [S7']; simp [S5.num1]
  rw [q7] at A7
  obtain ⟨e8, v8, n8⟩ := A7.left.num4 o.is.1 o.is.2
  have S8' : s8 zs = ⟨(s7 zs).at' + 4, false⟩ := by unfold s8; rw [S5.St.move_ok (by rw [S7']) e8, n8]
  have A8 := A7.right
  have q8 : (s7 zs).at' + ((S5.num4 t.l t.is).length : Int) = (s8 zs).at' := by rw [S8']; simp [S5.num4_len]
  rw [q8] at A8
  obtain ⟨e9, v9, n9⟩ := A8.left.text (S5.vName_ok o.s).1 (S5.vName_ok o.s).2
  have S9' : s9 zs = ⟨(s8 zs).at' + ((nums t.s).length + 1), false⟩ := by unfold s9; rw [S5.St.move_ok (by rw [S8']) e9, n9]
  have A9 := A8.right
  have q9 : (s8 zs).at' + ((S5.text (nums t.s)).length : Int) = (s9 zs).at' := by rw [S9']; simp [S5.text]
  rw [q9] at A9
  obtain ⟨e10, v10, n10⟩ := A9.text (S5.vInst_ok o.i).1 (S5.vInst_ok o.i).2
  refine ⟨by unfold s10; rw [S5.St.move_ok (by rw [S9']) e10], ?_⟩
  unfold parse
  rw [hl, v2, v3, v4, v5, v6, v7, v8, v9, v10, (S3.read_bytes8 f.k.1 f.k.2).2, if_pos o.k.1]
  simp only [str_nums]

theorem enc_inj {t u : Tk} (f : t.Fit) (h : chkE t = 0) (f' : u.Fit) (h' : chkE u = 0) (e : enc t = enc u) : t = u := by
  rw [← (parse_enc f h _ rfl).2, e, (parse_enc f' h' _ rfl).2]

/-- Whether there is a ticket of these bytes; the ticket, or none; the error. -/
def Is (zs : List Int) (t : Tk) : Prop := t.Fit ∧ chkE t = 0 ∧ enc t = zs
open Classical in
noncomputable def decT (zs : List Int) : Tk := if h : ∃ t, Is zs t then h.choose else Tk.zero
open Classical in
noncomputable def decE (zs : List Int) : Int := if 1 < zs.getD 0 0 then 7 else if ∃ t, Is zs t then 0 else 100
theorem flag_first (t : Tk) (zs : List Int) (h : enc t = zs) : zs.getD 0 0 = flag t.l % 256 := by
  subst h
  unfold enc S5.pad raw S5.num1
  rfl
theorem dec_order {zs : List Int} (h : 1 < zs.getD 0 0) : decE zs = 7 ∧ decT zs = Tk.zero := by
  have hn : ¬ ∃ t, Is zs t := by
    rintro ⟨t, _, _, e⟩
    have := flag_first t zs e
    unfold flag at this
    split at this <;> omega
  exact ⟨by unfold decE; rw [if_pos h], by unfold decT; rw [dif_neg hn]⟩
theorem dec_yes {zs : List Int} {t : Tk} (h : Is zs t) : decE zs = 0 ∧ decT zs = t := by
  have he : ∃ t, Is zs t := ⟨t, h⟩
  have h0 : ¬ 1 < zs.getD 0 0 := by
    have := flag_first t zs h.2.2
    unfold flag at this
    split at this <;> omega
  refine ⟨by unfold decE; rw [if_neg h0, if_pos he], ?_⟩
  unfold decT
  rw [dif_pos he]
  have g := he.choose_spec
  exact enc_inj g.1 g.2.1 h.1 h.2.1 (g.2.2.trans h.2.2.symm)
theorem dec_no {zs : List Int} (h : ¬ 1 < zs.getD 0 0) (hn : ¬ ∃ t, Is zs t) : decE zs = 100 ∧ decT zs = Tk.zero :=
  ⟨by unfold decE; rw [if_neg h, if_neg hn], by unfold decT; rw [dif_neg hn]⟩
/-- By what was read. -/
theorem dec_bad {zs : List Int} (h : ¬ 1 < zs.getD 0 0) (hb : (s10 zs).bad = true ∨ chkE (parse zs) ≠ 0 ∨ encB (parse zs) ≠ zs) : decE zs = 100 ∧ decT zs = Tk.zero := by
  refine dec_no h ?_
  rintro ⟨t, f, c, e⟩
  obtain ⟨g1, g2⟩ := parse_enc f c zs e.symm
  rcases hb with hb | hb | hb
  · rw [g1] at hb; cases hb
  · rw [g2] at hb; exact hb c
  · rw [g2] at hb; unfold encB at hb; rw [if_pos c] at hb; exact hb e
theorem decT_fit (zs : List Int) : (decT zs).Fit := by
  by_cases he : ∃ t, Is zs t
  · obtain ⟨t, h⟩ := he
    rw [(dec_yes h).2]; exact h.1
  · unfold decT; rw [dif_neg he]; exact Tk.zero_fit
theorem dec_enc {t : Tk} (f : t.Fit) (h : chkE t = 0) : decE (enc t) = 0 ∧ decT (enc t) = t := dec_yes ⟨f, h, rfl⟩

end Go.Proofs.Ytkhkmgblgonfoaa.S6
