/-
  Reading a principal: three texts, and whether they are names.
-/
import Derived.Test.YtnipccnfdgdknaaFieldPlain
import Derived.Test.YtnipccnfdgdknaaPlainA
import Derived.Laws.BytesArg
namespace Go.Proofs.Ytnipccnfdgdknaa.S5

/-- Whether three rows of bytes are a principal's names. -/
def vPr (a b c : List Int) : Bool := S1.vP (strOfNums a).data.toList (strOfNums b).data.toList (strOfNums c).data.toList
def prE (zs : List Int) (at' : Int) : Int :=
  if txE zs at' ≠ 0 then txE zs at' else if txE zs (txN zs at') ≠ 0 then txE zs (txN zs at') else if txE zs (txN zs (txN zs at')) ≠ 0 then txE zs (txN zs (txN zs at')) else if vPr (txS zs at') (txS zs (txN zs at')) (txS zs (txN zs (txN zs at'))) then 0 else 103
def prA (zs : List Int) (at' : Int) : List Int := if prE zs at' = 0 then txS zs at' else []
def prB (zs : List Int) (at' : Int) : List Int := if prE zs at' = 0 then txS zs (txN zs at') else []
def prC (zs : List Int) (at' : Int) : List Int := if prE zs at' = 0 then txS zs (txN zs (txN zs at')) else []
def prN (zs : List Int) (at' : Int) : Int := if prE zs at' = 0 then txN zs (txN zs (txN zs at')) else 0

theorem pr_err {zs : List Int} {at' : Int} (h : prE zs at' ≠ 0) : prA zs at' = [] ∧ prB zs at' = [] ∧ prC zs at' = [] ∧ prN zs at' = 0 := by simp [prA, prB, prC, prN, h]
theorem pr_1 {zs : List Int} {at' : Int} (h : txE zs at' ≠ 0) : prE zs at' = txE zs at' ∧ prA zs at' = [] ∧ prB zs at' = [] ∧ prC zs at' = [] ∧ prN zs at' = 0 := by
  have e : prE zs at' = txE zs at' := by unfold prE; rw [if_pos h]
  exact ⟨e, pr_err (by rw [e]; exact h)⟩
theorem pr_2 {zs : List Int} {at' : Int} (h1 : txE zs at' = 0) (h : txE zs (txN zs at') ≠ 0) : prE zs at' = txE zs (txN zs at') ∧ prA zs at' = [] ∧ prB zs at' = [] ∧ prC zs at' = [] ∧ prN zs at' = 0 := by
  have e : prE zs at' = txE zs (txN zs at') := by unfold prE; rw [if_neg (by simp [h1]), if_pos h]
  exact ⟨e, pr_err (by rw [e]; exact h)⟩
theorem pr_3 {zs : List Int} {at' : Int} (h1 : txE zs at' = 0) (h2 : txE zs (txN zs at') = 0) (h : txE zs (txN zs (txN zs at')) ≠ 0) : prE zs at' = txE zs (txN zs (txN zs at')) ∧ prA zs at' = [] ∧ prB zs at' = [] ∧ prC zs at' = [] ∧ prN zs at' = 0 := by
  have e : prE zs at' = txE zs (txN zs (txN zs at')) := by unfold prE; rw [if_neg (by simp [h1]), if_neg (by simp [h2]), if_pos h]
  exact ⟨e, pr_err (by rw [e]; exact h)⟩
theorem pr_4 {zs : List Int} {at' : Int} (h1 : txE zs at' = 0) (h2 : txE zs (txN zs at') = 0) (h3 : txE zs (txN zs (txN zs at')) = 0) (h : vPr (txS zs at') (txS zs (txN zs at')) (txS zs (txN zs (txN zs at'))) = false) :
    prE zs at' = 103 ∧ prA zs at' = [] ∧ prB zs at' = [] ∧ prC zs at' = [] ∧ prN zs at' = 0 := by
  have e : prE zs at' = 103 := by unfold prE; rw [if_neg (by simp [h1]), if_neg (by simp [h2]), if_neg (by simp [h3]), if_neg (by simp [h])]
  exact ⟨e, pr_err (by rw [e]; decide)⟩
theorem pr_ok {zs : List Int} {at' : Int} (h1 : txE zs at' = 0) (h2 : txE zs (txN zs at') = 0) (h3 : txE zs (txN zs (txN zs at')) = 0) (h : vPr (txS zs at') (txS zs (txN zs at')) (txS zs (txN zs (txN zs at'))) = true) :
    prE zs at' = 0 ∧ prA zs at' = txS zs at' ∧ prB zs at' = txS zs (txN zs at') ∧ prC zs at' = txS zs (txN zs (txN zs at')) ∧ prN zs at' = txN zs (txN zs (txN zs at')) := by
  have e : prE zs at' = 0 := by unfold prE; rw [if_neg (by simp [h1]), if_neg (by simp [h2]), if_neg (by simp [h3]), if_pos h]
  exact ⟨e, by unfold prA; rw [if_pos e], by unfold prB; rw [if_pos e], by unfold prC; rw [if_pos e], by unfold prN; rw [if_pos e]⟩
theorem txS_len (zs : List Int) (at' : Int) : (txS zs at').length ≤ 40 := by
  unfold txS upto near
  split
  · exact Nat.le_trans (List.takeWhile_sublist _).length_le (List.length_take_le _ _)
  · simp

end Go.Proofs.Ytnipccnfdgdknaa.S5
