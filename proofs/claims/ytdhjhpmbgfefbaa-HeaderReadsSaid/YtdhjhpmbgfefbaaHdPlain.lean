/-
  The first two bytes of messages, as numbers.
-/
import Derived.Test.YtdhjhpmbgfefbaaBase
namespace Go.Proofs.Ytdhjhpmbgfefbaa.S8

def okK (n : Int) : Bool := decide (1 ≤ n) && decide (n ≤ 10)
theorem okK_iff {n : Int} : okK n = true ↔ 1 ≤ n ∧ n ≤ 10 := by simp [okK]
theorem okK_no {n : Int} (h : n < 1 ∨ 10 < n) : okK n = false := by
  rcases hk : okK n
  · rfl
  · have := okK_iff.1 hk; omega
def ord (l : Bool) : Int := if l then 1 else 0
/-- The bytes of a type and a byte order. -/
def put (n : Int) (l : Bool) : List Int := if okK n then [4, 2 * n + ord l] else []
theorem put_no {n : Int} (h : n < 1 ∨ 10 < n) (l : Bool) : put n l = [] := by unfold put; rw [okK_no h]; rfl
theorem put_ok {n : Int} (h : 1 ≤ n ∧ n ≤ 10) (l : Bool) : put n l = [4, 2 * n + ord l] := by unfold put; rw [okK_iff.2 h]; rfl
/-- The error, the type and the byte order of a message. -/
def rdE (zs : List Int) : Int := if zs.length < 2 then 101 else if zs.getD 0 0 ≠ 4 then 39 else if okK (zs.getD 1 0 / 2) then 0 else 40
def rdK (zs : List Int) : Int := if rdE zs = 0 then zs.getD 1 0 / 2 else 0
def rdL (zs : List Int) : Bool := decide (rdE zs = 0) && (zs.getD 1 0 % 2 == 1)
theorem rd_err {zs : List Int} (h : rdE zs ≠ 0) : rdK zs = 0 ∧ rdL zs = false := by simp [rdK, rdL, h]
theorem rd_short {zs : List Int} (h : zs.length < 2) : rdE zs = 101 ∧ rdK zs = 0 ∧ rdL zs = false := by
  have e : rdE zs = 101 := by unfold rdE; rw [if_pos h]
  exact ⟨e, rd_err (by rw [e]; decide)⟩
theorem rd_version {zs : List Int} {a b : Int} {r : List Int} (hz : zs = a :: b :: r) (h : a ≠ 4) : rdE zs = 39 ∧ rdK zs = 0 ∧ rdL zs = false := by
  subst hz
  have e : rdE (a :: b :: r) = 39 := by unfold rdE; rw [if_neg (by simp), if_pos (by simpa using h)]
  exact ⟨e, rd_err (by rw [e]; decide)⟩
theorem rd_type {zs : List Int} {b : Int} {r : List Int} (hz : zs = 4 :: b :: r) (h : b / 2 < 1 ∨ 10 < b / 2) : rdE zs = 40 ∧ rdK zs = 0 ∧ rdL zs = false := by
  subst hz
  have e : rdE (4 :: b :: r) = 40 := by
    unfold rdE
    rw [if_neg (by simp), if_neg (by simp)]
    show (if okK (b / 2) = true then (0 : Int) else 40) = 40
    rw [okK_no h]; rfl
  exact ⟨e, rd_err (by rw [e]; decide)⟩
theorem rd_ok {zs : List Int} {b : Int} {r : List Int} (hz : zs = 4 :: b :: r) (h : 1 ≤ b / 2 ∧ b / 2 ≤ 10) : rdE zs = 0 ∧ rdK zs = b / 2 ∧ rdL zs = (b % 2 == 1) := by
  subst hz
  have e : rdE (4 :: b :: r) = 0 := by
    unfold rdE
    rw [if_neg (by simp), if_neg (by simp)]
    show (if okK (b / 2) = true then (0 : Int) else 40) = 0
    rw [okK_iff.2 h]; rfl
  refine ⟨e, by unfold rdK; rw [if_pos e]; rfl, ?_⟩
  unfold rdL
  rw [e]; rfl
/-- What was put is read as it was, whatever follows. -/
theorem rd_put {n : Int} (h : 1 ≤ n ∧ n ≤ 10) (l : Bool) (r : List Int) : rdE (put n l ++ r) = 0 ∧ rdK (put n l ++ r) = n ∧ rdL (put n l ++ r) = l := by
  rw [put_ok h]
  have hq : (2 * n + ord l) / 2 = n := by unfold ord; split <;> omega
  obtain ⟨e, k, b⟩ := rd_ok (zs := [4, 2 * n + ord l] ++ r) (b := 2 * n + ord l) (r := r) rfl (by rw [hq]; exact h)
  refine ⟨e, k.trans hq, b.trans ?_⟩
  unfold ord
  cases l
  · have : (2 * n + (if false = true then (1 : Int) else 0)) % 2 = 0 := by simp
    rw [this]; rfl
  · have : (2 * n + (if true = true then (1 : Int) else 0)) % 2 = 1 := by simp
    rw [this]; rfl
theorem put_range (n : Int) (l : Bool) : ∀ z ∈ put n l, 0 ≤ z ∧ z ≤ 255 := by
  unfold put
  split
  · rename_i h
    have := okK_iff.1 h
    intro z hz
    simp at hz
    unfold ord at hz
    split at hz <;> omega
  · intro z hz; cases hz
theorem put_len (n : Int) (l : Bool) : (put n l).length ≤ 2 := by unfold put; split <;> simp
/-- Whether a message has one of some types; the error. -/
def isB (zs ks : List Int) : Bool := if rdE zs = 0 ∧ rdK zs ∈ ks then rdL zs else false
def isE (zs ks : List Int) : Int := if rdE zs ≠ 0 then rdE zs else if rdK zs ∈ ks then 0 else 40
theorem is_err {zs : List Int} (h : rdE zs ≠ 0) (ks : List Int) : isE zs ks = rdE zs ∧ isB zs ks = false := by
  unfold isE isB
  rw [if_pos h, if_neg (fun c => h c.1)]; exact ⟨rfl, rfl⟩
theorem is_yes {zs ks : List Int} (h : rdE zs = 0) (g : rdK zs ∈ ks) : isE zs ks = 0 ∧ isB zs ks = rdL zs := by
  unfold isE isB
  rw [if_neg (by simp [h]), if_pos g, if_pos ⟨h, g⟩]; exact ⟨rfl, rfl⟩
theorem is_no {zs ks : List Int} (h : rdE zs = 0) (g : rdK zs ∉ ks) : isE zs ks = 40 ∧ isB zs ks = false := by
  unfold isE isB
  rw [if_neg (by simp [h]), if_neg g, if_neg (fun c => g c.2)]; exact ⟨rfl, rfl⟩

end Go.Proofs.Ytdhjhpmbgfefbaa.S8
