/-
  The eight bytes of a key, and the number that eight bytes are.
-/
import Derived.Test.YtdhjhpmbgfefbaaKeyPlain
namespace Go.Proofs.Ytdhjhpmbgfefbaa.S3

def bytes8 (k : Int) : List Int := [k / 72057594037927936 % 256, k / 281474976710656 % 256, k / 1099511627776 % 256, k / 4294967296 % 256, k / 16777216 % 256, k / 65536 % 256, k / 256 % 256, k % 256]
theorem bytes8_range (k : Int) : ∀ n ∈ bytes8 k, 0 ≤ n ∧ n ≤ 255 := by
  intro n hn
  simp only [bytes8, List.mem_cons, List.not_mem_nil, or_false] at hn
  rcases hn with rfl | rfl | rfl | rfl | rfl | rfl | rfl | rfl <;> omega
theorem bytes8_len (k : Int) : (bytes8 k).length = 8 := rfl

def num (zs : List Int) : Int := zs.foldl (fun k b => k * 256 + b) 0
theorem num_snoc (zs : List Int) (z : Int) : num (zs ++ [z]) = num zs * 256 + z := by simp [num, List.foldl_append]
theorem num_take {zs : List Int} {j : Nat} {z : Int} (h : zs[j]? = some z) : num (zs.take (j + 1)) = num (zs.take j) * 256 + z := by rw [List.take_add_one, h]; exact num_snoc _ _
theorem num_bytes8 {k : Int} (k0 : 0 ≤ k) (k1 : k ≤ 18446744073709551615) : num (bytes8 k) = k := by
  show (((((((0 * 256 + k / 72057594037927936 % 256) * 256 + k / 281474976710656 % 256) * 256 + k / 1099511627776 % 256) * 256 + k / 4294967296 % 256) * 256 + k / 16777216 % 256) * 256 + k / 65536 % 256) * 256 + k / 256 % 256) * 256 + k % 256 = k
  have e1 : 0 * 256 + k / 72057594037927936 % 256 = k / 72057594037927936 := by omega
  have e2 : k / 72057594037927936 * 256 + k / 281474976710656 % 256 = k / 281474976710656 := by omega
  have e3 : k / 281474976710656 * 256 + k / 1099511627776 % 256 = k / 1099511627776 := by omega
  have e4 : k / 1099511627776 * 256 + k / 4294967296 % 256 = k / 4294967296 := by omega
  have e5 : k / 4294967296 * 256 + k / 16777216 % 256 = k / 16777216 := by omega
  have e6 : k / 16777216 * 256 + k / 65536 % 256 = k / 65536 := by omega
  have e7 : k / 65536 * 256 + k / 256 % 256 = k / 256 := by omega
  have e8 : k / 256 * 256 + k % 256 = k := by omega
  rw [e1, e2, e3, e4, e5, e6, e7, e8]
/-- Bounds of the number of j bytes; j at most eight. -/
def top : Nat → Int
  | 0 => 1
  | j + 1 => top j * 256
theorem num_lt {zs : List Int} (h : ∀ n ∈ zs, 0 ≤ n ∧ n ≤ 255) : 0 ≤ num zs ∧ num zs < top zs.length := by
  suffices ∀ j (l : List Int), (∀ n ∈ l, 0 ≤ n ∧ n ≤ 255) → l.length = j → 0 ≤ num l ∧ num l < top j from this _ _ h rfl
  intro j
  induction j with
  | zero =>
    intro l _ hl
    have : l = [] := List.eq_nil_of_length_eq_zero hl
    subst this; decide
  | succ j ih =>
    intro l h hl
    have hne : l ≠ [] := by rintro rfl; cases hl
    obtain ⟨q, z, rfl⟩ : ∃ q z, l = q ++ [z] := ⟨_, _, (List.dropLast_concat_getLast hne).symm⟩
    have hq := ih q (fun n hn => h n (by simp [hn])) (by simpa using hl)
    have hz := h z (by simp)
    rw [num_snoc]
    show _ ∧ _ < top j * 256
    omega
theorem top_mono : ∀ j, 1 ≤ top j
  | 0 => by decide
  | j + 1 => by have := top_mono j; show 1 ≤ top j * 256; omega
theorem num_take_le {zs : List Int} (h : ∀ n ∈ zs, 0 ≤ n ∧ n ≤ 255) {j : Nat} (hj : j < 8) : 0 ≤ num (zs.take j) ∧ num (zs.take j) ≤ 72057594037927935 := by
  obtain ⟨h1, h2⟩ := num_lt (zs := zs.take j) fun n hn => h n (List.mem_of_mem_take hn)
  refine ⟨h1, ?_⟩
  have hl : (zs.take j).length ≤ 7 := by simp; omega
  generalize (zs.take j).length = m at h2 hl
  have : top m ≤ 72057594037927936 := by
    match m, hl with
    | 0, _ => decide
    | 1, _ => decide
    | 2, _ => decide
    | 3, _ => decide
    | 4, _ => decide
    | 5, _ => decide
    | 6, _ => decide
    | 7, _ => decide
  omega

def readOk (zs : List Int) : Bool := decide (zs.length = 8) && vk (num zs)
def readN (zs : List Int) : Int := if readOk zs then num zs else 0
theorem read_len {zs : List Int} (h : zs.length ≠ 8) : readOk zs = false ∧ readN zs = 0 := by simp [readOk, readN, h]
theorem read_no {zs : List Int} (h : vk (num zs) = false) : readOk zs = false ∧ readN zs = 0 := by simp [readOk, readN, h]
theorem read_yes {zs : List Int} (h : zs.length = 8) (g : vk (num zs) = true) : readOk zs = true ∧ readN zs = num zs := by simp [readOk, readN, h, g]
theorem read_bytes8 {k : Int} (k0 : 0 ≤ k) (k1 : k ≤ 18446744073709551615) : readOk (bytes8 k) = vk k ∧ readN (bytes8 k) = if vk k then k else 0 := by
  have e : readOk (bytes8 k) = vk k := by unfold readOk; rw [num_bytes8 k0 k1]; rfl
  exact ⟨e, by unfold readN; rw [e, num_bytes8 k0 k1]⟩

end Go.Proofs.Ytdhjhpmbgfefbaa.S3
