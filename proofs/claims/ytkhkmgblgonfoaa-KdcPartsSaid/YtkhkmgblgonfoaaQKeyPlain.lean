/-
  What the proof wants: KeyPlain, BytesPlain, Bits.
-/
import Derived.Test.YtkhkmgblgonfoaaProg
import Derived.Test.YtkhkmgblgonfoaaQBase
import Derived.Laws.Bits64b

/-
  Keys, as plain numbers: class and serial number, and which numbers are keys.
-/
namespace Go.Proofs.Ytkhkmgblgonfoaa.S3

def isC (n : Int) : Bool := decide (n = 1) || decide (n = 2)
def isS (n : Int) : Bool := decide (1 ≤ n) && decide (n ≤ 4294967295)

theorem isC_cases (n : Int) : (isC n = true ∧ n = 1) ∨ (isC n = true ∧ n = 2) ∨ (isC n = false ∧ n ≠ 1 ∧ n ≠ 2) := by
  by_cases h : n = 1
  · left; simp [isC, h]
  · by_cases g : n = 2
    · right; left; simp [isC, g]
    · right; right; simp [isC, h, g]
theorem isC_yes {n : Int} (h : n = 1 ∨ n = 2) : isC n = true := by rcases h with rfl | rfl <;> rfl
theorem isC_no {n : Int} (h : n ≠ 1) (g : n ≠ 2) : isC n = false := by simp [isC, h, g]
theorem isS_cases (n : Int) : (isS n = true ∧ 1 ≤ n ∧ n ≤ 4294967295) ∨ (isS n = false ∧ n < 1) ∨ (isS n = false ∧ 1 ≤ n ∧ 4294967295 < n) := by
  rcases Int.lt_or_le n 1 with h | h
  · right; left; exact ⟨by simp [isS]; omega, h⟩
  · rcases Int.lt_or_le 4294967295 n with g | g
    · right; right; exact ⟨by simp [isS]; omega, h, g⟩
    · left; exact ⟨by simp [isS]; omega, h, g⟩
theorem isS_yes {n : Int} (h : 1 ≤ n) (g : n ≤ 4294967295) : isS n = true := by simp [isS]; omega
theorem isS_no {n : Int} (h : n < 1 ∨ 4294967295 < n) : isS n = false := by simp [isS]; omega
theorem isS_iff {n : Int} : isS n = true ↔ 1 ≤ n ∧ n ≤ 4294967295 := by simp [isS]
theorem isC_iff {n : Int} : isC n = true ↔ n = 1 ∨ n = 2 := by simp [isC]

/-- The key of a class and a serial number, 0 if there is none. -/
def mk (c s : Int) : Int := if isC c && isS s then c * 72057594037927936 + s else 0
def vk (k : Int) : Bool := isC (k / 72057594037927936) && isS (k % 72057594037927936)
def ck (k : Int) : Int := if vk k then k / 72057594037927936 else 0
def sk (k : Int) : Int := if vk k then k % 72057594037927936 else 0

theorem mk_yes {c s : Int} (hc : isC c = true) (hs : isS s = true) : mk c s = c * 72057594037927936 + s := by simp [mk, hc, hs]
theorem mk_noC {c s : Int} (hc : isC c = false) : mk c s = 0 := by simp [mk, hc]
theorem mk_noS {c s : Int} (hs : isS s = false) : mk c s = 0 := by simp [mk, hs]
theorem vk_iff {k : Int} : vk k = true ↔ (k / 72057594037927936 = 1 ∨ k / 72057594037927936 = 2) ∧ 1 ≤ k % 72057594037927936 ∧ k % 72057594037927936 ≤ 4294967295 := by
  unfold vk; rw [Bool.and_eq_true, isC_iff, isS_iff]
theorem mk_range (c s : Int) : 0 ≤ mk c s ∧ mk c s ≤ 18446744073709551615 := by
  unfold mk
  split
  · rename_i h
    rw [Bool.and_eq_true, isC_iff, isS_iff] at h
    omega
  · omega
theorem vk_mk (c s : Int) : vk (mk c s) = (isC c && isS s) := by
  rcases h : isC c && isS s
  · have : mk c s = 0 := by simp [mk, h]
    rw [this]; rfl
  · have e : mk c s = c * 72057594037927936 + s := by simp [mk, h]
    rw [Bool.and_eq_true, isC_iff, isS_iff] at h
    rw [vk_iff, e]; omega
theorem vk_zero : vk 0 = false := by decide
theorem mk_ne {c s : Int} (hc : isC c = true) (hs : isS s = true) : mk c s ≠ 0 := by
  intro h; have := vk_mk c s; rw [h, hc, hs] at this; exact absurd this (by decide)
theorem vk_mk_ne (c s : Int) : vk (mk c s) = decide (mk c s ≠ 0) := by
  rw [vk_mk]
  rcases hc : isC c
  · rw [mk_noC hc]; rfl
  · rcases hs : isS s
    · rw [mk_noS hs]; rfl
    · have := mk_ne hc hs; simp [this]
theorem ck_mk {c s : Int} (hc : isC c = true) (hs : isS s = true) : ck (mk c s) = c := by
  unfold ck; rw [vk_mk, hc, hs, if_pos (by rfl), mk_yes hc hs]; rw [isS_iff] at hs; omega
theorem sk_mk {c s : Int} (hc : isC c = true) (hs : isS s = true) : sk (mk c s) = s := by
  unfold sk; rw [vk_mk, hc, hs, if_pos (by rfl), mk_yes hc hs]; rw [isS_iff] at hs; omega
theorem mk_self {k : Int} (h : vk k = true) : mk (k / 72057594037927936) (k % 72057594037927936) = k := by
  have h' := h
  unfold vk at h'
  unfold mk; rw [h', if_pos rfl]; omega
/-- The reference's way to say that k is a key. -/
theorem vk_ref (k : Int) : vk k = (decide (k ≠ 0) && decide (mk (k / 72057594037927936) (k % 72057594037927936) = k)) := by
  rcases h : vk k
  · rcases Int.lt_trichotomy k 0 with h' | h' | h'
    · have := (mk_range (k / 72057594037927936) (k % 72057594037927936)).1
      have : ¬ mk (k / 72057594037927936) (k % 72057594037927936) = k := by omega
      simp [this]
    · subst h'; rfl
    · have : ¬ mk (k / 72057594037927936) (k % 72057594037927936) = k := by
        intro e
        have g := vk_mk (k / 72057594037927936) (k % 72057594037927936)
        rw [e, h] at g
        have g' : mk (k / 72057594037927936) (k % 72057594037927936) = 0 := by unfold mk; rw [← g]; rfl
        omega
      simp [this]
  · have e := mk_self h
    have : k ≠ 0 := by rintro rfl; exact absurd h (by decide)
    simp [e, this]
theorem ck_range (k : Int) : 0 ≤ ck k ∧ ck k ≤ 2 := by
  unfold ck; split
  · rename_i h; rw [vk_iff] at h; omega
  · omega
theorem sk_range (k : Int) : 0 ≤ sk k ∧ sk k ≤ 4294967295 := by
  unfold sk; split
  · rename_i h; rw [vk_iff] at h; omega
  · omega
theorem mk_inj {c s d t : Int} (hc : isC c = true) (hs : isS s = true) (hd : isC d = true) (ht : isS t = true) (h : mk c s = mk d t) : c = d ∧ s = t := by
  have e1 := ck_mk hc hs; have e2 := ck_mk hd ht; have e3 := sk_mk hc hs; have e4 := sk_mk hd ht
  rw [h] at e1 e3
  exact ⟨e1.symm.trans e2, e3.symm.trans e4⟩

end Go.Proofs.Ytkhkmgblgonfoaa.S3

/-
  The eight bytes of a key, and the number that eight bytes are.
-/
namespace Go.Proofs.Ytkhkmgblgonfoaa.S3

def bytes8 (k : Int) : List Int := [k / 72057594037927936 % 256, k / 281474976710656 % 256, k / 1099511627776 % 256, k / 4294967296 % 256, k / 16777216 % 256, k / 65536 % 256, k / 256 % 256, k % 256]
theorem bytes8_range (k : Int) : ∀ n ∈ bytes8 k, 0 ≤ n ∧ n ≤ 255 := by
  intro n hn
  simp only [bytes8, List.mem_cons, List.not_mem_nil, or_false] at hn
  rcases hn with rfl | rfl | rfl | rfl | rfl | rfl | rfl | rfl <;> omega
theorem bytes8_len (k : Int) : (bytes8 k).length = 8 := rfl

def num (zs : List Int) : Int := zs.foldl (fun k b => k * 256 + b) 0
theorem num_snoc (zs : List Int) (z : Int) : num (zs ++ [z]) = num zs * 256 + z := by simp [num, List.foldl_append]
theorem num_take {zs : List Int} {j : Nat} {z : Int} (h : zs[j]? = some z) : num (zs.take (j + 1)) = num (zs.take j) * 256 + z := by rw [List.take_add_one, h]; exact num_snoc _ _
theorem num_bytes8 {k : Int} (k0 : 0 ≤ k) (k1 : k ≤ 18446744073709551615) : num (bytes8 k) = k := by
  show (((((((0 * 256 + k / 72057594037927936 % 256) * 256 + k / 281474976710656 % 256) * 256 + k / 1099511627776 % 256) * 256 + k / 4294967296 % 256) * 256 + k / 16777216 % 256) * 256 + k / 65536 % 256) * 256 + k / 256 % 256) * 256 + k % 256 = k
  have e1 : 0 * 256 + k / 72057594037927936 % 256 = k / 72057594037927936 := by omega
  have e2 : k / 72057594037927936 * 256 + k / 281474976710656 % 256 = k / 281474976710656 := by omega
  have e3 : k / 281474976710656 * 256 + k / 1099511627776 % 256 = k / 1099511627776 := by omega
  have e4 : k / 1099511627776 * 256 + k / 4294967296 % 256 = k / 4294967296 := by omega
  have e5 : k / 4294967296 * 256 + k / 16777216 % 256 = k / 16777216 := by omega
  have e6 : k / 16777216 * 256 + k / 65536 % 256 = k / 65536 := by omega
  have e7 : k / 65536 * 256 + k / 256 % 256 = k / 256 := by omega
  have e8 : k / 256 * 256 + k % 256 = k := by omega
  rw [e1, e2, e3, e4, e5, e6, e7, e8]
/-- Bounds of the number of j bytes; j at most eight. -/
def top : Nat → Int
  | 0 => 1
  | j + 1 => top j * 256
theorem num_lt {zs : List Int} (h : ∀ n ∈ zs, 0 ≤ n ∧ n ≤ 255) : 0 ≤ num zs ∧ num zs < top zs.length := by
  suffices ∀ j (l : List Int), (∀ n ∈ l, 0 ≤ n ∧ n ≤ 255) → l.length = j → 0 ≤ num l ∧ num l < top j from this _ _ h rfl
  intro j
  induction j with
  | zero =>
    intro l _ hl
    have : l = [] := List.eq_nil_of_length_eq_zero hl
    subst this; decide
  | succ j ih =>
    intro l h hl
    have hne : l ≠ [] := by rintro rfl; cases hl
    obtain ⟨q, z, rfl⟩ : ∃ q z, l = q ++ [z] := ⟨_, _, (List.dropLast_concat_getLast hne).symm⟩
    have hq := ih q (fun n hn => h n (by simp [hn])) (by simpa using hl)
    have hz := h z (by simp)
    rw [num_snoc]
    show _ ∧ _ < top j * 256
    omega
theorem top_mono : ∀ j, 1 ≤ top j
  | 0 => by decide
  | j + 1 => by have := top_mono j; show 1 ≤ top j * 256; omega
theorem num_take_le {zs : List Int} (h : ∀ n ∈ zs, 0 ≤ n ∧ n ≤ 255) {j : Nat} (hj : j < 8) : 0 ≤ num (zs.take j) ∧ num (zs.take j) ≤ 72057594037927935 := by
  obtain ⟨h1, h2⟩ := num_lt (zs := zs.take j) fun n hn => h n (List.mem_of_mem_take hn)
  refine ⟨h1, ?_⟩
  have hl : (zs.take j).length ≤ 7 := by simp; omega
  generalize (zs.take j).length = m at h2 hl
  have : top m ≤ 72057594037927936 := by
    match m, hl with
    | 0, _ => decide
    | 1, _ => decide
    | 2, _ => decide
    | 3, _ => decide
    | 4, _ => decide
    | 5, _ => decide
    | 6, _ => decide
    | 7, _ => decide
  omega

def readOk (zs : List Int) : Bool := decide (zs.length = 8) && vk (num zs)
def readN (zs : List Int) : Int := if readOk zs then num zs else 0
theorem read_len {zs : List Int} (h : zs.length ≠ 8) : readOk zs = false ∧ readN zs = 0 := by simp [readOk, readN, h]
theorem read_no {zs : List Int} (h : vk (num zs) = false) : readOk zs = false ∧ readN zs = 0 := by simp [readOk, readN, h]
theorem read_yes {zs : List Int} (h : zs.length = 8) (g : vk (num zs) = true) : readOk zs = true ∧ readN zs = num zs := by simp [readOk, readN, h, g]
theorem read_bytes8 {k : Int} (k0 : 0 ≤ k) (k1 : k ≤ 18446744073709551615) : readOk (bytes8 k) = vk k ∧ readN (bytes8 k) = if vk k then k else 0 := by
  have e : readOk (bytes8 k) = vk k := by unfold readOk; rw [num_bytes8 k0 k1]; rfl
  exact ⟨e, by unfold readN; rw [e, num_bytes8 k0 k1]⟩

end Go.Proofs.Ytkhkmgblgonfoaa.S3

/-
  '|' and '&' of 64-bit words where they are sums and remainders.
-/
namespace Go.Proofs.Ytkhkmgblgonfoaa
open Go.RowKit

theorem cast_pow (i : Nat) : ((2 ^ i : Nat) : Int) = 2 ^ i := Int.natCast_pow 2 i

theorem or64 (i : Nat) (a b : Int) (a0 : 0 ≤ a) (b0 : 0 ≤ b) (hb : b < 2 ^ i) (ha : a * 2 ^ i + b ≤ 18446744073709551615) : bits .or .u64 (a * 2 ^ i) b = a * 2 ^ i + b := by
  obtain ⟨m, rfl⟩ := Int.eq_ofNat_of_zero_le a0
  obtain ⟨n, rfl⟩ := Int.eq_ofNat_of_zero_le b0
  have hn : n < 2 ^ i := by exact_mod_cast hb
  have e : ((m : Int) * 2 ^ i) = ((m * 2 ^ i : Nat) : Int) := by rw [Int.natCast_mul, cast_pow]
  rw [e] at ha ⊢
  have hor : m * 2 ^ i ||| n = m * 2 ^ i + n := by rw [Nat.mul_comm, ← Nat.two_pow_add_eq_or_of_lt hn]
  rw [bits_or_u64_nat _ _ (by omega) (by omega), hor, Int.natCast_add]

theorem or64_byte (a b : Int) (a0 : 0 ≤ a) (b0 : 0 ≤ b) (hb : b ≤ 255) (ha : a ≤ 72057594037927935) : bits .or .u64 (a * 256) b = a * 256 + b :=
  or64 8 a b a0 b0 (by show b < 256; omega) (by show a * 256 + b ≤ _; omega)

theorem and64 (i : Nat) (a : Int) (a0 : 0 ≤ a) (ha : a ≤ 18446744073709551615) (m : Int) (hm : m = 2 ^ i - 1) (hi : i ≤ 64) : bits .and .u64 a m = a % 2 ^ i := by
  obtain ⟨n, rfl⟩ := Int.eq_ofNat_of_zero_le a0
  have hp : 0 < 2 ^ i := Nat.two_pow_pos i
  have hp' : 2 ^ i ≤ 2 ^ 64 := Nat.pow_le_pow_right (by decide) hi
  have e : m = ((2 ^ i - 1 : Nat) : Int) := by
    rw [hm, Int.natCast_sub hp, cast_pow]; rfl
  rw [e, bits_and_u64_nat _ _ (by omega) (by omega), Nat.and_two_pow_sub_one_eq_mod, Int.natCast_emod, cast_pow]

end Go.Proofs.Ytkhkmgblgonfoaa
