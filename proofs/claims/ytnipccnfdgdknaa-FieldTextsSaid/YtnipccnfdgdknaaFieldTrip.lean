/-
  What was written is read as it was, whatever is in front of it and behind it: as lists of numbers.
-/
import Derived.Test.YtnipccnfdgdknaaFieldPlainB
namespace Go.Proofs.Ytnipccnfdgdknaa.S5

theorem part_mid (f x r : List Int) : part (f ++ x ++ r) (f.length : Int) x.length = x := by
  unfold part
  rw [Int.toNat_natCast, List.append_assoc, List.drop_left, List.take_left]
theorem get_mid (f x r : List Int) (l : Bool) : getE (f ++ x ++ r) (f.length : Int) x.length = 0 ∧ getV (f ++ x ++ r) (f.length : Int) x.length l = (if l then S3.num x.reverse else S3.num x) ∧ getN (f ++ x ++ r) (f.length : Int) x.length = (f.length : Int) + x.length := by
  have h := get_ok (zs := f ++ x ++ r) (at' := (f.length : Int)) (k := x.length) (l := l) (by simp; omega) (by simp; omega)
  rw [part_mid] at h
  exact h

theorem num_be4 {n : Int} (h0 : 0 ≤ n) (h1 : n ≤ 4294967295) : S3.num (be4 n) = n := by
  show (((0 * 256 + n / 16777216 % 256) * 256 + n / 65536 % 256) * 256 + n / 256 % 256) * 256 + n % 256 = n
  omega
theorem num_be2 {n : Int} (h0 : 0 ≤ n) (h1 : n ≤ 65535) : S3.num (be2 n) = n := by
  show (0 * 256 + n / 256 % 256) * 256 + n % 256 = n
  omega
theorem num_1 {n : Int} (h0 : 0 ≤ n) (h1 : n ≤ 255) : S3.num (num1 n) = n := by
  show 0 * 256 + n % 256 = n
  omega
theorem num4_trip {n : Int} (l : Bool) (h0 : 0 ≤ n) (h1 : n ≤ 4294967295) : (if l then S3.num (num4 l n).reverse else S3.num (num4 l n)) = n := by
  cases l
  · exact num_be4 h0 h1
  · show S3.num (be4 n) = n
    exact num_be4 h0 h1
theorem num2_trip {n : Int} (l : Bool) (h0 : 0 ≤ n) (h1 : n ≤ 65535) : (if l then S3.num (num2 l n).reverse else S3.num (num2 l n)) = n := by
  cases l
  · exact num_be2 h0 h1
  · show S3.num (be2 n) = n
    exact num_be2 h0 h1

theorem text_mid (f s r : List Int) (hs : ∀ z ∈ s, z ≠ 0) (hl : s.length ≤ 39) : txE (f ++ text s ++ r) (f.length : Int) = 0 ∧ txS (f ++ text s ++ r) (f.length : Int) = s ∧ txN (f ++ text s ++ r) (f.length : Int) = (f.length : Int) + (text s).length := by
  have e : f ++ text s ++ r = f ++ (s ++ (0 :: r)) := by simp [text]
  have h := tx_hit (zs := f ++ text s ++ r) (at' := (f.length : Int)) (m := s.length) (by simp; omega) (by omega) (fun i hi => by
    refine ⟨s[i], ?_, hs _ (List.getElem_mem hi)⟩
    rw [e, Int.toNat_natCast, List.getElem?_append_right (by omega), Nat.add_sub_cancel_left, List.getElem?_append_left hi, List.getElem?_eq_getElem hi]) (by
    rw [e, Int.toNat_natCast, List.getElem?_append_right (by omega), Nat.add_sub_cancel_left, List.getElem?_append_right (by omega), Nat.sub_self]; rfl)
  obtain ⟨h1, h2, h3⟩ := h
  refine ⟨h1, ?_, ?_⟩
  · rw [h2, e, Int.toNat_natCast, List.drop_left, List.take_left]
  · rw [h3]; simp [text]; omega

theorem prin_mid (f a b c r : List Int) (ha : ∀ z ∈ a, z ≠ 0) (hb : ∀ z ∈ b, z ≠ 0) (hc : ∀ z ∈ c, z ≠ 0) (la : a.length ≤ 39) (lb : b.length ≤ 39) (lc : c.length ≤ 39) (hv : vPr a b c = true) :
    prE (f ++ three a b c ++ r) (f.length : Int) = 0 ∧ prA (f ++ three a b c ++ r) (f.length : Int) = a ∧ prB (f ++ three a b c ++ r) (f.length : Int) = b ∧ prC (f ++ three a b c ++ r) (f.length : Int) = c ∧ prN (f ++ three a b c ++ r) (f.length : Int) = (f.length : Int) + (three a b c).length := by
  have e1 : f ++ three a b c ++ r = f ++ text a ++ (text b ++ text c ++ r) := by simp [three]
  have e2 : f ++ three a b c ++ r = (f ++ text a) ++ text b ++ (text c ++ r) := by simp [three]
  have e3 : f ++ three a b c ++ r = (f ++ text a ++ text b) ++ text c ++ r := by simp [three]
  obtain ⟨p1, p2, p3⟩ := text_mid f a (text b ++ text c ++ r) ha la
  obtain ⟨q1, q2, q3⟩ := text_mid (f ++ text a) b (text c ++ r) hb lb
  obtain ⟨s1, s2, s3⟩ := text_mid (f ++ text a ++ text b) c r hc lc
  rw [← e1] at p1 p2 p3
  rw [← e2] at q1 q2 q3
  rw [← e3] at s1 s2 s3
  have n1 : ((f ++ text a).length : Int) = txN (f ++ three a b c ++ r) (f.length : Int) := by rw [p3]; simp
  rw [n1] at q1 q2 q3
  have n2 : ((f ++ text a ++ text b).length : Int) = txN (f ++ three a b c ++ r) (txN (f ++ three a b c ++ r) (f.length : Int)) := by rw [q3, ← n1]; simp; omega
  rw [n2] at s1 s2 s3
  obtain ⟨h1, h2, h3, h4, h5⟩ := pr_ok p1 q1 s1 (by rw [p2, q2, s2]; exact hv)
  refine ⟨h1, by rw [h2, p2], by rw [h3, q2], by rw [h4, s2], ?_⟩
  rw [h5, s3, ← n2]; simp [three]; omega

/-- What was written behind fs, with rs behind it. -/
def whole (fs rs a b c : List Int) (l : Bool) (n m o : Int) : List Int := fs ++ num4 l n ++ num2 l m ++ num1 o ++ three a b c ++ rs
theorem trip (fs rs a b c : List Int) (l : Bool) (n m o : Int) (k : Nat) (hk : fs.length = k) (n0 : 0 ≤ n) (n1 : n ≤ 4294967295) (m0 : 0 ≤ m) (m1 : m ≤ 65535) (o0 : 0 ≤ o) (o1 : o ≤ 255)
    (ha : ∀ z ∈ a, z ≠ 0) (hb : ∀ z ∈ b, z ≠ 0) (hc : ∀ z ∈ c, z ≠ 0) (la : a.length ≤ 39) (lb : b.length ≤ 39) (lc : c.length ≤ 39) (hv : vPr a b c = true) :
    (getE (whole fs rs a b c l n m o) (k : Int) 4 = 0 ∧ getV (whole fs rs a b c l n m o) (k : Int) 4 l = n ∧ getN (whole fs rs a b c l n m o) (k : Int) 4 = (k : Int) + 4) ∧
    (getE (whole fs rs a b c l n m o) ((k : Int) + 4) 2 = 0 ∧ getV (whole fs rs a b c l n m o) ((k : Int) + 4) 2 l = m ∧ getN (whole fs rs a b c l n m o) ((k : Int) + 4) 2 = (k : Int) + 6) ∧
    (getE (whole fs rs a b c l n m o) ((k : Int) + 6) 1 = 0 ∧ getV (whole fs rs a b c l n m o) ((k : Int) + 6) 1 false = o ∧ getN (whole fs rs a b c l n m o) ((k : Int) + 6) 1 = (k : Int) + 7) ∧
    (prE (whole fs rs a b c l n m o) ((k : Int) + 7) = 0 ∧ prA (whole fs rs a b c l n m o) ((k : Int) + 7) = a ∧ prB (whole fs rs a b c l n m o) ((k : Int) + 7) = b ∧ prC (whole fs rs a b c l n m o) ((k : Int) + 7) = c ∧ prN (whole fs rs a b c l n m o) ((k : Int) + 7) = (k : Int) + 7 + (three a b c).length) := by
  have l4 := num4_len l n
  have l2 := num2_len l m
  have l1 : (num1 o).length = 1 := rfl
  have h1 := get_mid fs (num4 l n) (num2 l m ++ num1 o ++ three a b c ++ rs) l
  have h2 := get_mid (fs ++ num4 l n) (num2 l m) (num1 o ++ three a b c ++ rs) l
  have h3 := get_mid (fs ++ num4 l n ++ num2 l m) (num1 o) (three a b c ++ rs) false
  have h4 := prin_mid (fs ++ num4 l n ++ num2 l m ++ num1 o) a b c rs ha hb hc la lb lc hv
  have w1 : fs ++ num4 l n ++ (num2 l m ++ num1 o ++ three a b c ++ rs) = whole fs rs a b c l n m o := by simp [whole]
  have w2 : fs ++ num4 l n ++ num2 l m ++ (num1 o ++ three a b c ++ rs) = whole fs rs a b c l n m o := by simp [whole]
  have w3 : fs ++ num4 l n ++ num2 l m ++ num1 o ++ (three a b c ++ rs) = whole fs rs a b c l n m o := by simp [whole]
  have w4 : fs ++ num4 l n ++ num2 l m ++ num1 o ++ three a b c ++ rs = whole fs rs a b c l n m o := rfl
  have e2 : ((fs ++ num4 l n).length : Int) = (k : Int) + 4 := by simp [hk, l4]
  have e3 : ((fs ++ num4 l n ++ num2 l m).length : Int) = (k : Int) + 6 := by simp [hk, l4, l2] <;> omega
  have e4 : ((fs ++ num4 l n ++ num2 l m ++ num1 o).length : Int) = (k : Int) + 7 := by simp [hk, l4, l2, l1] <;> omega
  rw [w1, hk, l4, num4_trip l n0 n1] at h1
  rw [w2, e2, l2, num2_trip l m0 m1] at h2
  rw [w3, e3, l1] at h3
  rw [w4, e4] at h4
  refine ⟨h1, ⟨h2.1, h2.2.1, h2.2.2.trans (by omega)⟩, ⟨h3.1, h3.2.1.trans ?_, h3.2.2.trans (by omega)⟩, h4⟩
  show S3.num (num1 o) = o
  exact num_1 o0 o1

end Go.Proofs.Ytnipccnfdgdknaa.S5
