/-
  Plain functions on lists of bytes for chapter 1: which texts are valid names, what a text is parsed to. No program is named here.
-/
import Derived.Lib.IndexMore
import Derived.Lib.IndexBytes
import Derived.Lib.Strings
namespace Go.Proofs.Ytkhkmgblgonfoaa
namespace S1

/-- A byte of a text: from 33 to 126, and none of 'bad'. -/
def okB (bad : List UInt8) (c : UInt8) : Bool := (decide (33 ≤ (c.toNat : Int)) && decide ((c.toNat : Int) ≤ 126)) && !bad.contains c

def text (bad s : List UInt8) : Bool := s.all (okB bad) && decide (s.length ≤ 39)

theorem okB_yes {c : UInt8} (h1 : 33 ≤ (c.toNat : Int)) (h2 : (c.toNat : Int) ≤ 126) : okB [64] c = (((c.toNat : Int)) != 64) := by
  have e : (c == (64 : UInt8)) = ((c.toNat : Int) == 64) := by
    rw [Bool.eq_iff_iff]; simp only [beq_iff_eq, ← UInt8.toNat_inj]; constructor
    · intro h; rw [h]; rfl
    · intro h; have : c.toNat = 64 := by omega
      rw [this]; rfl
  have e2 : ([64] : List UInt8).contains c = (c == 64) := by rw [List.contains_cons]; simp only [List.contains_nil, Bool.or_false]
  unfold okB
  rw [e2, e, decide_eq_true h1, decide_eq_true h2]; rfl

theorem okB_lo {bad : List UInt8} {c : UInt8} (h1 : (c.toNat : Int) < 33) : okB bad c = false := by
  have : ¬ 33 ≤ (c.toNat : Int) := by omega
  simp [okB]; omega

theorem okB_hi {bad : List UInt8} {c : UInt8} (h1 : 126 < (c.toNat : Int)) : okB bad c = false := by
  simp [okB]; omega

theorem take_snoc (s : ByteArray) (k : Nat) (h : k < s.size) : s.data.toList.take (k + 1) = s.data.toList.take k ++ [s[k]] := by
  rw [List.take_succ_eq_append_getElem (by simpa using h)]; rfl

theorem all_snoc (p : UInt8 → Bool) (s : ByteArray) (k : Nat) (h : k < s.size) : (s.data.toList.take (k + 1)).all p = ((s.data.toList.take k).all p && p s[k]) := by
  rw [take_snoc s k h, List.all_append]; simp

/-- One bad byte. -/
theorem all_false (p : UInt8 → Bool) (s : ByteArray) (k : Nat) (h : k < s.size) (hp : p s[k] = false) : s.data.toList.all p = false := by
  rw [List.all_eq_false]
  exact ⟨s[k], by rw [ByteArray.getElem_eq_getElem_data]; exact List.getElem_mem (by simpa using h), by simp [hp]⟩

theorem all_end (p : UInt8 → Bool) (s : ByteArray) (k : Nat) (h : s.size ≤ k) (ha : (s.data.toList.take k).all p = true) : s.data.toList.all p = true := by
  rwa [List.take_of_length_le (by simpa using h)] at ha

theorem text_long (bad : List UInt8) (s : ByteArray) (h : 39 < (s.size : Int)) : text bad s.data.toList = false := by
  have : ¬ s.data.toList.length ≤ 39 := by simp; omega
  simp only [text, this, decide_false, Bool.and_false]

theorem text_bad (bad : List UInt8) (s : ByteArray) (h : s.data.toList.all (okB bad) = false) : text bad s.data.toList = false := by
  simp only [text, h, Bool.false_and]

theorem text_all (bad : List UInt8) (s : ByteArray) (h : s.data.toList.all (okB bad) = true) : text bad s.data.toList = decide (s.size ≤ 39) := by
  simp only [text, h, Bool.true_and]; congr

theorem okB_mid {bad : List UInt8} {c : UInt8} (h1 : 33 ≤ (c.toNat : Int)) (h2 : (c.toNat : Int) ≤ 126) : okB bad c = !bad.contains c := by
  unfold okB
  rw [decide_eq_true h1, decide_eq_true h2]; rfl

theorem idx_mem (l : List UInt8) (c : UInt8) : decide (0 ≤ Lib.indexByte l c) = l.contains c := by
  induction l with
  | nil => rfl
  | cons b l ih =>
    have g := Lib.indexByte_ge l c
    rw [List.contains_cons, ← ih]
    have E : Lib.indexByte (b :: l) c = if b == c then 0 else if Lib.indexByte l c == -1 then -1 else Lib.indexByte l c + 1 := rfl
    rw [E]
    by_cases h : b = c
    · subst h; simp
    · have h' : (b == c) = false := by simpa using h
      have h'' : (c == b) = false := by simpa using fun e => h e.symm
      rw [h', h'']
      by_cases e : Lib.indexByte l c = -1
      · rw [e]; rfl
      · have e' : (Lib.indexByte l c == -1) = false := by simpa using e
        simp only [e', Bool.false_eq_true, if_false, Bool.false_or]
        congr 1; simp only [eq_iff_iff]; omega

/-- Not empty, and a text without the bytes of 'bad'. -/
def vName (s : List UInt8) : Bool := !s.isEmpty && text [46, 64] s
def vInst (s : List UInt8) : Bool := text [64] s
def vRealm (s : List UInt8) : Bool := !s.isEmpty && text [64] s

def vP (a b c : List UInt8) : Bool := (vName a && vInst b) && vRealm c
theorem vP_eq (a b c : List UInt8) : vP a b c = ((vName a && text [64] b) && vRealm c) := rfl

theorem okB_two (c : UInt8) : okB [46, 64] c = (okB [64] c && !(c == 46)) := by
  unfold okB
  rw [List.contains_cons, Bool.not_or]
  generalize decide (33 ≤ (c.toNat : Int)) = a
  generalize decide ((c.toNat : Int) ≤ 126) = b
  generalize ([64] : List UInt8).contains c = d
  generalize (c == 46) = e
  cases a <;> cases b <;> cases d <;> cases e <;> rfl

theorem all_two (s : List UInt8) : s.all (okB [46, 64]) = (s.all (okB [64]) && !s.contains 46) := by
  induction s with
  | nil => rfl
  | cons c s ih =>
    rw [List.all_cons, List.all_cons, ih, okB_two, List.contains_cons]
    have : ((46 : UInt8) == c) = (c == 46) := Bool.beq_comm
    rw [this]
    generalize okB [64] c = a
    generalize (c == 46) = b
    generalize s.all (okB [64]) = d
    generalize s.contains 46 = e
    cases a <;> cases b <;> cases d <;> cases e <;> rfl

theorem vName_eq (s : List UInt8) : vName s = (!s.isEmpty && (text [64] s && !s.contains 46)) := by
  unfold vName text
  rw [all_two]
  generalize s.isEmpty = a
  generalize s.all (okB [64]) = d
  generalize s.contains 46 = e
  generalize decide (s.length ≤ 39) = b
  cases a <;> cases b <;> cases d <;> cases e <;> rfl

theorem contains_snoc (bad : ByteArray) (c : UInt8) (k : Nat) (h : k < bad.size) : (bad.data.toList.take (k + 1)).contains c = ((bad.data.toList.take k).contains c || (c == bad[k])) := by
  rw [take_snoc bad k h, List.contains_eq_any_beq, List.contains_eq_any_beq, List.any_append]; simp

theorem contains_hit (bad : ByteArray) (c : UInt8) (k : Nat) (h : k < bad.size) (e : c = bad[k]) : bad.data.toList.contains c = true := by
  rw [List.contains_iff_mem, e, ByteArray.getElem_eq_getElem_data]; exact List.getElem_mem (by simpa using h)

theorem contains_end (bad : ByteArray) (c : UInt8) (k : Nat) (h : bad.size ≤ k) (ha : (bad.data.toList.take k).contains c = false) : bad.data.toList.contains c = false := by
  rwa [List.take_of_length_le (by simpa using h)] at ha

/-- What '==' on two bytes as numbers says. -/
theorem byte_eq (a b : UInt8) : ((a.toNat : Int) == (b.toNat : Int)) = (a == b) := by
  rw [Bool.eq_iff_iff]; simp only [beq_iff_eq, ← UInt8.toNat_inj]; omega

/-- Empty or not, in the walk's own words. -/
theorem ba_cases (s : ByteArray) : s = ⟨#[]⟩ ∨ (¬ s.toList = [] ∧ (!s.toList.isEmpty) = true ∧ s.data.toList.isEmpty = false ∧ 0 < s.size) := by
  obtain ⟨⟨l⟩⟩ := s
  cases l with
  | nil => exact .inl rfl
  | cons a l => exact .inr ⟨by rw [ByteArray.toList_eq]; simp, by rw [ByteArray.toList_eq]; rfl, rfl, by simp [ByteArray.size]⟩

/-- The index of the first byte c, the length if there is none. -/
def idx (s : List UInt8) (c : UInt8) : Nat := (s.takeWhile (fun b => !(b == c))).length

theorem idx_le (s : List UInt8) (c : UInt8) : idx s c ≤ s.length := by
  unfold idx; exact (List.takeWhile_prefix _).length_le

theorem idx_app (c : UInt8) : ∀ (l r : List UInt8), l.contains c = false → idx (l ++ r) c = l.length + idx r c
  | [], _, _ => by simp
  | b :: l, r, h => by
    have h' : (b == c) = false ∧ l.contains c = false := by
      rw [List.contains_cons, Bool.or_eq_false_iff] at h
      exact ⟨by rw [Bool.beq_comm]; exact h.1, h.2⟩
    have ih := idx_app c l r h'.2
    unfold idx at ih ⊢
    rw [List.cons_append, List.takeWhile_cons, h'.1]
    simp only [Bool.not_false, if_true, List.length_cons]
    omega

theorem idx_none (s : ByteArray) (c : UInt8) (h : s.data.toList.contains c = false) : (idx s.data.toList c : Int) = (s.size : Int) := by
  have := idx_app c s.data.toList [] h
  rw [List.append_nil] at this
  rw [this]; simp [idx]

theorem idx_at (s : ByteArray) (c : UInt8) (k : Nat) (h : k < s.size) (hno : (s.data.toList.take k).contains c = false) (e : s[k] = c) : (idx s.data.toList c : Int) = (k : Int) := by
  have h1 : s.data.toList = s.data.toList.take k ++ s.data.toList.drop k := (List.take_append_drop _ _).symm
  have h2 : s.data.toList.drop k = s[k] :: s.data.toList.drop (k + 1) := by
    rw [List.drop_eq_getElem_cons (by simpa using h)]; rfl
  have h3 : (s.data.toList.take k).length = k := by rw [List.length_take, Nat.min_eq_left (by simpa using Nat.le_of_lt h)]
  rw [h1, idx_app c _ _ hno, h3, h2, e]
  simp [idx]

theorem idx_index (l : List UInt8) (c : UInt8) : Lib.index l [c] = if idx l c < l.length then (idx l c : Int) else -1 := by
  rw [Lib.index_one]
  induction l with
  | nil => rfl
  | cons b l ih =>
    have E : Lib.indexByte (b :: l) c = if b == c then 0 else if Lib.indexByte l c == -1 then -1 else Lib.indexByte l c + 1 := rfl
    rw [E, ih]
    have I : idx (b :: l) c = if b == c then 0 else idx l c + 1 := by
      unfold idx; rw [List.takeWhile_cons]
      cases b == c <;> rfl
    rw [I, List.length_cons]
    cases b == c
    · by_cases h : idx l c < l.length
      · have h1 : idx l c + 1 < l.length + 1 := by omega
        have h2 : ((idx l c : Int) == -1) = false := by rw [beq_eq_false_iff_ne]; omega
        simp only [Bool.false_eq_true, if_false, h, if_true, h1, h2]
        rfl
      · have h1 : ¬ idx l c + 1 < l.length + 1 := by omega
        simp only [Bool.false_eq_true, if_false, h, h1]
        rfl
    · simp

theorem cut_eq (l : List UInt8) (c : UInt8) : Lib.cut l [c] = (l.take (idx l c), if idx l c < l.length then l.drop (idx l c + 1) else [], decide (idx l c < l.length)) := by
  unfold Lib.cut
  rw [idx_index]
  by_cases h : idx l c < l.length
  · have h0 : (0 : Int) ≤ (idx l c : Int) := by omega
    simp only [h, if_true, h0, decide_true]; rfl
  · have h0 : ¬ (0 : Int) ≤ -1 := by omega
    simp only [h, if_false, h0, decide_false]
    rw [List.take_of_length_le (by omega)]

/-- What is behind the first c; empty if there is none. -/
def after (l : List UInt8) (c : UInt8) : List UInt8 := if idx l c < l.length then l.drop (idx l c + 1) else []
/-- Is there a c? -/
def found (l : List UInt8) (c : UInt8) : Bool := decide (idx l c < l.length)

/-- What is in front of the first '@'. -/
def pLocal (s : List UInt8) : List UInt8 := s.take (idx s 64)
def pRealm (s r : List UInt8) : List UInt8 := if found s 64 then after s 64 else r
def pName (s : List UInt8) : List UInt8 := (pLocal s).take (idx (pLocal s) 46)
def pInst (s : List UInt8) : List UInt8 := after (pLocal s) 46
/-- Is what is read valid? -/
def pOk (s r : List UInt8) : Bool := vP (pName s) (pInst s) (pRealm s r)

theorem after_le (l : List UInt8) (c : UInt8) : (after l c).length ≤ l.length := by
  unfold after; split
  · rw [List.length_drop]; omega
  · simp

theorem pLocal_le (s : List UInt8) : (pLocal s).length ≤ s.length := by unfold pLocal; rw [List.length_take]; omega
theorem pName_le (s : List UInt8) : (pName s).length ≤ s.length := by have := pLocal_le s; unfold pName; rw [List.length_take]; omega
theorem pInst_le (s : List UInt8) : (pInst s).length ≤ s.length := by
  have := pLocal_le s
  have := after_le (pLocal s) 46
  unfold pInst; omega
theorem pRealm_le (s r : List UInt8) : (pRealm s r).length ≤ s.length ∨ pRealm s r = r := by
  unfold pRealm; split
  · left; exact after_le _ _
  · exact .inr rfl

theorem cb_nil : Lib.compareBytes [] [] = 0 := rfl
theorem cb_cons (a b : UInt8) (x y : List UInt8) : Lib.compareBytes (a :: x) (b :: y) = if a < b then -1 else if b < a then 1 else Lib.compareBytes x y := rfl

theorem u8_tri (a b : UInt8) : (a < b ∧ ¬ b < a ∧ a ≠ b) ∨ (¬ a < b ∧ b < a ∧ a ≠ b) ∨ (¬ a < b ∧ ¬ b < a ∧ a = b) := by
  simp only [UInt8.lt_iff_toNat_lt, ne_eq, ← UInt8.toNat_inj]; omega

theorem cb_range : ∀ l m : List UInt8, Lib.compareBytes l m = -1 ∨ Lib.compareBytes l m = 0 ∨ Lib.compareBytes l m = 1
  | [], [] => .inr (.inl rfl)
  | [], _ :: _ => .inl rfl
  | _ :: _, [] => .inr (.inr rfl)
  | a :: x, b :: y => by
    rw [cb_cons]
    have := cb_range x y
    split
    · exact .inl rfl
    · split
      · exact .inr (.inr rfl)
      · exact this

theorem cb_less : ∀ l m : List UInt8, Op.bytesLess l m = decide (Lib.compareBytes l m = -1)
  | [], [] => rfl
  | [], _ :: _ => rfl
  | _ :: _, [] => rfl
  | a :: x, b :: y => by
    have ih := cb_less x y
    have e : Op.bytesLess (a :: x) (b :: y) = (decide (a < b) || (a == b && Op.bytesLess x y)) := rfl
    rw [cb_cons, e, ih]
    rcases u8_tri a b with ⟨h1, h2, h3⟩ | ⟨h1, h2, h3⟩ | ⟨h1, h2, h3⟩
    · simp [h1]
    · simp [h1, h2, h3]
    · simp [h3]

theorem cb_eq : ∀ l m : List UInt8, Lib.compareBytes l m = 0 ↔ l = m
  | [], [] => by simp [cb_nil]
  | [], b :: y => by
    have : Lib.compareBytes [] (b :: y) = -1 := rfl
    rw [this]; simp
  | a :: x, [] => by
    have : Lib.compareBytes (a :: x) [] = 1 := rfl
    rw [this]; simp
  | a :: x, b :: y => by
    have ih := cb_eq x y
    rw [cb_cons]
    rcases u8_tri a b with ⟨h1, h2, h3⟩ | ⟨h1, h2, h3⟩ | ⟨h1, h2, h3⟩
    · simp [h1, h3]
    · simp [h1, h2, h3]
    · simp [h3, ih]

theorem cb_neg : ∀ l m : List UInt8, Lib.compareBytes m l = - Lib.compareBytes l m
  | [], [] => rfl
  | [], _ :: _ => rfl
  | _ :: _, [] => rfl
  | a :: x, b :: y => by
    have ih := cb_neg x y
    rw [cb_cons, cb_cons]
    rcases u8_tri a b with ⟨h1, h2, h3⟩ | ⟨h1, h2, h3⟩ | ⟨h1, h2, h3⟩
    · simp [h1, h2]
    · simp [h1, h2]
    · simp [h2, h1, ih]

theorem cb_trans : ∀ l m n : List UInt8, Lib.compareBytes l m ≤ 0 → Lib.compareBytes m n ≤ 0 → Lib.compareBytes l n ≤ 0
  | [], _, [], _, _ => by rw [cb_nil]; omega
  | [], _, _ :: _, _, _ => by
    have : ∀ b y, Lib.compareBytes [] (b :: y) = -1 := fun _ _ => rfl
    rw [this]; omega
  | a :: x, [], n, h, _ => by
    have : Lib.compareBytes (a :: x) [] = 1 := rfl
    omega
  | a :: x, b :: y, [], _, h => by
    have : Lib.compareBytes (b :: y) [] = 1 := rfl
    omega
  | a :: x, b :: y, c :: z, h1, h2 => by
    have ih := cb_trans x y z
    rw [cb_cons] at h1 h2 ⊢
    simp only [UInt8.lt_iff_toNat_lt] at h1 h2 ⊢
    by_cases p1 : a.toNat < b.toNat <;> by_cases p2 : b.toNat < a.toNat <;> by_cases q1 : b.toNat < c.toNat <;> by_cases q2 : c.toNat < b.toNat <;>
      simp only [p1, p2, q1, q2, if_true, if_false] at h1 h2 <;> (try omega) <;>
      (by_cases r1 : a.toNat < c.toNat <;> by_cases r2 : c.toNat < a.toNat <;> simp only [r1, r2, if_true, if_false] <;> first | omega | exact ih h1 h2)

/-- By realm, then by name, then by instance. -/
def cmp (a b c a2 b2 c2 : List UInt8) : Int :=
  if Lib.compareBytes c c2 = 0 then (if Lib.compareBytes a a2 = 0 then Lib.compareBytes b b2 else Lib.compareBytes a a2) else Lib.compareBytes c c2

theorem cmp_neg (a b c a2 b2 c2 : List UInt8) : cmp a2 b2 c2 a b c = - cmp a b c a2 b2 c2 := by
  unfold cmp
  rw [cb_neg c c2, cb_neg a a2, cb_neg b b2]
  by_cases h : Lib.compareBytes c c2 = 0
  · by_cases h' : Lib.compareBytes a a2 = 0
    · simp [h, h']
    · have : ¬ - Lib.compareBytes a a2 = 0 := by omega
      simp [h, h', this]
  · have : ¬ - Lib.compareBytes c c2 = 0 := by omega
    simp [h, this]

theorem cmp_zero (a b c a2 b2 c2 : List UInt8) : cmp a b c a2 b2 c2 = 0 ↔ (a = a2 ∧ b = b2) ∧ c = c2 := by
  unfold cmp
  by_cases h : Lib.compareBytes c c2 = 0
  · by_cases h' : Lib.compareBytes a a2 = 0
    · simp only [h, h', if_true]
      rw [cb_eq] at h h' ⊢
      simp [h, h']
    · simp only [h, h', if_true, if_false]
      rw [cb_eq] at h'
      simp [h']
  · simp only [h, if_false]
    rw [cb_eq] at h
    simp [h]

theorem cmp_range (a b c a2 b2 c2 : List UInt8) : -1 ≤ cmp a b c a2 b2 c2 ∧ cmp a b c a2 b2 c2 ≤ 1 := by
  have h1 := cb_range c c2
  have h2 := cb_range a a2
  have h3 := cb_range b b2
  unfold cmp
  split
  · split <;> omega
  · omega

theorem cmp_trans (a b c a2 b2 c2 a3 b3 c3 : List UInt8) (h1 : cmp a b c a2 b2 c2 ≤ 0) (h2 : cmp a2 b2 c2 a3 b3 c3 ≤ 0) : cmp a b c a3 b3 c3 ≤ 0 := by
  have tc := cb_trans c c2 c3
  have ta := cb_trans a a2 a3
  have tb := cb_trans b b2 b3
  have tc' := cb_trans c3 c c2
  have tc'' := cb_trans c2 c3 c
  have ta' := cb_trans a3 a a2
  have ta'' := cb_trans a2 a3 a
  have n1 := cb_neg c c3
  have n2 := cb_neg c c2
  have n3 := cb_neg c2 c3
  have n4 := cb_neg a a3
  have n5 := cb_neg a a2
  have n6 := cb_neg a2 a3
  unfold cmp at h1 h2 ⊢
  generalize Lib.compareBytes c c2 = x1 at *
  generalize Lib.compareBytes c2 c3 = x2 at *
  generalize Lib.compareBytes c c3 = x3 at *
  generalize Lib.compareBytes a a2 = y1 at *
  generalize Lib.compareBytes a2 a3 = y2 at *
  generalize Lib.compareBytes a a3 = y3 at *
  generalize Lib.compareBytes b b2 = z1 at *
  generalize Lib.compareBytes b2 b3 = z2 at *
  generalize Lib.compareBytes b b3 = z3 at *
  generalize Lib.compareBytes c3 c = x4 at *
  generalize Lib.compareBytes c3 c2 = x5 at *
  generalize Lib.compareBytes c2 c = x6 at *
  generalize Lib.compareBytes a3 a = y4 at *
  generalize Lib.compareBytes a3 a2 = y5 at *
  generalize Lib.compareBytes a2 a = y6 at *
  subst n1 n2 n3 n4 n5 n6
  by_cases p1 : x1 = 0 <;> by_cases p2 : x2 = 0 <;> by_cases p3 : x3 = 0 <;> by_cases q1 : y1 = 0 <;> by_cases q2 : y2 = 0 <;> by_cases q3 : y3 = 0 <;>
    simp only [p1, p2, p3, q1, q2, q3, if_true, if_false] at h1 h2 ⊢ <;> omega

/-- Valid parts are short. -/
theorem vP_short {a b c : List UInt8} (h : vP a b c = true) : (a.length ≤ 39 ∧ b.length ≤ 39 ∧ c.length ≤ 39) ∧ a.isEmpty = false ∧ c.isEmpty = false := by
  unfold vP vName vInst vRealm text at h
  simp only [Bool.and_eq_true, decide_eq_true_eq, Bool.not_eq_true'] at h
  exact ⟨⟨h.1.1.2.2, h.1.2.2, h.2.2.2⟩, h.1.1.1, h.2.1⟩

/-- The text of a principal. -/
def fmt (a b c : List UInt8) : List UInt8 := a ++ ((if b = [] then [] else 46 :: b) ++ 64 :: c)

end S1
end Go.Proofs.Ytkhkmgblgonfoaa
