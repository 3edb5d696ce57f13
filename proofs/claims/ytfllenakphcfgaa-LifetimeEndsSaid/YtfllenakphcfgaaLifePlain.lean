/-
  Times and lifetimes, as plain numbers.
-/
import Derived.Test.YtfllenakphcfgaaProg
namespace Go.Proofs.Ytfllenakphcfgaa.S2

def isT (n : Int) : Bool := decide (0 ≤ n) && decide (n ≤ 4294967295)
def isL (n : Int) : Bool := decide (0 ≤ n) && decide (n ≤ 255)

theorem isT_yes {n : Int} (h0 : 0 ≤ n) (h1 : n ≤ 4294967295) : isT n = true := by simp [isT]; omega
theorem isT_lo {n : Int} (h0 : n < 0) : isT n = false := by simp [isT]; omega
theorem isT_hi {n : Int} (h0 : 4294967295 < n) : isT n = false := by simp [isT]; omega
theorem isT_cases (n : Int) : (isT n = true ∧ 0 ≤ n ∧ n ≤ 4294967295) ∨ isT n = false := by
  rcases h : isT n
  · right; rfl
  · left; simp [isT] at h; exact ⟨rfl, h.1, h.2⟩
theorem isL_yes {n : Int} (h0 : 0 ≤ n) (h1 : n ≤ 255) : isL n = true := by simp [isL]; omega
theorem isL_lo {n : Int} (h0 : n < 0) : isL n = false := by simp [isL]; omega
theorem isL_hi {n : Int} (h0 : 255 < n) : isL n = false := by simp [isL]; omega
theorem isL_cases (n : Int) : (isL n = true ∧ 0 ≤ n ∧ n ≤ 255) ∨ (isL n = false ∧ n < 0) ∨ (isL n = false ∧ 0 ≤ n ∧ 255 < n) := by
  rcases Int.lt_or_le n 0 with h | h
  · right; left; exact ⟨isL_lo h, h⟩
  · rcases Int.lt_or_le 255 n with g | g
    · right; right; exact ⟨isL_hi g, h, g⟩
    · left; exact ⟨isL_yes h g, h, g⟩
theorem isT_cases3 (n : Int) : (isT n = true ∧ 0 ≤ n ∧ n ≤ 4294967295) ∨ (isT n = false ∧ n < 0) ∨ (isT n = false ∧ 0 ≤ n ∧ 4294967295 < n) := by
  rcases Int.lt_or_le n 0 with h | h
  · right; left; exact ⟨isT_lo h, h⟩
  · rcases Int.lt_or_le 4294967295 n with g | g
    · right; right; exact ⟨isT_hi g, h, g⟩
    · left; exact ⟨isT_yes h g, h, g⟩

/-- The end of a ticket. -/
def endV (i l : Int) : Int := if isT i && isL l then i + 300 * (l + 1) else 0
theorem endV_yes {i l : Int} (hi : isT i = true) (hl : isL l = true) : endV i l = i + 300 * (l + 1) := by simp [endV, hi, hl]
theorem endV_noT {i l : Int} (hi : isT i = false) : endV i l = 0 := by simp [endV, hi]
theorem endV_noL {i l : Int} (hl : isL l = false) : endV i l = 0 := by simp [endV, hl]

/-- The lifetime of a number of seconds, and whether there is one. -/
def fromN (n : Int) : Int := if n < 300 then 0 else min (n / 300 - 1) 255
def fromOk (n : Int) : Bool := decide (300 ≤ n)
theorem from_no {n : Int} (h : n < 300) : fromN n = 0 ∧ fromOk n = false := by simp [fromN, fromOk, h]
theorem from_yes {n : Int} (h : 300 ≤ n) : fromN n = min (n / 300 - 1) 255 ∧ fromOk n = true := by
  constructor
  · unfold fromN; rw [if_neg (by omega)]
  · simp [fromOk, h]

/-- The least of a number and some others. -/
def least (f : Int) (l : List Int) : Int := l.foldl min f
theorem least_snoc (f : Int) (l : List Int) (x : Int) : least f (l ++ [x]) = min (least f l) x := by simp [least, List.foldl_append]
theorem least_le (f : Int) (l : List Int) : least f l ≤ f := by
  induction l generalizing f with
  | nil => exact Int.le_refl _
  | cons x l ih => have h := ih (min f x); show least (min f x) l ≤ f; omega
theorem least_mem (f : Int) (l : List Int) {x : Int} (hx : x ∈ l) : least f l ≤ x := by
  induction l generalizing f with
  | nil => cases hx
  | cons y l ih =>
    show least (min f y) l ≤ x
    rcases List.mem_cons.1 hx with rfl | h
    · have := least_le (min f x) l; omega
    · exact ih _ h
theorem least_ge (f m : Int) (l : List Int) (hf : m ≤ f) (hl : ∀ x ∈ l, m ≤ x) : m ≤ least f l := by
  induction l generalizing f with
  | nil => exact hf
  | cons y l ih =>
    have hy := hl y (List.mem_cons_self ..)
    exact ih _ (by omega) fun x hx => hl x (List.mem_cons_of_mem _ hx)

/-- Up to which lifetime one may go for an end, -1 for none. -/
def cut (now e : Int) : Int := max (-1) ((e - now) / 300 - 1)
theorem cut_min (now a b : Int) : min (cut now a) (cut now b) = cut now (min a b) := by unfold cut; omega
/-- What the reference counts down to. -/
def gl (now want : Int) (l : List Int) : Int := l.foldl (fun m e => min m (cut now e)) (min want 255)
theorem gl_snoc (now want : Int) (l : List Int) (x : Int) : gl now want (l ++ [x]) = min (gl now want l) (cut now x) := by simp [gl, List.foldl_append]
theorem gl_fold (now want f : Int) (l : List Int) : l.foldl (fun m e => min m (cut now e)) (min want (cut now f)) = min want (cut now (least f l)) := by
  induction l generalizing f with
  | nil => rfl
  | cons x l ih =>
    show l.foldl _ (min (min want (cut now f)) (cut now x)) = min want (cut now (least (min f x) l))
    rw [show min (min want (cut now f)) (cut now x) = min want (cut now (min f x)) by rw [← cut_min]; omega]
    exact ih _
theorem gl_eq (now want : Int) (l : List Int) : gl now want l = min want (cut now (least (now + 76800) l)) := by
  rw [← gl_fold]; unfold gl
  rw [show cut now (now + 76800) = 255 by unfold cut; omega]
theorem gl_ge (now want : Int) (l : List Int) (h : 0 ≤ want) : -1 ≤ gl now want l := by rw [gl_eq]; unfold cut; omega
theorem gl_le (now want : Int) (l : List Int) : gl now want l ≤ 255 := by
  rw [gl_eq]; have := least_le (now + 76800) l; unfold cut; omega
theorem gl_want (now want : Int) (l : List Int) : gl now want l ≤ want := by rw [gl_eq]; omega

def grantOk (now want : Int) (l : List Int) : Bool := isT now && decide (0 ≤ want) && decide (0 ≤ gl now want l)
def grantN (now want : Int) (l : List Int) : Int := if grantOk now want l then gl now want l else 0

theorem grant_noT {now want : Int} {l : List Int} (h : isT now = false) : grantOk now want l = false ∧ grantN now want l = 0 := by simp [grantOk, grantN, h]
theorem grant_noW {now want : Int} {l : List Int} (h : want < 0) : grantOk now want l = false ∧ grantN now want l = 0 := by
  have : decide (0 ≤ want) = false := by simp; omega
  simp [grantOk, grantN, this]
theorem grant_noG {now want : Int} {l : List Int} (h : gl now want l < 0) : grantOk now want l = false ∧ grantN now want l = 0 := by
  have : decide (0 ≤ gl now want l) = false := by simp; omega
  simp [grantOk, grantN, this]
theorem grant_yes {now want : Int} {l : List Int} (h : isT now = true) (hw : 0 ≤ want) (hg : 0 ≤ gl now want l) : grantOk now want l = true ∧ grantN now want l = gl now want l := by
  simp [grantOk, grantN, h, hw, hg]
/-- The code's way: the least end first. -/
theorem grant_past {now want : Int} {l : List Int} (h : least (now + 76800) l < now + 300) : grantOk now want l = false ∧ grantN now want l = 0 := by
  apply grant_noG; rw [gl_eq]; unfold cut; omega
theorem grant_room {now want : Int} {l : List Int} (h : isT now = true) (hw : 0 ≤ want) (hl : now + 300 ≤ least (now + 76800) l) :
    grantOk now want l = true ∧ grantN now want l = min (min ((least (now + 76800) l - now) / 300 - 1) 255) want := by
  have hle := least_le (now + 76800) l
  have e : gl now want l = min (min ((least (now + 76800) l - now) / 300 - 1) 255) want := by rw [gl_eq]; unfold cut; omega
  have := grant_yes h hw (l := l) (by rw [e]; omega)
  rw [e] at this; exact this

theorem grant_bounds {now want : Int} {l : List Int} (h : grantOk now want l = true) :
    isT now = true ∧ 0 ≤ grantN now want l ∧ grantN now want l ≤ 255 ∧ grantN now want l ≤ want ∧ ∀ e ∈ l, now + 300 * (grantN now want l + 1) ≤ e := by
  have hN : grantN now want l = gl now want l := by simp [grantN, h]
  simp [grantOk] at h
  obtain ⟨⟨h1, h2⟩, h3⟩ := h
  refine ⟨h1, by omega, by have := gl_le now want l; omega, by have := gl_want now want l; omega, fun e he => ?_⟩
  have hm := least_mem (now + 76800) l he
  rw [hN]
  have e0 := gl_eq now want l
  unfold cut at e0
  omega

theorem least_mono (f : Int) (l : List Int) (g : Int → Int) (h : Int → Int) (hgh : ∀ x, g x ≤ h x) (f' : Int) (hf : f ≤ f') : least f (l.map g) ≤ least f' (l.map h) := by
  induction l generalizing f f' with
  | nil => exact hf
  | cons x l ih =>
    show least (min f (g x)) (l.map g) ≤ least (min f' (h x)) (l.map h)
    exact ih _ _ (by have := hgh x; omega)

/-- A greater wish and further ends never give less. -/
theorem grant_mono {now w w2 : Int} {cs : List Int} {g h : Int → Int} (hgh : ∀ x, g x ≤ h x) (hw : w ≤ w2) (ok : grantOk now w (cs.map g) = true) :
    grantOk now w2 (cs.map h) = true ∧ grantN now w (cs.map g) ≤ grantN now w2 (cs.map h) := by
  have hN : grantN now w (cs.map g) = gl now w (cs.map g) := by simp [grantN, ok]
  simp [grantOk] at ok
  obtain ⟨⟨h1, h2⟩, h3⟩ := ok
  have hm := least_mono (now + 76800) cs g h hgh (now + 76800) (Int.le_refl _)
  have e1 := gl_eq now w (cs.map g)
  have e2 := gl_eq now w2 (cs.map h)
  have hle : gl now w (cs.map g) ≤ gl now w2 (cs.map h) := by unfold cut at e1 e2; omega
  obtain ⟨k1, k2⟩ := grant_yes h1 (by omega : 0 ≤ w2) (l := cs.map h) (by omega)
  exact ⟨k1, by omega⟩

/-- Whether two times are near. -/
def near (a b s : Int) : Bool := isT a && (isT b && (isT s && decide (a - b ≤ s ∧ b - a ≤ s)))
theorem near_comm (a b s : Int) : near a b s = near b a s := by
  unfold near
  rw [show decide (a - b ≤ s ∧ b - a ≤ s) = decide (b - a ≤ s ∧ a - b ≤ s) by rw [decide_eq_decide]; exact And.comm]
  cases isT a <;> cases isT b <;> rfl

/-- What State returns. -/
def stateV (i l n s : Int) : Int := if (isT i && isT n && isL l && isT s) = false then 104 else if n + s < i then 33 else if endV i l + s < n then 32 else 0

end Go.Proofs.Ytfllenakphcfgaa.S2
