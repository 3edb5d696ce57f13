/-
  Boxes, as lists of numbers: what Make, Read, Open and Is of chapter 4 say of them.
-/
import Derived.Test.YtcbneeckbpgmgaaBytesPlain
namespace Go.Proofs.Ytcbneeckbpgmgaa.S4

def isK (n : Int) : Bool := decide (1 ≤ n) && decide (n ≤ 10)
theorem isK_cases (n : Int) : (isK n = true ∧ 1 ≤ n ∧ n ≤ 10) ∨ (isK n = false ∧ n < 1) ∨ (isK n = false ∧ 1 ≤ n ∧ 10 < n) := by
  rcases Int.lt_or_le n 1 with h | h
  · right; left; exact ⟨by simp [isK]; omega, h⟩
  · rcases Int.lt_or_le 10 n with g | g
    · right; right; exact ⟨by simp [isK]; omega, h, g⟩
    · left; exact ⟨by simp [isK]; omega, h, g⟩
theorem isK_iff {n : Int} : isK n = true ↔ 1 ≤ n ∧ n ≤ 10 := by simp [isK]

/-- The bytes of a box. -/
def boxOf (kind key : Int) (body : List Int) : List Int := 66 :: kind :: (S3.bytes8 key ++ ((body.length : Int) / 256 :: (body.length : Int) % 256 :: body))
def mkE (kind key : Int) (body : List Int) : Int := if isK kind = false then 104 else if S3.vk key = false then 10 else if 1000 < (body.length : Int) then 105 else 0
def mkB (kind key : Int) (body : List Int) : List Int := if mkE kind key body = 0 then boxOf kind key body else []

theorem mk_kind {kind key : Int} {body : List Int} (h : isK kind = false) : mkE kind key body = 104 ∧ mkB kind key body = [] := by
  have e : mkE kind key body = 104 := by simp [mkE, h]
  exact ⟨e, by unfold mkB; rw [e]; rfl⟩
theorem mk_key {kind key : Int} {body : List Int} (h : isK kind = true) (g : S3.vk key = false) : mkE kind key body = 10 ∧ mkB kind key body = [] := by
  have e : mkE kind key body = 10 := by simp [mkE, h, g]
  exact ⟨e, by unfold mkB; rw [e]; rfl⟩
theorem mk_long {kind key : Int} {body : List Int} (h : isK kind = true) (g : S3.vk key = true) (l : 1000 < (body.length : Int)) : mkE kind key body = 105 ∧ mkB kind key body = [] := by
  have e : mkE kind key body = 105 := by simp only [mkE, h, g]; rw [if_neg (by decide), if_neg (by decide), if_pos l]
  exact ⟨e, by unfold mkB; rw [e]; rfl⟩
theorem mk_ok {kind key : Int} {body : List Int} (h : isK kind = true) (g : S3.vk key = true) (l : (body.length : Int) ≤ 1000) : mkE kind key body = 0 ∧ mkB kind key body = boxOf kind key body := by
  have e : mkE kind key body = 0 := by simp only [mkE, h, g]; rw [if_neg (by decide), if_neg (by decide), if_neg (by omega)]
  exact ⟨e, by unfold mkB; rw [e]; rfl⟩
theorem boxOf_len (kind key : Int) (body : List Int) : (boxOf kind key body).length = 12 + body.length := by simp [boxOf, S3.bytes8]; omega
theorem boxOf_range {kind key : Int} {body : List Int} (h : isK kind = true) (l : (body.length : Int) ≤ 1000) (hb : ∀ n ∈ body, 0 ≤ n ∧ n ≤ 255) : ∀ n ∈ boxOf kind key body, 0 ≤ n ∧ n ≤ 255 := by
  rw [isK_iff] at h
  intro n hn
  unfold boxOf at hn
  rcases List.mem_cons.1 hn with rfl | hn
  · omega
  rcases List.mem_cons.1 hn with rfl | hn
  · omega
  rcases List.mem_append.1 hn with hn | hn
  · exact S3.bytes8_range _ n hn
  rcases List.mem_cons.1 hn with rfl | hn
  · omega
  rcases List.mem_cons.1 hn with rfl | hn
  · omega
  exact hb n hn
theorem mkB_range {kind key : Int} {body : List Int} (hb : ∀ n ∈ body, 0 ≤ n ∧ n ≤ 255) : ∀ n ∈ mkB kind key body, 0 ≤ n ∧ n ≤ 255 := by
  rcases h : isK kind
  · rw [(mk_kind h).2]; simp
  · rcases g : S3.vk key
    · rw [(mk_key h g).2]; simp
    · rcases Int.lt_or_le 1000 (body.length : Int) with l | l
      · rw [(mk_long h g l).2]; simp
      · rw [(mk_ok h g l).2]; exact boxOf_range h l hb
theorem mkB_len (kind key : Int) (body : List Int) : (mkB kind key body).length ≤ 12 + body.length := by
  rcases h : isK kind
  · rw [(mk_kind h).2]; simp
  · rcases g : S3.vk key
    · rw [(mk_key h g).2]; simp
    · rcases Int.lt_or_le 1000 (body.length : Int) with l | l
      · rw [(mk_long h g l).2]; simp
      · rw [(mk_ok h g l).2, boxOf_len]; omega

def at0 (zs : List Int) (i : Nat) : Int := zs.getD i 0
def lenOf (zs : List Int) : Int := at0 zs 10 * 256 + at0 zs 11
def keyAt (zs : List Int) : List Int := (zs.drop 2).take 8
def bad (zs : List Int) : Bool := decide (at0 zs 0 ≠ 66) || !isK (at0 zs 1) || !S3.readOk (keyAt zs) || decide (1000 < lenOf zs)
def rdE (zs : List Int) : Int := if zs.length < 12 then 101 else if bad zs then 100 else if (zs.length : Int) < 12 + lenOf zs then 101 else 0
def rdK (zs : List Int) : Int := if rdE zs = 0 then at0 zs 1 else 0
def rdY (zs : List Int) : Int := if rdE zs = 0 then S3.readN (keyAt zs) else 0
def rdB (zs : List Int) : List Int := if rdE zs = 0 then (zs.drop 12).take (lenOf zs).toNat else []
def rdN (zs : List Int) : Int := if rdE zs = 0 then 12 + lenOf zs else 0
def isB (zs : List Int) : Bool := decide (rdE zs = 0) && decide (rdN zs = (zs.length : Int))
def opOk (zs : List Int) (kind key : Int) : Bool := isB zs && decide (rdK zs = kind) && decide (rdY zs = key)
def opB (zs : List Int) (kind key : Int) : List Int := if opOk zs kind key then rdB zs else []

theorem rd_err {zs : List Int} (h : rdE zs ≠ 0) : rdK zs = 0 ∧ rdY zs = 0 ∧ rdB zs = [] ∧ rdN zs = 0 := by simp [rdK, rdY, rdB, rdN, h]
theorem rd_short {zs : List Int} (h : (zs.length : Int) < 12) : rdE zs = 101 ∧ rdK zs = 0 ∧ rdY zs = 0 ∧ rdB zs = [] ∧ rdN zs = 0 := by
  have e : rdE zs = 101 := by unfold rdE; rw [if_pos (by omega)]
  exact ⟨e, rd_err (by rw [e]; decide)⟩
theorem rd_bad {zs : List Int} (h : ¬ (zs.length : Int) < 12) (g : bad zs = true) : rdE zs = 100 ∧ rdK zs = 0 ∧ rdY zs = 0 ∧ rdB zs = [] ∧ rdN zs = 0 := by
  have e : rdE zs = 100 := by unfold rdE; rw [if_neg (by omega), if_pos g]
  exact ⟨e, rd_err (by rw [e]; decide)⟩
theorem rd_cut {zs : List Int} (h : ¬ (zs.length : Int) < 12) (g : bad zs = false) (l : (zs.length : Int) < 12 + lenOf zs) : rdE zs = 101 ∧ rdK zs = 0 ∧ rdY zs = 0 ∧ rdB zs = [] ∧ rdN zs = 0 := by
  have e : rdE zs = 101 := by unfold rdE; rw [if_neg (by omega), if_neg (by rw [g]; decide), if_pos l]
  exact ⟨e, rd_err (by rw [e]; decide)⟩
theorem rd_ok {zs : List Int} (h : ¬ (zs.length : Int) < 12) (g : bad zs = false) (l : ¬ (zs.length : Int) < 12 + lenOf zs) : rdE zs = 0 ∧ rdK zs = at0 zs 1 ∧ rdY zs = S3.readN (keyAt zs) ∧ rdB zs = (zs.drop 12).take (lenOf zs).toNat ∧ rdN zs = 12 + lenOf zs := by
  have e : rdE zs = 0 := by unfold rdE; rw [if_neg (by omega), if_neg (by rw [g]; decide), if_neg l]
  exact ⟨e, by simp [rdK, e], by simp [rdY, e], by simp [rdB, e], by simp [rdN, e]⟩

theorem bad_parts {zs : List Int} (g : bad zs = false) : at0 zs 0 = 66 ∧ isK (at0 zs 1) = true ∧ S3.readOk (keyAt zs) = true ∧ lenOf zs ≤ 1000 := by
  unfold bad at g
  simp only [Bool.or_eq_false_iff, decide_eq_false_iff_not, Bool.not_eq_false'] at g
  obtain ⟨⟨⟨h1, h2⟩, h3⟩, h4⟩ := g
  exact ⟨by simpa using h1, h2, h3, by omega⟩
theorem good_parts {zs : List Int} (h1 : at0 zs 0 = 66) (h2 : isK (at0 zs 1) = true) (h3 : S3.readOk (keyAt zs) = true) (h4 : lenOf zs ≤ 1000) : bad zs = false := by
  unfold bad
  simp only [h1, h2, h3]
  simp; omega
theorem bad_yes {zs : List Int} (h : at0 zs 0 ≠ 66 ∨ isK (at0 zs 1) = false ∨ S3.readOk (keyAt zs) = false ∨ 1000 < lenOf zs) : bad zs = true := by
  rcases e : bad zs
  · obtain ⟨h1, h2, h3, h4⟩ := bad_parts e
    rcases h with h | h | h | h
    · exact absurd h1 h
    · rw [h2] at h; cases h
    · rw [h3] at h; cases h
    · omega
  · rfl

theorem rdB_range {zs : List Int} (hb : ∀ n ∈ zs, 0 ≤ n ∧ n ≤ 255) : ∀ n ∈ rdB zs, 0 ≤ n ∧ n ≤ 255 := by
  intro n hn
  unfold rdB at hn
  split at hn
  · exact hb n (List.mem_of_mem_drop (List.mem_of_mem_take hn))
  · cases hn

/-- A box, with whatever behind it, is read as it was made. -/
theorem rd_boxOf {kind key : Int} {body : List Int} (rest : List Int) (h : isK kind = true) (g : S3.vk key = true) (k0 : 0 ≤ key) (k1 : key ≤ 18446744073709551615) (l : (body.length : Int) ≤ 1000) :
    rdE (boxOf kind key body ++ rest) = 0 ∧ rdK (boxOf kind key body ++ rest) = kind ∧ rdY (boxOf kind key body ++ rest) = key ∧ rdB (boxOf kind key body ++ rest) = body ∧ rdN (boxOf kind key body ++ rest) = 12 + (body.length : Int) := by
  have ek : keyAt (boxOf kind key body ++ rest) = S3.bytes8 key := by simp [keyAt, boxOf, S3.bytes8]
  have e0 : at0 (boxOf kind key body ++ rest) 0 = 66 := by simp [at0, boxOf]
  have e1 : at0 (boxOf kind key body ++ rest) 1 = kind := by simp [at0, boxOf]
  have el : lenOf (boxOf kind key body ++ rest) = (body.length : Int) := by
    simp [lenOf, at0, boxOf, S3.bytes8]; omega
  have eb : ((boxOf kind key body ++ rest).drop 12).take (lenOf (boxOf kind key body ++ rest)).toNat = body := by
    rw [el]; simp [boxOf, S3.bytes8]
  obtain ⟨r1, r2⟩ := S3.read_bytes8 k0 k1
  have hl : ¬ ((boxOf kind key body ++ rest).length : Int) < 12 := by rw [List.length_append, boxOf_len]; omega
  have hl2 : ¬ ((boxOf kind key body ++ rest).length : Int) < 12 + lenOf (boxOf kind key body ++ rest) := by rw [el, List.length_append, boxOf_len]; omega
  have hb : bad (boxOf kind key body ++ rest) = false := good_parts e0 (by rw [e1]; exact h) (by rw [ek, r1]; exact g) (by rw [el]; exact l)
  obtain ⟨h1, h2, h3, h4, h5⟩ := rd_ok hl hb hl2
  exact ⟨h1, by rw [h2, e1], by rw [h3, ek, r2, if_pos g], by rw [h4, eb], by rw [h5, el]⟩
theorem isB_boxOf {kind key : Int} {body : List Int} (h : isK kind = true) (g : S3.vk key = true) (k0 : 0 ≤ key) (k1 : key ≤ 18446744073709551615) (l : (body.length : Int) ≤ 1000) : isB (boxOf kind key body) = true := by
  obtain ⟨h1, _, _, _, h5⟩ := rd_boxOf [] h g k0 k1 l
  rw [List.append_nil] at h1 h5
  unfold isB
  rw [h1, h5, boxOf_len]; simp
theorem isB_more {kind key : Int} {body : List Int} (z : Int) (h : isK kind = true) (g : S3.vk key = true) (k0 : 0 ≤ key) (k1 : key ≤ 18446744073709551615) (l : (body.length : Int) ≤ 1000) : isB (boxOf kind key body ++ [z]) = false := by
  obtain ⟨h1, _, _, _, h5⟩ := rd_boxOf [z] h g k0 k1 l
  unfold isB
  rw [h1, h5, List.length_append, boxOf_len]; simp; omega
theorem open_boxOf {kind key : Int} {body : List Int} (h : isK kind = true) (g : S3.vk key = true) (k0 : 0 ≤ key) (k1 : key ≤ 18446744073709551615) (l : (body.length : Int) ≤ 1000) (kind' key' : Int) :
    opOk (boxOf kind key body) kind' key' = (decide (kind = kind') && decide (key = key')) ∧ opB (boxOf kind key body) kind' key' = if kind = kind' ∧ key = key' then body else [] := by
  obtain ⟨_, h2, h3, h4, _⟩ := rd_boxOf [] h g k0 k1 l
  rw [List.append_nil] at h2 h3 h4
  have e : opOk (boxOf kind key body) kind' key' = (decide (kind = kind') && decide (key = key')) := by
    unfold opOk; rw [isB_boxOf h g k0 k1 l, h2, h3, Bool.true_and]
  refine ⟨e, ?_⟩
  unfold opB; rw [e, h4]; simp
theorem boxOf_inj {kind key kind' key' : Int} {body body' : List Int} (h : isK kind = true) (g : S3.vk key = true) (k0 : 0 ≤ key) (k1 : key ≤ 18446744073709551615) (l : (body.length : Int) ≤ 1000)
    (h' : isK kind' = true) (g' : S3.vk key' = true) (k0' : 0 ≤ key') (k1' : key' ≤ 18446744073709551615) (l' : (body'.length : Int) ≤ 1000) (e : boxOf kind key body = boxOf kind' key' body') : kind = kind' ∧ key = key' ∧ body = body' := by
  obtain ⟨_, h2, h3, h4, _⟩ := rd_boxOf [] h g k0 k1 l
  obtain ⟨_, q2, q3, q4, _⟩ := rd_boxOf [] h' g' k0' k1' l'
  rw [e] at h2 h3 h4
  exact ⟨h2.symm.trans q2, h3.symm.trans q3, h4.symm.trans q4⟩

/-- A key from its class and a byte. -/
theorem key_of {c n : Int} (hc : c = 1 ∨ c = 2) (n0 : 0 ≤ n) (n1 : n ≤ 255) : S3.vk (c * 72057594037927936 + (1 + n)) = true ∧ 0 ≤ c * 72057594037927936 + (1 + n) ∧ c * 72057594037927936 + (1 + n) ≤ 18446744073709551615 := by
  refine ⟨?_, ?_, ?_⟩
  · rw [S3.vk_iff]; omega
  all_goals omega

end Go.Proofs.Ytcbneeckbpgmgaa.S4
