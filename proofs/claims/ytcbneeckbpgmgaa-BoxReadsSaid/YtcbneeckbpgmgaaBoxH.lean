/-
  The keys, bodies and spoilt bytes that the laws of chapter 4 make; the example that they try first.
-/
import Derived.Test.YtcbneeckbpgmgaaBoxC
import Derived.Deep.RegionLaw
namespace Go.Proofs.Ytcbneeckbpgmgaa
open Go.RowKit

/-- The key of a class and a byte. -/
def keyOf (c n : Int) : Int := c * 72057594037927936 + (1 + n)
theorem keyOf_facts {c n : Int} (hc : c = 1 ∨ c = 2) (n0 : 0 ≤ n) (n1 : n ≤ 255) : S3.vk (keyOf c n) = true ∧ 0 ≤ keyOf c n ∧ keyOf c n ≤ 18446744073709551615 := S4.key_of hc n0 n1

theorem long_any (n : Int) (w : World) (n0 : 0 ≤ n) (n1 : n ≤ 255) : Calls Try.prog 10 #[.int .i64 n] w fun e w' => e = .returned (.int .u64 (keyOf 1 n)) ∧ w = w' := by
  have ho := or64 56 1 (1 + n) (by omega) (by omega) (by show 1 + n < 72057594037927936; omega) (by show 1 * 72057594037927936 + (1 + n) ≤ _; omega)
  go_enter Try.func10, Try.ntmps10
  go_wp2
  go_ret
  exact ⟨ret_int (by unfold keyOf; exact ho), rfl⟩

theorem session_any (n : Int) (w : World) (n0 : 0 ≤ n) (n1 : n ≤ 255) : Calls Try.prog 13 #[.int .i64 n] w fun e w' => e = .returned (.int .u64 (keyOf 2 n)) ∧ w = w' := by
  have ho := or64 56 2 (1 + n) (by omega) (by omega) (by show 1 + n < 72057594037927936; omega) (by show 2 * 72057594037927936 + (1 + n) ≤ _; omega)
  go_enter Try.func13, Try.ntmps13
  go_wp2
  go_ret
  exact ⟨ret_int (by unfold keyOf; exact ho), rfl⟩

set_option maxHeartbeats 800000 in
theorem awake4_any (w : World) : Calls Try.prog 8 #[] w fun e w' => e = .returned (.bool true) ∧ Below w.heap.size w w' := by
  obtain ⟨v1, v2, v3⟩ := keyOf_facts (c := 1) (n := 1) (.inl rfl) (by decide) (by decide)
  have MK := bmake_any 1 (keyOf 1 1) none 0 0 [] w (Sl.nil w) v2 v3
  have HM := S4.mk_ok (kind := 1) (key := keyOf 1 1) (body := []) (by decide) v1 (by decide)
  have HB := Lib.hid (S4.isB_boxOf (kind := 1) (key := keyOf 1 1) (body := []) (by decide) v1 v2 v3 (by decide))
  unfold MadeB at MK
  rw [HM.1, HM.2] at MK
  replace MK := Lib.hid MK
  clear HM v1 v2 v3
  go_enter Try.func8, Try.ntmps8
  go_wp2_with (first | (go_at_call 10; refine (long_any _ _ (by decide) (by decide)).mono ?_; rintro e w' ⟨rfl, rfl⟩))
  refine MK.out.mono ?_
  rintro e w1 ⟨A, n, cap, rfl, hs, hb⟩
  have hl := hs.len
  rw [S4.boxOf_len] at hl
  replace hl : n = 12 := hl.symm
  subst hl
  obtain ⟨b, off, z, rfl, hz, _, _, hc⟩ := hs.row.at (i := 0) (by decide)
  have ez : (66 : Int) = z := by simpa [S4.boxOf] using hz
  subst ez
  rw [Nat.add_zero] at hc
  replace hs := Lib.hid hs
  clear hz
  go_wp2_with (fail)
  refine (bis_any _ _ _ _ _ hs.out).mono ?_
  rintro e w2 ⟨rfl, hb2⟩
  rw [HB.out]
  go_wp2_with (fail)
  go_ret
  exact ⟨rfl, below_keep hb2 hb⟩

/-- A slice of bytes of at most m. -/
def SomeB (m : Nat) (w : World) (e : Ending) (w' : World) : Prop :=
  ∃ A n cap ys, e = .returned (.slice A n cap) ∧ Sl w' A n cap ys ∧ n ≤ m ∧ Below w.heap.size w w' ∧ Fresh w.heap.size A

def sliceLen : Value → Nat
  | .slice _ n _ => n
  | _ => 0

set_option maxHeartbeats 1600000 in
theorem body_any (A : Option Addr) (n cap : Nat) (zs : List Int) (s : Int) (w : World) (h : Sl w A n cap zs) (hn : n ≤ 900) (s0 : 0 ≤ s) (s1 : s ≤ 65535) : Calls Try.prog 9 #[.slice A n cap, .int .u16 s] w (SomeB 1001 w) := by
  have hlen := h.len
  have hrg := Lib.hid h.range
  have Ba := Lib.hid (fun (x : World) (o : Obj) => (Below.refl x.heap.size x).alloc (Nat.le_refl _) o)
  have hR := Lib.hid (h.keep (Ba.out w (.cells #[] 5))).row
  have hO := Lib.hid (Own.new .u8 5 (w := w) (Nat.le_refl _) [] (by decide))
  by_cases h7 : s % 8 = 7
  · have h7' : (s % 8 != 7) = false := by simp; omega
    clear h7
    go_enter Try.func9, Try.ntmps9
    go_wp2_with (at_builtin; refine wpList_push_row rfl (.tmp 6) (.tmp 7) 24 rfl Try.underlying24 u8_infoB (base := w.heap.size) (v := .slice (some ⟨w.heap.size, 0, none⟩) 0 0) (zs := []) (ys := zs) (A := A) (m := n) (c := cap) rfl rfl hO.out hR.out (by simp; omega) (by decide) (by simp) ?_; intro v2 w2 O2 hg2 _; have B2 := Own.grown (Ba.out w _) hO.out hg2; clear hg2)
    clear hlen hR hO
    go_loopw [5] (fun l wr => ∃ ys, ys.length ≤ 1001 ∧ (∀ z ∈ ys, 0 ≤ z ∧ z ≤ 255) ∧ Own .u8 5 wr w.heap.size l ys ∧ Below w.heap.size w wr) (fun l _ => 1001 - sliceLen l)
    case atStart => exact ⟨[] ++ zs, by have := h.len; simp; omega, by rw [List.nil_append]; exact hrg.out, O2, B2⟩
    case round =>
      obtain ⟨ys, hy, hyr, hown, B⟩ := hrel
      obtain ⟨a, m, c, rfl, hs, hfr⟩ := hown.slf hyr
      have hym := hs.len
      have hm2 : m ≤ 1001 := by omega
      replace hym := Lib.hid hym
      replace hs := Lib.hid hs
      have hyn : ∀ z ∈ ys ++ [(m : Int) % 256], 0 ≤ z ∧ z ≤ 255 := by
        intro z hz
        rcases List.mem_append.1 hz with hz | hz
        · exact hyr z hz
        · rw [List.mem_singleton] at hz; subst hz; omega
      replace hyn := Lib.hid hyn
      have hyl := Lib.hid (show ys.length < 1000000 by omega)
      clear hyr hy
      by_cases hlt : (m : Int) < 999 + s / 8 % 3
      · go_wp2_with (at_builtin; refine wpList_push rfl _ _ 24 rfl .u8 5 1 Try.underlying24 u8_infoB w.heap.size _ _ _ rfl rfl rfl hown hyl.out (by decide) B.size ?_; intro v' w4 hown' hgrow _; have B4 := Own.pushed B hown hgrow; clear hgrow; obtain ⟨a4, m4, c4, rfl, hs4⟩ := hown'.sl hyn.out)
        have h4 := hs4.len
        rw [List.length_append, hym.out] at h4
        replace h4 : m + 1 = m4 := h4
        go_roundw
        case rel => exact ⟨_, by rw [List.length_append, hym.out]; simp; omega, hyn.out, hown', B4⟩
        case measure => simp [sliceLen]; omega
      · go_wp2_with (fail)
        go_ret
        exact ⟨a, m, c, _, rfl, hs.out, hm2, B, hfr⟩
  · go_enter Try.func9, Try.ntmps9
    go_wp2_with (at_builtin; refine wpList_push_row rfl (.tmp 6) (.tmp 7) 24 rfl Try.underlying24 u8_infoB (base := w.heap.size) (v := .slice (some ⟨w.heap.size, 0, none⟩) 0 0) (zs := []) (ys := zs) (A := A) (m := n) (c := cap) rfl rfl hO.out hR.out (by simp; omega) (by decide) (by simp) ?_; intro v2 w2 O2 hg2 _; have B2 := Own.grown (Ba.out w _) hO.out hg2; clear hg2)
    obtain ⟨A2, n2, c2, rfl, hs2, hf2⟩ := O2.slf (by rw [List.nil_append]; exact hrg.out)
    go_ret
    exact ⟨A2, n2, c2, _, rfl, hs2, by have := hs2.len; simp at this; omega, B2, hf2⟩

end Go.Proofs.Ytcbneeckbpgmgaa
