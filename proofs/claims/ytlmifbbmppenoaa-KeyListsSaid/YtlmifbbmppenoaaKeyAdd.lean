/-
  What Add of package key returns for an ascending list.
-/
import Derived.Test.YtlmifbbmppenoaaSlicesK
import Derived.Test.YtlmifbbmppenoaaSlicesG
import Derived.Test.YtlmifbbmppenoaaSlicesC
namespace Go.Proofs.Ytlmifbbmppenoaa
open Go.RowKit

theorem Own.somewhere {k : IntKind} {e : TypeId} {w : World} {base : Nat} {v : Value} {zs : List Int} (h : Own k e w base v zs) (hz : 1 ≤ zs.length) : ∃ g cap, v = .slice (some ⟨g, 0, none⟩) zs.length cap ∧ base ≤ g ∧ zs.length ≤ cap ∧ cap ≤ maxLen := by
  rcases h.2 with ⟨_, h2⟩ | ⟨g, cap, cur, h1, h2, _, h3, h4, _⟩
  · omega
  · exact ⟨g, cap, h1, h2, h3, h4⟩

theorem one_range {k : Int} (k0 : 0 ≤ k) (k1 : k ≤ 18446744073709551615) : ∀ n ∈ [k], IntKind.u64.min ≤ n ∧ n ≤ IntKind.u64.max := by
  intro n hn; rw [List.mem_singleton] at hn; subst hn; exact ⟨k0, k1⟩

/-- What Add hands to Concat. -/
theorem three_new (w : World) (k : Int) (t t' : TypeId) {A1 : Option Addr} {n1 : Nat} (c1 : Nat) {y1 : List Int} {A3 : Option Addr} {n3 : Nat} (c3 : Nat) {y3 : List Int} (h1 : RowK .u64 w A1 n1 y1) (h3 : RowK .u64 w A3 n3 y3) (k0 : 0 ≤ k) (k1 : k ≤ 18446744073709551615) :
    Three ((w.alloc (.cells #[.int .u64 k] t)).alloc (.cells #[.slice A1 n1 c1, .slice (some ⟨w.heap.size, 0, none⟩) 1 1, .slice A3 n3 c3] t')).drew (w.heap.size + 1) A1 n1 c1 y1 (some ⟨w.heap.size, 0, none⟩) 1 1 [k] A3 n3 c3 y3 := by
  have B : Below w.heap.size w ((w.alloc (.cells #[.int .u64 k] t)).alloc (.cells #[.slice A1 n1 c1, .slice (some ⟨w.heap.size, 0, none⟩) 1 1, .slice A3 n3 c3] t')).drew := (((Below.refl _ _).alloc (Nat.le_refl _) _).alloc (by simp) _).drew
  refine ⟨by simp [go_sem], by simp [go_sem], by simp [go_sem], h1.keep B, ?_, h3.keep B⟩
  exact RowK.keep ((Below.refl _ _).alloc (Nat.le_refl _) _).drew (RowK.new .u64 w [k] t (one_range k0 k1))

/-- A new row of keys, with its place. -/
def Added (zs : List Int) (w : World) (e : Ending) (w' : World) : Prop := ∃ g m cap, e = .returned (.slice (some ⟨g, 0, none⟩) m cap) ∧ w.heap.size ≤ g ∧ RowK .u64 w' (some ⟨g, 0, none⟩) m zs ∧ m ≤ cap ∧ cap ≤ maxLen ∧ Below w.heap.size w w'

set_option maxHeartbeats 1600000 in
theorem kadd_any (k : Int) (a : Option Addr) (len cap : Nat) (zs : List Int) (w : World) (h : RowK .u64 w a len zs) (ha : a = none ∧ len = 0 ∧ cap = 0 ∨ ∃ b off, a = some ⟨b, off, none⟩) (hlc : len ≤ cap) (hl : len ≤ 90000) (hcm : cap ≤ maxLen) (hs : S3.Asc zs) (k0 : 0 ≤ k) (k1 : k ≤ 18446744073709551615) :
    Calls Try.prog 24 #[.slice a len cap, .int .u64 k] w (Added (S3.add k zs) w) := by
  have hlen := Lib.hid h.len
  unfold maxLen at hcm
  go_enter Try.func24, Try.ntmps24
  go_wp2_with (fail)
  refine (ksearch_any k a len cap zs w h (by omega) hs).mono ?_
  rintro e w' ⟨i, b, rfl, hi, h1, h2, rfl⟩
  have hi' : i ≤ len := by have := hlen.out; omega
  obtain ⟨Z, hZ⟩ : ∃ Z, Z = [] ++ zs.take i ++ [k] ++ zs.drop i := ⟨_, rfl⟩
  have HC : S3.comp Z = S3.add k zs := by rw [hZ]; exact S3.comp_add hs h1 h2
  have HR : ∀ m ∈ Z, IntKind.u64.min ≤ m ∧ m ≤ IntKind.u64.max := by
    intro m hm
    rw [hZ] at hm
    simp only [List.nil_append, List.mem_append] at hm
    rcases hm with (hm | hm) | hm
    · exact h.2.1 m (List.mem_of_mem_take hm)
    · exact one_range k0 k1 m hm
    · exact h.2.1 m (List.mem_of_mem_drop hm)
  have HL : Z.length = len + 1 := by
    have := hlen.out
    rw [hZ]
    simp only [List.nil_append, List.length_append, List.length_take, List.length_drop, List.length_singleton]; omega
  replace HC := Lib.hid HC
  replace HR := Lib.hid HR
  replace HL := Lib.hid HL
  replace hZ := Lib.hid hZ
  clear hs h1 h2 hi
  rcases ha with ⟨rfl, rfl, rfl⟩ | ⟨b', off, rfl⟩
  · have e : i = 0 := by omega
    subst e
    have T := three_new w k 24 33 0 0 (h.cut 0 hi') (h.rest 0 hi' (a' := none) (fun _ _ e _ => by cases e)) k0 k1
    have C4 := kconcat_any _ _ _ _ _ _ _ _ _ _ _ _ _ _ T (by omega) (by omega)
    rw [← hZ.out] at C4
    replace C4 := Lib.hid C4
    clear T
    go_wp2_with (fail)
    go_region_with (first
      | (go_at_call 34; refine C4.out.mono ?_; rintro e w4 ⟨v4, rfl, hown4, hb4⟩; obtain ⟨g4, c4, rfl, hg4, hnc4, hcm4⟩ := hown4.somewhere (by rw [HL.out]; omega); have C5 := Lib.hid (kcompact_any w4 _ g4 Z.length c4 Z hown4 rfl HR.out (by rw [HL.out]; omega) (by unfold maxLen at hcm4; omega) hnc4))
      | (go_at_call 33; refine C5.out.mono ?_; rintro e w5 ⟨rfl, hr5, hg5⟩))
    go_wp2_with (fail)
    go_ret
    have hs4 := hb4.size
    simp at hg4
    refine ⟨g4, _, c4, rfl, by omega, by rw [← HC.out]; exact hr5, Nat.le_trans (S3.comp_len Z) hnc4, hcm4, ?_⟩
    have B4 : Below w.heap.size w w4 := (((Below.refl _ _).alloc (Nat.le_refl _) _).alloc (by simp) _).drew.trans (hb4.mono (by simp; omega))
    exact B4.grown hg5 B4.size (fun b hb => by cases hb; omega)
  · by_cases hci : cap = i
    · have e : i = len := by omega
      subst e
      subst hci
      have T := three_new w k 24 33 cap 0 (h.cut cap hi') (h.rest cap hi' (a' := some ⟨b', off, none⟩) (fun _ _ _ e => absurd e (by omega))) k0 k1
      have C4 := kconcat_any _ _ _ _ _ _ _ _ _ _ _ _ _ _ T (by omega) (by omega)
      rw [← hZ.out, Nat.sub_self] at C4
      replace C4 := Lib.hid C4
      clear T
      go_wp2_with (fail)
      go_region_with (first
        | (go_at_call 34; refine C4.out.mono ?_; rintro e w4 ⟨v4, rfl, hown4, hb4⟩; obtain ⟨g4, c4, rfl, hg4, hnc4, hcm4⟩ := hown4.somewhere (by rw [HL.out]; omega); have C5 := Lib.hid (kcompact_any w4 _ g4 Z.length c4 Z hown4 rfl HR.out (by rw [HL.out]; omega) (by unfold maxLen at hcm4; omega) hnc4))
        | (go_at_call 33; refine C5.out.mono ?_; rintro e w5 ⟨rfl, hr5, hg5⟩))
      go_wp2_with (fail)
      go_ret
      have hs4 := hb4.size
      simp at hg4
      refine ⟨g4, _, c4, rfl, by omega, by rw [← HC.out]; exact hr5, Nat.le_trans (S3.comp_len Z) hnc4, hcm4, ?_⟩
      have B4 : Below w.heap.size w w4 := (((Below.refl _ _).alloc (Nat.le_refl _) _).alloc (by simp) _).drew.trans (hb4.mono (by simp; omega))
      exact B4.grown hg5 B4.size (fun b hb => by cases hb; omega)
    · have T := three_new w k 24 33 cap (cap - i) (h.cut i hi') (h.rest i hi' (a' := some ⟨b', off + i, none⟩) (fun _ _ e _ => by cases e; rfl)) k0 k1
      have C4 := kconcat_any _ _ _ _ _ _ _ _ _ _ _ _ _ _ T (by omega) (by omega)
      rw [← hZ.out] at C4
      replace C4 := Lib.hid C4
      have hic : i ≤ cap := by omega
      clear T
      go_wp2_with (fail)
      go_region_with (first
        | (go_at_call 34; refine C4.out.mono ?_; rintro e w4 ⟨v4, rfl, hown4, hb4⟩; obtain ⟨g4, c4, rfl, hg4, hnc4, hcm4⟩ := hown4.somewhere (by rw [HL.out]; omega); have C5 := Lib.hid (kcompact_any w4 _ g4 Z.length c4 Z hown4 rfl HR.out (by rw [HL.out]; omega) (by unfold maxLen at hcm4; omega) hnc4))
        | (go_at_call 33; refine C5.out.mono ?_; rintro e w5 ⟨rfl, hr5, hg5⟩))
      go_wp2_with (fail)
      go_ret
      have hs4 := hb4.size
      simp at hg4
      refine ⟨g4, _, c4, rfl, by omega, by rw [← HC.out]; exact hr5, Nat.le_trans (S3.comp_len Z) hnc4, hcm4, ?_⟩
      have B4 : Below w.heap.size w w4 := (((Below.refl _ _).alloc (Nat.le_refl _) _).alloc (by simp) _).drew.trans (hb4.mono (by simp; omega))
      exact B4.grown hg5 B4.size (fun b hb => by cases hb; omega)

end Go.Proofs.Ytlmifbbmppenoaa
