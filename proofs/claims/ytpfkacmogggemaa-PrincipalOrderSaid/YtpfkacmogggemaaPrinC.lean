/-
  The law's own helpers, and the names of ticket-granting servers.
-/
import Derived.Test.YtpfkacmogggemaaPrinB
namespace Go.Proofs.Ytpfkacmogggemaa
open Go.RowKit

theorem awake_p : parseV (ByteArray.mk #[114, 99, 109, 100, 46, 104, 111, 115, 116, 46, 109, 105, 116, 64, 65, 84, 72, 69, 78, 65]).data.toList (ByteArray.mk #[88]).data.toList =
    .tuple #[.agg #[.string ⟨#[114, 99, 109, 100]⟩, .string ⟨#[104, 111, 115, 116, 46, 109, 105, 116]⟩, .string ⟨#[65, 84, 72, 69, 78, 65]⟩], .int .i64 0] := by kernel_rfl
theorem awake_q : parseV (ByteArray.mk #[97, 64, 98, 64, 99]).data.toList (ByteArray.mk #[88]).data.toList =
    .tuple #[.agg #[.string ⟨#[]⟩, .string ⟨#[]⟩, .string ⟨#[]⟩], .int .i64 103] := by kernel_rfl

theorem awake_any (w : World) (hm : MaxOk w) :
    Calls Try.prog 8 #[] w fun e w' => e = .returned (.bool true) ∧ Below w.heap.size w w' := by
  go_enter Try.func8, Try.ntmps8
  go_wp2_with (fail)
  refine (parse_any _ _ _ hm (by decide) (by decide)).mono ?_
  rintro e w1 ⟨rfl, hb1⟩
  have hm1 := hm.below hb1
  have p1 := hm1.pos
  rw [awake_p]
  go_wp2_with (fail)
  refine (parse_any _ _ _ ?_ (by decide) (by decide)).mono ?_
  · obtain ⟨m, hm1⟩ := hm1
    exact ⟨m, by go_simp⟩
  rintro e w2 ⟨rfl, hb2⟩
  obtain ⟨hc, hf⟩ := bcell hb2
  have hz := hb2.size
  rw [awake_q]
  have c0 : w2.cell? ⟨w1.heap.size, 0, none⟩ = some (.string ⟨#[114, 99, 109, 100]⟩) := by rw [hc _ _ (by simp)]; simp [go_sem]
  have c1 : w2.cell? ⟨w1.heap.size, 1, none⟩ = some (.string ⟨#[104, 111, 115, 116, 46, 109, 105, 116]⟩) := by rw [hc _ _ (by simp)]; simp [go_sem]
  have c2 : w2.cell? ⟨w1.heap.size, 2, none⟩ = some (.string ⟨#[65, 84, 72, 69, 78, 65]⟩) := by rw [hc _ _ (by simp)]; simp [go_sem]
  clear hc
  simp at hz
  have hz1 : w1.heap.size < w2.heap.size := by omega
  go_wp2_with (fail)
  go_ret
  refine ⟨rfl, ?_⟩
  have s1 := hb1.size
  repeat (first | exact hb1 | apply below_drewN' | apply Below.drew | refine Below.alloc ?_ (by first | omega | (simp; done) | (simp; omega)) _ | refine Below.trans ?_ (hb2.mono (by first | omega | (simp; done) | (simp; omega))))

/-- 'long' says no. -/
theorem long_no (a b c : ByteArray) (w : World) (ha : (a.size : Int) ≤ 100) (hb : (b.size : Int) ≤ 100) (hc : (c.size : Int) ≤ 100) :
    Calls Try.prog 9 #[.agg #[.string a, .string b, .string c]] w fun e w' => e = .returned (.bool false) ∧ Below w.heap.size w w' := by
  go_enter Try.func9, Try.ntmps9
  go_wp2
  go_ret
  exact ⟨ret_bool (by simp; omega), (Below.refl _ _).alloc (Nat.le_refl _) _⟩

/-- 'long' says yes. -/
theorem long_yes (a b c : ByteArray) (w : World) (h : 100 < (a.size : Int) ∨ 100 < (b.size : Int) ∨ 100 < (c.size : Int)) :
    Calls Try.prog 9 #[.agg #[.string a, .string b, .string c]] w fun e w' => e = .returned (.bool true) ∧ Below w.heap.size w w' := by
  by_cases h1 : 100 < (a.size : Int)
  · go_enter Try.func9, Try.ntmps9
    go_wp2
    go_ret
    exact ⟨rfl, (Below.refl _ _).alloc (Nat.le_refl _) _⟩
  · by_cases h2 : 100 < (b.size : Int)
    · go_enter Try.func9, Try.ntmps9
      go_wp2
      go_ret
      exact ⟨rfl, (Below.refl _ _).alloc (Nat.le_refl _) _⟩
    · have h3 : 100 < (c.size : Int) := by omega
      clear h
      go_enter Try.func9, Try.ntmps9
      go_wp2
      go_ret
      exact ⟨rfl, (Below.refl _ _).alloc (Nat.le_refl _) _⟩

theorem tgs_any (r t : ByteArray) (w : World) :
    Calls Try.prog 25 #[.string r, .string t] w fun e w' => e = .returned (.agg #[.string ⟨#[107, 114, 98, 116, 103, 116]⟩, .string t, .string r]) ∧ Below w.heap.size w w' := by
  go_enter Try.func25, Try.ntmps25
  go_wp2
  refine bodyPost_ret (v := .agg #[.string ⟨#[107, 114, 98, 116, 103, 116]⟩, .string t, .string r]) (by simp [results, Try.results25, go_sem]) rfl ⟨rfl, ?_⟩
  repeat (first | exact Below.refl _ _ | apply below_drewN' | apply Below.drew | refine Below.setCell ?_ (by simp) _ | refine Below.alloc ?_ (by first | omega | (simp; done) | (simp; omega)) _)

theorem isTgs_any (a b c : ByteArray) (w : World) :
    Calls Try.prog 26 #[.agg #[.string a, .string b, .string c]] w fun e w' => e = .returned (.bool (a.toList == [107, 114, 98, 116, 103, 116])) ∧ Below w.heap.size w w' := by
  go_enter Try.func26, Try.ntmps26
  go_wp2
  go_ret
  exact ⟨rfl, (Below.refl _ _).alloc (Nat.le_refl _) _⟩

end Go.Proofs.Ytpfkacmogggemaa
