/-
  The law PrincipalTgs: the names of ticket-granting servers.
-/
import Derived.Test.YtpfkacmogggemaaPrinC
import Derived.Deep.RegionHeld3
namespace Go.Proofs.Ytpfkacmogggemaa
open Go.RowKit

set_option maxHeartbeats 1600000 in
theorem tgsLaw_walk (r t a b c : ByteArray) (w : World) (hm : MaxOk w) (hr : r.size ≤ maxLen) (ht : t.size ≤ maxLen) (ha : a.size ≤ maxLen) (hb : b.size ≤ maxLen) (hc : c.size ≤ maxLen) :
    Calls Try.prog 7 #[.string r, .string t, .agg #[.string a, .string b, .string c]] w fun e w' => e = .returned (.bool true) ∧ Below w.heap.size w w' := by
  unfold maxLen at hr ht ha hb hc
  by_cases h1 : 100 < (r.size : Int) ∨ 100 < (t.size : Int) ∨ (100 < (a.size : Int) ∨ 100 < (b.size : Int) ∨ 100 < (c.size : Int))
  · by_cases g1 : 100 < (r.size : Int) ∨ 100 < (t.size : Int)
    · have hp := hm.pos
      clear h1
      have g2 : (decide (100 < (r.size : Int)) || decide (100 < (t.size : Int))) = true := by simpa using g1
      have G1 := Lib.hid g1
      clear g1
      go_enter Try.func7, Try.ntmps7
      go_wp2_with (fail)
      refine (awake_any _ ?_).mono ?_
      · obtain ⟨m, hm⟩ := hm
        exact ⟨m, by go_simp⟩
      rintro e w1 ⟨rfl, hb1⟩
      go_wp2_with (fail)
      all_goals
        go_ret
        exact ⟨rfl, ((Below.refl _ _).alloc (Nat.le_refl _) _).trans (hb1.mono (by simp))⟩
    · have g3 : 100 < (a.size : Int) ∨ 100 < (b.size : Int) ∨ 100 < (c.size : Int) := by omega
      have k1 : (r.size : Int) ≤ 100 := by omega
      have k2 : (t.size : Int) ≤ 100 := by omega
      have hp := hm.pos
      have G3 := Lib.hid g3
      clear h1 g1 g3
      go_enter Try.func7, Try.ntmps7
      go_wp2_with (fail)
      refine (awake_any _ ?_).mono ?_
      · obtain ⟨m, hm⟩ := hm
        exact ⟨m, by go_simp⟩
      rintro e w1 ⟨rfl, hb1⟩
      obtain ⟨hc1, hf1⟩ := bcell hb1
      have z1 : w.heap.size < w1.heap.size := by have := hb1.size; simp at this; omega
      have c0 : w1.cell? ⟨w.heap.size, 0, none⟩ = some (.string a) := by rw [hc1 _ _ (by simp)]; simp [go_sem]
      have c1 : w1.cell? ⟨w.heap.size, 1, none⟩ = some (.string b) := by rw [hc1 _ _ (by simp)]; simp [go_sem]
      have c2 : w1.cell? ⟨w.heap.size, 2, none⟩ = some (.string c) := by rw [hc1 _ _ (by simp)]; simp [go_sem]
      clear hc1 hf1
      go_wp2_with (fail)
      refine (long_yes _ _ _ _ G3.out).mono ?_
      rintro e w2 ⟨rfl, hb2⟩
      go_wp2_with (fail)
      go_ret
      exact ⟨rfl, (((Below.refl _ _).alloc (Nat.le_refl _) _).trans (hb1.mono (by simp))).trans (hb2.mono (by omega))⟩
  · have k1 : (r.size : Int) ≤ 100 := by omega
    have k2 : (t.size : Int) ≤ 100 := by omega
    have k3 : (a.size : Int) ≤ 100 := by omega
    have k4 : (b.size : Int) ≤ 100 := by omega
    have k5 : (c.size : Int) ≤ 100 := by omega
    have hp := hm.pos
    clear h1
    go_enter Try.func7, Try.ntmps7
    go_wp2_with (fail)
    refine (awake_any _ ?_).mono ?_
    · obtain ⟨m, hm⟩ := hm
      exact ⟨m, by go_simp⟩
    rintro e w1 ⟨rfl, hb1⟩
    obtain ⟨hc1, hf1⟩ := bcell hb1
    have z1 : w.heap.size < w1.heap.size := by have := hb1.size; simp at this; omega
    have c0 : w1.cell? ⟨w.heap.size, 0, none⟩ = some (.string a) := by rw [hc1 _ _ (by simp)]; simp [go_sem]
    have c1 : w1.cell? ⟨w.heap.size, 1, none⟩ = some (.string b) := by rw [hc1 _ _ (by simp)]; simp [go_sem]
    have c2 : w1.cell? ⟨w.heap.size, 2, none⟩ = some (.string c) := by rw [hc1 _ _ (by simp)]; simp [go_sem]
    clear hc1 hf1
    go_wp2_with (fail)
    refine (long_no _ _ _ _ k3 k4 k5).mono ?_
    rintro e w2 ⟨rfl, hb2⟩
    obtain ⟨hc2, hf2⟩ := bcell hb2
    have z2 : w.heap.size < w2.heap.size := by have := hb2.size; omega
    have d0 : w2.cell? ⟨w.heap.size, 0, none⟩ = some (.string a) := by rw [hc2 _ _ z1]; exact c0
    have d1 : w2.cell? ⟨w.heap.size, 1, none⟩ = some (.string b) := by rw [hc2 _ _ z1]; exact c1
    have d2 : w2.cell? ⟨w.heap.size, 2, none⟩ = some (.string c) := by rw [hc2 _ _ z1]; exact c2
    clear hc2 hf2 c0 c1 c2
    go_wp2_with (fail)
    refine (tgs_any _ _ _).mono ?_
    rintro e w3 ⟨rfl, hb3⟩
    obtain ⟨hc3, hf3⟩ := bcell hb3
    have z3 : w.heap.size < w3.heap.size := by have := hb3.size; omega
    have c0 : w3.cell? ⟨w.heap.size, 0, none⟩ = some (.string a) := by rw [hc3 _ _ z2]; exact d0
    have c1 : w3.cell? ⟨w.heap.size, 1, none⟩ = some (.string b) := by rw [hc3 _ _ z2]; exact d1
    have c2 : w3.cell? ⟨w.heap.size, 2, none⟩ = some (.string c) := by rw [hc3 _ _ z2]; exact d2
    clear hc3 hf3 d0 d1 d2
    go_wp2_with (fail)
    have hB : Below w.heap.size w (w3.alloc (Obj.cells #[.string ⟨#[107, 114, 98, 116, 103, 116]⟩, .string t, .string r] 23)) := by
      have s1 := hb1.size
      have s2 := hb2.size
      have s3 := hb3.size
      simp at s1
      exact (((((Below.refl _ _).alloc (Nat.le_refl _) _).trans (hb1.mono (by simp))).trans (hb2.mono (by omega))).trans (hb3.mono (by omega))).alloc (by omega) _
    go_region_held3 (fun W => Below w.heap.size w W ∧ w3.heap.size < W.heap.size ∧ W.cell? ⟨w.heap.size, 0, none⟩ = some (.string a) ∧ W.cell? ⟨w.heap.size, 1, none⟩ = some (.string b) ∧ W.cell? ⟨w.heap.size, 2, none⟩ = some (.string c) ∧
        W.cell? ⟨w3.heap.size, 0, none⟩ = some (.string ⟨#[107, 114, 98, 116, 103, 116]⟩) ∧ W.cell? ⟨w3.heap.size, 1, none⟩ = some (.string t) ∧ W.cell? ⟨w3.heap.size, 2, none⟩ = some (.string r)) (first | (go_keep; done) | ((repeat' apply And.intro) <;> first | (go_keep; done) | exact size_keep hb4 (by go_keep) | exact cell_keep hb4 (by go_keep) | exact hB.drew | exact below_keep hb4 (by go_keep)))
      (first | (go_at_call 26; refine (isTgs_any _ _ _ _).mono ?_; rintro e w4 ⟨rfl, hb4⟩))
    go_wp2_with (fail)
    go_ret
    exact ⟨ret_bool (by simp), by simp [*]⟩

end Go.Proofs.Ytpfkacmogggemaa
