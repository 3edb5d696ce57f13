/-
  The realms, users and longest names of the laws' data.
-/
import Derived.Test.YtkhkmgblgonfoaaQBase
import Derived.LoopN
import Derived.IntWalk
import Derived.Deep.RegionWith
namespace Go.Proofs.Ytkhkmgblgonfoaa
open Go.RowKit

def realmS (n : Int) : ByteArray := if n % 3 = 0 then ⟨#[65, 84, 72]⟩ else if n % 3 = 1 then ⟨#[66, 79, 83]⟩ else ⟨#[67, 65, 77]⟩
def userS (n : Int) : ByteArray := if n % 3 = 0 then ⟨#[97, 110, 110]⟩ else if n % 3 = 1 then ⟨#[98, 111, 98]⟩ else ⟨#[99, 97, 116]⟩
theorem mod3 (n : Int) : n % 3 = 0 ∨ n % 3 = 1 ∨ n % 3 = 2 := by omega
theorem realm_0 {n : Int} (h : n % 3 = 0) : realmS n = ⟨#[65, 84, 72]⟩ := by unfold realmS; rw [if_pos h]
theorem realm_1 {n : Int} (h : n % 3 = 1) : realmS n = ⟨#[66, 79, 83]⟩ := by unfold realmS; rw [if_neg (by omega), if_pos h]
theorem realm_2 {n : Int} (h : n % 3 = 2) : realmS n = ⟨#[67, 65, 77]⟩ := by unfold realmS; rw [if_neg (by omega), if_neg (by omega)]
theorem user_0 {n : Int} (h : n % 3 = 0) : userS n = ⟨#[97, 110, 110]⟩ := by unfold userS; rw [if_pos h]
theorem user_1 {n : Int} (h : n % 3 = 1) : userS n = ⟨#[98, 111, 98]⟩ := by unfold userS; rw [if_neg (by omega), if_pos h]
theorem user_2 {n : Int} (h : n % 3 = 2) : userS n = ⟨#[99, 97, 116]⟩ := by unfold userS; rw [if_neg (by omega), if_neg (by omega)]
theorem realm_cases (n : Int) : realmS n = ⟨#[65, 84, 72]⟩ ∨ realmS n = ⟨#[66, 79, 83]⟩ ∨ realmS n = ⟨#[67, 65, 77]⟩ := by
  rcases mod3 n with h | h | h
  · exact .inl (realm_0 h)
  · exact .inr (.inl (realm_1 h))
  · exact .inr (.inr (realm_2 h))
theorem user_cases (n : Int) : userS n = ⟨#[97, 110, 110]⟩ ∨ userS n = ⟨#[98, 111, 98]⟩ ∨ userS n = ⟨#[99, 97, 116]⟩ := by
  rcases mod3 n with h | h | h
  · exact .inl (user_0 h)
  · exact .inr (.inl (user_1 h))
  · exact .inr (.inr (user_2 h))

theorem realms_any (w : World) : Calls Try.prog 85 #[] w fun e w' => e = .returned (.slice (some ⟨w.heap.size, 0, none⟩) 3 3) ∧ w' = w.alloc (.cells #[.string ⟨#[65, 84, 72]⟩, .string ⟨#[66, 79, 83]⟩, .string ⟨#[67, 65, 77]⟩] 9) := by
  go_enter Try.func85, Try.ntmps85
  go_wp2
  go_ret
  exact ⟨rfl, rfl⟩

theorem realm_any (n : Int) (w : World) (n0 : 0 ≤ n) (n1 : n ≤ 255) : Calls Try.prog 57 #[.int .i64 n] w fun e w' => e = .returned (.string (realmS n)) ∧ Below w.heap.size w w' := by
  rcases mod3 n with h | h | h
  · have HR := Lib.hid (realm_0 h)
    go_enter Try.func57, Try.ntmps57
    go_wp2_with (go_at_call 85; refine (realms_any _).mono ?_; rintro e w' ⟨rfl, rfl⟩)
    go_ret
    exact ⟨by rw [HR.out]; rfl, (Below.refl _ _).alloc (Nat.le_refl _) _⟩
  · have HR := Lib.hid (realm_1 h)
    go_enter Try.func57, Try.ntmps57
    go_wp2_with (go_at_call 85; refine (realms_any _).mono ?_; rintro e w' ⟨rfl, rfl⟩)
    go_ret
    exact ⟨by rw [HR.out]; rfl, (Below.refl _ _).alloc (Nat.le_refl _) _⟩
  · have HR := Lib.hid (realm_2 h)
    go_enter Try.func57, Try.ntmps57
    go_wp2_with (go_at_call 85; refine (realms_any _).mono ?_; rintro e w' ⟨rfl, rfl⟩)
    go_ret
    exact ⟨by rw [HR.out]; rfl, (Below.refl _ _).alloc (Nat.le_refl _) _⟩

/-- Some n's. -/
def nn (k : Nat) : ByteArray := ⟨(List.replicate k (110 : UInt8)).toArray⟩
theorem nn_snoc (k : Nat) : nn k ++ ⟨#[110]⟩ = nn (k + 1) := by
  refine ByteArray.ext (Array.ext' ?_)
  simp [nn, ByteArray.data_append, List.replicate_succ']
theorem nn_size (k : Nat) : (nn k).size = k := by unfold nn; rw [ByteArray.size]; simp
theorem nn_cut : (nn 39).extract 0 38 = nn 38 := by decide

set_option maxHeartbeats 800000 in
theorem longest_any (m : Int) (w : World) (hm : m = 0 ∨ m = 1) : Calls Try.prog 61 #[.int .i64 m] w fun e w' => e = .returned (.agg #[.string (nn (39 - m.toNat)), .string (nn (39 - m.toNat)), .string (nn (39 - m.toNat))]) ∧ Below w.heap.size w w' := by
  have hs39 := nn_size 39
  have hc := nn_cut
  rcases hm with rfl | rfl
  all_goals
    go_enter Try.func61, Try.ntmps61
    go_wp2
    go_loop [3, 4] (fun s i => ∃ k : Nat, k ≤ 39 ∧ i = .int .i64 k ∧ s = .string (nn k)) (fun _ i => 39 - (intOf i).toNat)
    case atStart => exact ⟨0, by omega, rfl, rfl⟩
    case round =>
      obtain ⟨k, hk, rfl, rfl⟩ := hrel
      by_cases hlt : k < 39
      · have hsn := Lib.hid (nn_snoc k)
        have hsz := nn_size k
        have hk2 : ¬ 9223372036854775807 < k + 1 := by omega
        go_wp2
        go_round
        case rel => exact ⟨k + 1, by omega, by go_num, by rw [← hsn.out]⟩
        case measure => simp [intOf]; omega
      · have e : k = 39 := by omega
        subst e
        go_wp2
        refine wp_loop_rounds 3 ?_
        try (rw [rounds_succ]; go_wp2)
        try (rw [rounds_succ]; go_wp2)
        first
          | (refine bodyPost_ret (v := .agg #[.string (nn 39), .string (nn 39), .string (nn 39)]) (by simp [results, Try.results61, go_sem]) rfl ⟨rfl, ?_⟩
             repeat (first | exact Below.refl _ _ | apply below_drewN' | apply Below.drew | refine Below.setCell ?_ (by simp) _ | refine Below.alloc ?_ (by first | omega | (simp; done) | (simp; omega)) _))
          | (refine bodyPost_ret (v := .agg #[.string (nn 38), .string (nn 38), .string (nn 38)]) (by simp [results, Try.results61, go_sem]) rfl ⟨rfl, ?_⟩
             repeat (first | exact Below.refl _ _ | apply below_drewN' | apply Below.drew | refine Below.setCell ?_ (by simp) _ | refine Below.alloc ?_ (by first | omega | (simp; done) | (simp; omega)) _))

set_option maxHeartbeats 1600000 in
theorem user_any (n : Int) (w : World) (n0 : 0 ≤ n) (n1 : n ≤ 255) : Calls Try.prog 22 #[.int .i64 n] w fun e w' => e = .returned (.agg #[.string (userS n), .string ⟨#[]⟩, .string (realmS (n / 3))]) ∧ Below w.heap.size w w' := by
  rcases mod3 n with h | h | h
  · have HU := Lib.hid (user_0 h)
    have ha : n.tmod 3 = 0 := by rw [Int.tmod_eq_emod_of_nonneg n0]; exact h
    have hb : n.tdiv 3 = n / 3 := Int.tdiv_eq_ediv_of_nonneg n0
    have hc := IntWalk.i64_in (n / 3) (by omega)
    have hd : IntKind.i64.wrap 0 = 0 := by decide
    go_enter Try.func22, Try.ntmps22
    go_wp2_with (fail)
    have y0 : (w.alloc (.cells #[.string ⟨#[]⟩, .string ⟨#[]⟩, .string ⟨#[]⟩] 23)).cell? ⟨w.heap.size, 0, none⟩ = some (.string ⟨#[]⟩) := by simp [go_sem]
    have y1 : (w.alloc (.cells #[.string ⟨#[]⟩, .string ⟨#[]⟩, .string ⟨#[]⟩] 23)).cell? ⟨w.heap.size, 1, none⟩ = some (.string ⟨#[]⟩) := by simp [go_sem]
    have y2 : (w.alloc (.cells #[.string ⟨#[]⟩, .string ⟨#[]⟩, .string ⟨#[]⟩] 23)).cell? ⟨w.heap.size, 2, none⟩ = some (.string ⟨#[]⟩) := by simp [go_sem]
    have y3 : ∀ o, (w.alloc (.cells #[.string ⟨#[]⟩, .string ⟨#[]⟩, .string ⟨#[]⟩] 23)).frozen? ⟨w.heap.size, o, none⟩ = false := fun o => by simp [go_sem]
    have B1 : Below w.heap.size w (w.alloc (.cells #[.string ⟨#[]⟩, .string ⟨#[]⟩, .string ⟨#[]⟩] 23)) := (Below.refl _ _).alloc (Nat.le_refl _) _
    have zl : w.heap.size < (w.alloc (.cells #[.string ⟨#[]⟩, .string ⟨#[]⟩, .string ⟨#[]⟩] 23)).heap.size := by simp
    generalize (w.alloc (.cells #[.string ⟨#[]⟩, .string ⟨#[]⟩, .string ⟨#[]⟩] 23)) = w1 at *
    have cc : (w1.alloc (.cells #[.string ⟨#[97, 110, 110]⟩, .string ⟨#[98, 111, 98]⟩, .string ⟨#[99, 97, 116]⟩] 9)).drew.cell? ⟨w1.heap.size, 0, none⟩ = some (.string ⟨#[97, 110, 110]⟩) := by simp [go_sem]
    replace cc := Lib.hid cc
    have Ba := Lib.hid (fun (x : World) (o : Obj) => (Below.refl x.heap.size x).alloc (Nat.le_refl _) o)
    go_region_with (go_at_call 57; refine (realm_any _ _ (by omega) (by omega)).mono ?_; rintro e w4 ⟨rfl, hb4⟩; have P4 : Below w1.heap.size w1 w4 := (by first | exact below_keep hb4 (Ba.out w1 _).drew | exact below_keep hb4 (Ba.out w1 _) | exact below_keep hb4 (Below.refl _ w1).drew | exact below_keep hb4 (Below.refl _ w1)); have z0 := cell_keep P4 y0; have zl4 : w.heap.size < w4.heap.size := cell_lt z0; have z1 := cell_keep P4 y1; have z2 := cell_keep P4 y2; have z3 := fun o => ((bcell P4).2 w.heap.size o zl).trans (y3 o); try (have z4 := cell_keep hb4 cc.out))
    all_goals
      go_wp2_with (fail)
      refine bodyPost_ret (v := .agg #[.string ⟨#[97, 110, 110]⟩, .string ⟨#[]⟩, .string (realmS (n / 3))]) (by simp [results, Try.results22, go_sem, z0, z1, z2, zl4]) rfl ⟨by rw [HU.out], ?_⟩
      have B4 := below_keep P4 B1
      repeat (first | exact B4 | refine Below.setCell ?_ (by simp) _ | refine Below.alloc ?_ (by first | exact B4.size | (simp; exact B4.size)) _ | apply Below.drew)
  · have HU := Lib.hid (user_1 h)
    have ha : n.tmod 3 = 1 := by rw [Int.tmod_eq_emod_of_nonneg n0]; exact h
    have hb : n.tdiv 3 = n / 3 := Int.tdiv_eq_ediv_of_nonneg n0
    have hc := IntWalk.i64_in (n / 3) (by omega)
    have hd : IntKind.i64.wrap 1 = 1 := by decide
    go_enter Try.func22, Try.ntmps22
    go_wp2_with (fail)
    have y0 : (w.alloc (.cells #[.string ⟨#[]⟩, .string ⟨#[]⟩, .string ⟨#[]⟩] 23)).cell? ⟨w.heap.size, 0, none⟩ = some (.string ⟨#[]⟩) := by simp [go_sem]
    have y1 : (w.alloc (.cells #[.string ⟨#[]⟩, .string ⟨#[]⟩, .string ⟨#[]⟩] 23)).cell? ⟨w.heap.size, 1, none⟩ = some (.string ⟨#[]⟩) := by simp [go_sem]
    have y2 : (w.alloc (.cells #[.string ⟨#[]⟩, .string ⟨#[]⟩, .string ⟨#[]⟩] 23)).cell? ⟨w.heap.size, 2, none⟩ = some (.string ⟨#[]⟩) := by simp [go_sem]
    have y3 : ∀ o, (w.alloc (.cells #[.string ⟨#[]⟩, .string ⟨#[]⟩, .string ⟨#[]⟩] 23)).frozen? ⟨w.heap.size, o, none⟩ = false := fun o => by simp [go_sem]
    have B1 : Below w.heap.size w (w.alloc (.cells #[.string ⟨#[]⟩, .string ⟨#[]⟩, .string ⟨#[]⟩] 23)) := (Below.refl _ _).alloc (Nat.le_refl _) _
    have zl : w.heap.size < (w.alloc (.cells #[.string ⟨#[]⟩, .string ⟨#[]⟩, .string ⟨#[]⟩] 23)).heap.size := by simp
    generalize (w.alloc (.cells #[.string ⟨#[]⟩, .string ⟨#[]⟩, .string ⟨#[]⟩] 23)) = w1 at *
    have cc : (w1.alloc (.cells #[.string ⟨#[97, 110, 110]⟩, .string ⟨#[98, 111, 98]⟩, .string ⟨#[99, 97, 116]⟩] 9)).drew.cell? ⟨w1.heap.size, 1, none⟩ = some (.string ⟨#[98, 111, 98]⟩) := by simp [go_sem]
    replace cc := Lib.hid cc
    have Ba := Lib.hid (fun (x : World) (o : Obj) => (Below.refl x.heap.size x).alloc (Nat.le_refl _) o)
    go_region_with (go_at_call 57; refine (realm_any _ _ (by omega) (by omega)).mono ?_; rintro e w4 ⟨rfl, hb4⟩; have P4 : Below w1.heap.size w1 w4 := (by first | exact below_keep hb4 (Ba.out w1 _).drew | exact below_keep hb4 (Ba.out w1 _) | exact below_keep hb4 (Below.refl _ w1).drew | exact below_keep hb4 (Below.refl _ w1)); have z0 := cell_keep P4 y0; have zl4 : w.heap.size < w4.heap.size := cell_lt z0; have z1 := cell_keep P4 y1; have z2 := cell_keep P4 y2; have z3 := fun o => ((bcell P4).2 w.heap.size o zl).trans (y3 o); try (have z4 := cell_keep hb4 cc.out))
    all_goals
      go_wp2_with (fail)
      refine bodyPost_ret (v := .agg #[.string ⟨#[98, 111, 98]⟩, .string ⟨#[]⟩, .string (realmS (n / 3))]) (by simp [results, Try.results22, go_sem, z0, z1, z2, zl4]) rfl ⟨by rw [HU.out], ?_⟩
      have B4 := below_keep P4 B1
      repeat (first | exact B4 | refine Below.setCell ?_ (by simp) _ | refine Below.alloc ?_ (by first | exact B4.size | (simp; exact B4.size)) _ | apply Below.drew)
  · have HU := Lib.hid (user_2 h)
    have ha : n.tmod 3 = 2 := by rw [Int.tmod_eq_emod_of_nonneg n0]; exact h
    have hb : n.tdiv 3 = n / 3 := Int.tdiv_eq_ediv_of_nonneg n0
    have hc := IntWalk.i64_in (n / 3) (by omega)
    have hd : IntKind.i64.wrap 2 = 2 := by decide
    go_enter Try.func22, Try.ntmps22
    go_wp2_with (fail)
    have y0 : (w.alloc (.cells #[.string ⟨#[]⟩, .string ⟨#[]⟩, .string ⟨#[]⟩] 23)).cell? ⟨w.heap.size, 0, none⟩ = some (.string ⟨#[]⟩) := by simp [go_sem]
    have y1 : (w.alloc (.cells #[.string ⟨#[]⟩, .string ⟨#[]⟩, .string ⟨#[]⟩] 23)).cell? ⟨w.heap.size, 1, none⟩ = some (.string ⟨#[]⟩) := by simp [go_sem]
    have y2 : (w.alloc (.cells #[.string ⟨#[]⟩, .string ⟨#[]⟩, .string ⟨#[]⟩] 23)).cell? ⟨w.heap.size, 2, none⟩ = some (.string ⟨#[]⟩) := by simp [go_sem]
    have y3 : ∀ o, (w.alloc (.cells #[.string ⟨#[]⟩, .string ⟨#[]⟩, .string ⟨#[]⟩] 23)).frozen? ⟨w.heap.size, o, none⟩ = false := fun o => by simp [go_sem]
    have B1 : Below w.heap.size w (w.alloc (.cells #[.string ⟨#[]⟩, .string ⟨#[]⟩, .string ⟨#[]⟩] 23)) := (Below.refl _ _).alloc (Nat.le_refl _) _
    have zl : w.heap.size < (w.alloc (.cells #[.string ⟨#[]⟩, .string ⟨#[]⟩, .string ⟨#[]⟩] 23)).heap.size := by simp
    generalize (w.alloc (.cells #[.string ⟨#[]⟩, .string ⟨#[]⟩, .string ⟨#[]⟩] 23)) = w1 at *
    have cc : (w1.alloc (.cells #[.string ⟨#[97, 110, 110]⟩, .string ⟨#[98, 111, 98]⟩, .string ⟨#[99, 97, 116]⟩] 9)).drew.cell? ⟨w1.heap.size, 2, none⟩ = some (.string ⟨#[99, 97, 116]⟩) := by simp [go_sem]
    replace cc := Lib.hid cc
    have Ba := Lib.hid (fun (x : World) (o : Obj) => (Below.refl x.heap.size x).alloc (Nat.le_refl _) o)
    go_region_with (go_at_call 57; refine (realm_any _ _ (by omega) (by omega)).mono ?_; rintro e w4 ⟨rfl, hb4⟩; have P4 : Below w1.heap.size w1 w4 := (by first | exact below_keep hb4 (Ba.out w1 _).drew | exact below_keep hb4 (Ba.out w1 _) | exact below_keep hb4 (Below.refl _ w1).drew | exact below_keep hb4 (Below.refl _ w1)); have z0 := cell_keep P4 y0; have zl4 : w.heap.size < w4.heap.size := cell_lt z0; have z1 := cell_keep P4 y1; have z2 := cell_keep P4 y2; have z3 := fun o => ((bcell P4).2 w.heap.size o zl).trans (y3 o); try (have z4 := cell_keep hb4 cc.out))
    all_goals
      go_wp2_with (fail)
      refine bodyPost_ret (v := .agg #[.string ⟨#[99, 97, 116]⟩, .string ⟨#[]⟩, .string (realmS (n / 3))]) (by simp [results, Try.results22, go_sem, z0, z1, z2, zl4]) rfl ⟨by rw [HU.out], ?_⟩
      have B4 := below_keep P4 B1
      repeat (first | exact B4 | refine Below.setCell ?_ (by simp) _ | refine Below.alloc ?_ (by first | exact B4.size | (simp; exact B4.size)) _ | apply Below.drew)

end Go.Proofs.Ytkhkmgblgonfoaa
