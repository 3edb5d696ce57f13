/-
  The laws' own helpers of chapter 2.
-/
import Derived.Test.YtfllenakphcfgaaLifeB
namespace Go.Proofs.Ytfllenakphcfgaa
open Go.RowKit

theorem int_info : (Try.prog.info? 3).map (fun i => (i.zero, i.size, i.bytes)) = some (some (.int .i64 0), 1, 8) := by kernel_rfl

theorem awake2_any (w : World) : Calls Try.prog 9 #[] w fun e w' => e = .returned (.bool true) ∧ Below w.heap.size w w' := by
  have f1 := Lib.hid (show S2.fromN 899 = 1 by decide)
  have f2 := Lib.hid (show S2.fromOk 899 = true by decide)
  have f3 := Lib.hid (show S2.fromN 299 = 0 by decide)
  have f4 := Lib.hid (show S2.fromOk 299 = false by decide)
  have f5 := Lib.hid (show S2.grantN 1000 255 [1900] = 2 by decide)
  have f6 := Lib.hid (show S2.grantOk 1000 255 [1900] = true by decide)
  have f7 := Lib.hid (show S2.endV 0 0 = 300 by decide)
  go_enter Try.func9, Try.ntmps9
  go_wp2_with (fail)
  refine (fromSeconds_any _ _ (by decide)).mono ?_
  rintro e w1 ⟨rfl, hb1⟩
  rw [f1.out, f2.out]
  go_wp2_with (fail)
  refine (fromSeconds_any _ _ (by decide)).mono ?_
  rintro e w2 ⟨rfl, hb2⟩
  rw [f3.out, f4.out]
  have B := below_keep hb2 hb1
  go_wp2_with (fail)
  refine (grant_any _ _ _ _ _ [1900] _ (RowK.one _ 1900 _ (by decide)) (by decide) (by decide) (by decide)).mono ?_
  rintro e w3 ⟨rfl, hb3⟩
  rw [f5.out, f6.out]
  go_wp2_with (fail)
  refine (end_any _ _ _).mono ?_
  rintro e w4 ⟨rfl, rfl⟩
  rw [f7.out]
  go_wp2_with (fail)
  go_ret
  exact ⟨rfl, below_keep hb3 (B.alloc B.size _)⟩

/-- What 'numbers' lists. -/
def nums (n s : Int) : List Int := [n, s, s % 300, s % 5 * 300, 4294967295 - s % 3 + 1, -1, 255, 256]

/-- A row of nums. -/
def NumRow (n s : Int) (w : World) (e : Ending) (w' : World) : Prop := ∃ g, e = .returned (.slice (some ⟨g, 0, none⟩) 8 8) ∧ w.heap.size ≤ g ∧ RowK .i64 w' (some ⟨g, 0, none⟩) 8 (nums n s) ∧ Below w.heap.size w w'

theorem numbers_any (n s : Int) (w : World) (n0 : -9223372036854775808 ≤ n) (n1 : n ≤ 9223372036854775807) (s0 : 0 ≤ s) (s1 : s ≤ 65535) :
    Calls Try.prog 10 #[.int .i64 n, .int .u16 s] w (NumRow n s w) := by
  go_enter Try.func10, Try.ntmps10
  go_wp2
  go_ret
  refine ⟨_, rfl, Nat.le_refl _, ⟨rfl, ?_, fun _ => ⟨_, _, rfl, ?_⟩⟩, (Below.refl _ _).alloc (Nat.le_refl _) _⟩
  · show ∀ m ∈ nums n s, IntKind.i64.min ≤ m ∧ m ≤ IntKind.i64.max
    have e1 : IntKind.i64.min = -9223372036854775808 := rfl
    have e2 : IntKind.i64.max = 9223372036854775807 := rfl
    rw [e1, e2]
    simp only [nums, List.mem_cons, List.not_mem_nil, or_false]
    rintro m (rfl | rfl | rfl | rfl | rfl | rfl | rfl | rfl) <;> omega
  · intro i hi
    have hi' : i < 8 := hi
    match i, hi' with
    | 0, _ => simp [go_sem, nums]
    | 1, _ => simp [go_sem, nums]
    | 2, _ => simp [go_sem, nums]
    | 3, _ => simp [go_sem, nums]
    | 4, _ => simp [go_sem, nums]
    | 5, _ => simp [go_sem, nums]
    | 6, _ => simp [go_sem, nums]
    | 7, _ => simp [go_sem, nums]

end Go.Proofs.Ytfllenakphcfgaa
