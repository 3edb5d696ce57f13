/-
  The law HeaderReads: the type and the byte order of any message, or the error.
-/
import Derived.Test.YtdhjhpmbgfefbaaHdH
import Derived.Deep.DeepCutAuto
namespace Go.Proofs.Ytdhjhpmbgfefbaa
open Go.RowKit

/-- Some slice of bytes in a cell. -/
def SlAt (w : World) (g i : Nat) : Prop := ∃ A n cap zs, w.cell? ⟨g, i, none⟩ = some (.slice A n cap) ∧ Sl w A n cap zs ∧ n ≤ 1000
theorem SlAt.keep {w w' : World} {g i : Nat} (hb : Below w.heap.size w w') (h : SlAt w g i) : SlAt w' g i := by
  obtain ⟨A, n, cap, zs, h1, h2, h3⟩ := h
  exact ⟨A, n, cap, zs, cell_keep hb h1, h2.keep hb, h3⟩

set_option maxRecDepth 100000 in
set_option maxHeartbeats 6400000 in
theorem readsLaw8_walk (A : Option Addr) (n cap : Nat) (bs : List Int) (x y : Int) (w : World) (h : Sl w A n cap bs) (x0 : 0 ≤ x) (x1 : x ≤ 255) (y0 : 0 ≤ y) (y1 : y ≤ 255) :
    Calls Try.prog 4 #[.slice A n cap, .int .u8 x, .int .u8 y] w fun e w' => e = .returned (.bool true) ∧ Below w.heap.size w w' := by
  have hmax := h.max
  unfold maxLen at hmax
  go_enter Try.func4, Try.ntmps4
  go_wp2_with (fail)
  refine (awake8_any _).mono ?_
  rintro e w1 ⟨rfl, hb1⟩
  by_cases k1 : 100 < (n : Int)
  · go_wp2_with (fail)
    go_ret
    exact ⟨rfl, hb1⟩
  · have B1 := Lib.hid hb1
    have h1 := Lib.hid (h.keep hb1)
    clear hb1
    go_upto_region 6 with (fail)
    obtain ⟨Wa, hWa⟩ : ∃ W, W = w1.alloc (.cells #[.int .u8 4, .int .u8 y] 5) := ⟨_, rfl⟩
    have za : Wa.heap.size = w1.heap.size + 1 := by rw [hWa]; simp
    have sa : Sl Wa (some ⟨w1.heap.size, 0, none⟩) 2 2 [4, y] := by rw [hWa]; exact Sl.built w1 [4, y] (by intro z hz; simp at hz; omega) (by simp)
    have ba : Below w1.heap.size w1 Wa := by rw [hWa]; exact (Below.refl _ _).alloc (Nat.le_refl _) _
    obtain ⟨Wb, hWb⟩ : ∃ W, W = Wa.alloc (.cells #[.int .u8 4, .int .u8 (y % 24), .int .u8 x] 5) := ⟨_, rfl⟩
    have zb : Wb.heap.size = w1.heap.size + 1 + 1 := by rw [hWb, ← za]; simp
    have sb : Sl Wb (some ⟨w1.heap.size + 1, 0, none⟩) 3 3 [4, y % 24, x] := by rw [hWb, ← za]; exact Sl.built Wa [4, y % 24, x] (by intro z hz; simp at hz; omega) (by simp)
    have bb : Below Wa.heap.size Wa Wb := by rw [hWb]; exact (Below.refl _ _).alloc (Nat.le_refl _) _
    obtain ⟨Wc, hWc⟩ : ∃ W, W = Wb.alloc (.cells #[.int .u8 (x % 6), .int .u8 (y % 24)] 5) := ⟨_, rfl⟩
    have zc : Wc.heap.size = w1.heap.size + 1 + 1 + 1 := by rw [hWc, ← zb]; simp
    have sc : Sl Wc (some ⟨w1.heap.size + 1 + 1, 0, none⟩) 2 2 [x % 6, y % 24] := by rw [hWc, ← zb]; exact Sl.built Wb [x % 6, y % 24] (by intro z hz; simp at hz; omega) (by simp)
    have bc : Below Wb.heap.size Wb Wc := by rw [hWc]; exact (Below.refl _ _).alloc (Nat.le_refl _) _
    obtain ⟨Wd, hWd⟩ : ∃ W, W = Wc.alloc (.cells #[.int .u8 x] 5) := ⟨_, rfl⟩
    have zd : Wd.heap.size = w1.heap.size + 1 + 1 + 1 + 1 := by rw [hWd, ← zc]; simp
    have sd : Sl Wd (some ⟨w1.heap.size + 1 + 1 + 1, 0, none⟩) 1 1 [x] := by rw [hWd, ← zc]; exact Sl.built Wc [x] (by intro z hz; simp at hz; omega) (by simp)
    have bd : Below Wc.heap.size Wc Wd := by rw [hWd]; exact (Below.refl _ _).alloc (Nat.le_refl _) _
    obtain ⟨We, hWe⟩ : ∃ W, W = Wd.alloc (.cells #[.slice A n cap, .slice (some ⟨w1.heap.size, 0, none⟩) 2 2, .slice (some ⟨w1.heap.size + 1, 0, none⟩) 3 3, .slice (some ⟨w1.heap.size + 1 + 1, 0, none⟩) 2 2, .slice (some ⟨w1.heap.size + 1 + 1 + 1, 0, none⟩) 1 1] 22) := ⟨_, rfl⟩
    have be : Below Wd.heap.size Wd We := by rw [hWe]; exact (Below.refl _ _).alloc (Nat.le_refl _) _
    have bce := below_keep be bd
    have bbe := below_keep bce bc
    have bae := below_keep bbe bb
    have b1e := below_keep bae ba
    have F : ∀ p, p < 5 → SlAt We Wd.heap.size p := by
      intro p hp
      match p, hp with
      | 0, _ => exact ⟨A, n, cap, _, by rw [hWe]; simp [go_sem], h1.out.keep b1e, by omega⟩
      | 1, _ => exact ⟨_, 2, 2, _, by rw [hWe]; simp [go_sem], sa.keep bae, by omega⟩
      | 2, _ => exact ⟨_, 3, 3, _, by rw [hWe]; simp [go_sem], sb.keep bbe, by omega⟩
      | 3, _ => exact ⟨_, 2, 2, _, by rw [hWe]; simp [go_sem], sc.keep bce, by omega⟩
      | 4, _ => exact ⟨_, 1, 1, _, by rw [hWe]; simp [go_sem], sd.keep be, by omega⟩
    rw [zd] at F
    rw [← hWa, ← hWb, ← hWc, ← hWd, ← hWe]
    have Be := Lib.hid (below_keep b1e B1.out)
    obtain ⟨L, hL⟩ : ∃ L, L = w1.heap.size + 1 + 1 + 1 + 1 := ⟨_, rfl⟩
    rw [← hL] at F
    rw [← hL]
    replace F := Lib.hid F
    clear hWa za sa ba hWb zb sb bb hWc zc sc bc hWd zd sd bd hWe be bce bbe bae b1e hL
    go_wp2_with (fail)
    go_loopw [8] (fun i wr => ∃ p : Nat, p ≤ 5 ∧ i = .int .i64 p ∧ Below We.heap.size We wr) (fun i _ => 5 - (intOf i).toNat)
    case atStart => exact ⟨0, by omega, rfl, Below.refl _ _⟩
    case round =>
      obtain ⟨p, hp, rfl, Br⟩ := hrel
      by_cases hlt : p < 5
      · obtain ⟨A5, n5, c5, zs, hc, hs, hn5⟩ := (F.out p hlt).keep Br
        have B2 := Lib.hid Br
        have hl := cell_lt hc
        have hs5 := Lib.hid hs
        clear Br hs
        have hpp : (p : Int) < 5 := by omega
        go_wp2_with (fail)
        refine (hread_any A5 n5 c5 zs _ hs5.out (by omega)).mono ?_
        rintro e w3 ⟨rfl, hb3⟩
        have hc3 := cell_keep hb3 hc
        have hl3 := cell_lt hc3
        have B3 := Lib.hid (below_keep hb3 B2.out)
        have hs6 := Lib.hid (hs5.out.keep hb3)
        clear hc hl hb3 B2 hs5
        go_wp2_with (fail)
        refine (r8read_any A5 n5 c5 zs _ hs6.out (by omega)).mono ?_
        rintro e w4 ⟨rfl, hb4⟩
        have B4 := Lib.hid (below_keep hb4 B3.out)
        clear hb4 B3 hs6 hc3 hl3
        go_wp2_with (fail)
        go_roundw
        case rel => exact ⟨p + 1, by omega, by go_num, B4.out⟩
        case measure => simp [intOf]; omega
      · have hpp : ¬ (p : Int) < 5 := by omega
        go_wp2_with (fail)
        go_ret
        exact ⟨rfl, below_keep Br Be.out⟩

end Go.Proofs.Ytdhjhpmbgfefbaa
