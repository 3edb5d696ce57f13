/-
  The law PrincipalOrder: how principals compare, and that this is a total order.
-/
import Derived.Test.YtpfkacmogggemaaPrinE
import Derived.Deep.RegionHeld3
import Derived.Deep.DeepCutAuto
namespace Go.Proofs.Ytpfkacmogggemaa
open Go.RowKit

/-- A principal's three cells lie in block n, and may be written. -/
def Cell3 (W : World) (n : Nat) (a b c : ByteArray) : Prop :=
  (W.cell? ⟨n, 0, none⟩ = some (.string a) ∧ W.cell? ⟨n, 1, none⟩ = some (.string b) ∧ W.cell? ⟨n, 2, none⟩ = some (.string c)) ∧
  (W.frozen? ⟨n, 0, none⟩ = false ∧ W.frozen? ⟨n, 1, none⟩ = false ∧ W.frozen? ⟨n, 2, none⟩ = false) ∧ n < W.heap.size

theorem Cell3.keep {W W' : World} {n : Nat} {a b c : ByteArray} (h : Cell3 W n a b c) (hb : Below W.heap.size W W') : Cell3 W' n a b c := by
  obtain ⟨⟨h0, h1, h2⟩, ⟨f0, f1, f2⟩, hn⟩ := h
  obtain ⟨hc, hf⟩ := bcell hb
  exact ⟨⟨cell_keep hb h0, cell_keep hb h1, cell_keep hb h2⟩, ⟨(hf _ _ hn).trans f0, (hf _ _ hn).trans f1, (hf _ _ hn).trans f2⟩, size_keep hb hn⟩

theorem Cell3.set {W : World} {n k : Nat} {a b c v : ByteArray} (h : Cell3 W n a b c) (hk : k < 3) :
    Cell3 (W.setCell ⟨n, k, none⟩ (.string v)) n (if k = 0 then v else a) (if k = 1 then v else b) (if k = 2 then v else c) := by
  obtain ⟨⟨h0, h1, h2⟩, ⟨f0, f1, f2⟩, hn⟩ := h
  match k, hk with
  | 0, _ => refine ⟨⟨?_, ?_, ?_⟩, ⟨?_, ?_, ?_⟩, ?_⟩ <;> simp [go_sem, h0, h1, h2, f0, f1, f2, hn]
  | 1, _ => refine ⟨⟨?_, ?_, ?_⟩, ⟨?_, ?_, ?_⟩, ?_⟩ <;> simp [go_sem, h0, h1, h2, f0, f1, f2, hn]
  | 2, _ => refine ⟨⟨?_, ?_, ?_⟩, ⟨?_, ?_, ?_⟩, ?_⟩ <;> simp [go_sem, h0, h1, h2, f0, f1, f2, hn]

theorem Cell3.apart {W : World} {n m k : Nat} {a b c : ByteArray} {v : Value} (h : Cell3 W n a b c) (hm : m ≠ n) : Cell3 (W.setCell ⟨m, k, none⟩ v) n a b c := by
  obtain ⟨⟨h0, h1, h2⟩, ⟨f0, f1, f2⟩, hn⟩ := h
  refine ⟨⟨?_, ?_, ?_⟩, ⟨?_, ?_, ?_⟩, ?_⟩ <;> simp [go_sem, h0, h1, h2, f0, f1, f2, hn]

def lg (a b c : ByteArray) : Bool := decide (100 < (a.size : Int) ∨ 100 < (b.size : Int) ∨ 100 < (c.size : Int))

theorem long_any (a b c : ByteArray) (w : World) :
    Calls Try.prog 9 #[.agg #[.string a, .string b, .string c]] w fun e w' => e = .returned (.bool (lg a b c)) ∧ Below w.heap.size w w' := by
  by_cases h : 100 < (a.size : Int) ∨ 100 < (b.size : Int) ∨ 100 < (c.size : Int)
  · rw [show lg a b c = true from decide_eq_true h]; exact long_yes a b c w h
  · rw [show lg a b c = false from decide_eq_false h]; exact long_no a b c w (by omega) (by omega) (by omega)

set_option maxRecDepth 100000 in
set_option maxHeartbeats 3200000 in
theorem orderLaw_walk (a b c a2 b2 c2 a3 b3 c3 : ByteArray) (same : Int) (w : World) (hm : MaxOk w) (_ : a.size ≤ maxLen) (_ : b.size ≤ maxLen) (_ : c.size ≤ maxLen) (_ : a2.size ≤ maxLen) (_ : b2.size ≤ maxLen) (_ : c2.size ≤ maxLen) (_ : a3.size ≤ maxLen) (_ : b3.size ≤ maxLen) (_ : c3.size ≤ maxLen) (hs : 0 ≤ same ∧ same ≤ 255) :
    Calls Try.prog 6 #[.agg #[.string a, .string b, .string c], .agg #[.string a2, .string b2, .string c2], .agg #[.string a3, .string b3, .string c3], .int .u8 same] w fun e w' => e = .returned (.bool true) ∧ Below w.heap.size w w' := by
  have hp := hm.pos
  obtain ⟨hs0, hs1⟩ := hs
  rcases h1 : lg a b c <;> rcases h2 : lg a2 b2 c2 <;> rcases h3 : lg a3 b3 c3
  all_goals
    go_enter Try.func6, Try.ntmps6
    go_wp2_with (fail)
    have B0 : Below w.heap.size w (((w.alloc (Obj.cells #[.string a, .string b, .string c] 23)).alloc (Obj.cells #[.string a2, .string b2, .string c2] 23)).alloc (Obj.cells #[.string a3, .string b3, .string c3] 23)) :=
      (((Below.refl _ _).alloc (Nat.le_refl _) _).alloc (by simp) _).alloc (by simp; omega) _
    have C1 : Cell3 (((w.alloc (Obj.cells #[.string a, .string b, .string c] 23)).alloc (Obj.cells #[.string a2, .string b2, .string c2] 23)).alloc (Obj.cells #[.string a3, .string b3, .string c3] 23)) w.heap.size a b c := by
      refine ⟨⟨?_, ?_, ?_⟩, ⟨?_, ?_, ?_⟩, ?_⟩ <;> simp [go_sem] <;> omega
    have C2 : Cell3 (((w.alloc (Obj.cells #[.string a, .string b, .string c] 23)).alloc (Obj.cells #[.string a2, .string b2, .string c2] 23)).alloc (Obj.cells #[.string a3, .string b3, .string c3] 23)) (w.heap.size + 1) a2 b2 c2 := by
      refine ⟨⟨?_, ?_, ?_⟩, ⟨?_, ?_, ?_⟩, ?_⟩ <;> simp [go_sem] 
    have C3 : Cell3 (((w.alloc (Obj.cells #[.string a, .string b, .string c] 23)).alloc (Obj.cells #[.string a2, .string b2, .string c2] 23)).alloc (Obj.cells #[.string a3, .string b3, .string c3] 23)) (w.heap.size + 1 + 1) a3 b3 c3 := by
      refine ⟨⟨?_, ?_, ?_⟩, ⟨?_, ?_, ?_⟩, ?_⟩ <;> simp [go_sem] 
    refine (awake_any _ (hm.below B0)).mono ?_
    rintro e w1 ⟨rfl, hb1⟩
    replace B0 := below_keep hb1 B0
    replace C1 := C1.keep hb1
    replace C2 := C2.keep hb1
    replace C3 := C3.keep hb1
    clear hb1
    obtain ⟨⟨x0, x1, x2⟩, -⟩ := id C1
    obtain ⟨⟨y0, y1, y2⟩, -⟩ := id C2
    obtain ⟨⟨z0, z1, z2⟩, -⟩ := id C3
    go_upto_if 26 with (go_at_call 9; refine (long_any _ _ _ _).mono ?_; rintro e w2 ⟨rfl, hb2⟩; replace B0 := below_keep hb2 B0; replace C1 := C1.keep hb2; replace C2 := C2.keep hb2; replace C3 := C3.keep hb2; clear hb2 x0 x1 x2 y0 y1 y2 z0 z1 z2; obtain ⟨⟨x0, x1, x2⟩, -⟩ := id C1; obtain ⟨⟨y0, y1, y2⟩, -⟩ := id C2; obtain ⟨⟨z0, z1, z2⟩, -⟩ := id C3)
    try (go_ret; exact ⟨rfl, B0⟩)
  clear h1 h2 h3 x0 x1 x2 y0 y1 y2 z0 z1 z2
  go_cut [] (fun W => ∃ p q r : ByteArray, Below w.heap.size w W ∧ Cell3 W w.heap.size a b c ∧ Cell3 W (w.heap.size + 1) p q r ∧ Cell3 W (w.heap.size + 1 + 1) a3 b3 c3)
  case first =>
    obtain ⟨⟨x0, x1, x2⟩, ⟨xf0, xf1, xf2⟩, xn⟩ := id C1
    obtain ⟨⟨y0, y1, y2⟩, ⟨yf0, yf1, yf2⟩, yn⟩ := id C2
    go_wp2_with (fail)
    all_goals go_meet
    · exact ⟨a2, b2, c, B0.setCell (by simp) _, C1.apart (by omega), C2.set (k := 2) (by omega), C3.apart (by omega)⟩
    · exact ⟨a2, b2, c2, B0, C1, C2, C3⟩
  case rest =>
    clear B0 C1 C2 C3
    obtain ⟨p, q, r, B0, C1, C2, C3⟩ := hcut
    go_upto_if 32 with (fail)
    go_cut [] (fun W => ∃ p q r : ByteArray, Below w.heap.size w W ∧ Cell3 W w.heap.size a b c ∧ Cell3 W (w.heap.size + 1) p q r ∧ Cell3 W (w.heap.size + 1 + 1) a3 b3 c3)
    case first =>
      obtain ⟨⟨x0, x1, x2⟩, ⟨xf0, xf1, xf2⟩, xn⟩ := id C1
      obtain ⟨⟨y0, y1, y2⟩, ⟨yf0, yf1, yf2⟩, yn⟩ := id C2
      go_wp2_with (fail)
      all_goals go_meet
      · exact ⟨a, q, r, B0.setCell (by simp) _, C1.apart (by omega), C2.set (k := 0) (by omega), C3.apart (by omega)⟩
      · exact ⟨p, q, r, B0, C1, C2, C3⟩
    case rest =>
      clear B0 C1 C2 C3
      obtain ⟨p, q, r, B0, C1, C2, C3⟩ := hcut
      go_upto_if 38 with (fail)
      go_cut [] (fun W => ∃ x y z : ByteArray, Below w.heap.size w W ∧ Cell3 W w.heap.size a b c ∧ Cell3 W (w.heap.size + 1) p q r ∧ Cell3 W (w.heap.size + 1 + 1) x y z)
      case first =>
        obtain ⟨⟨x0, x1, x2⟩, ⟨xf0, xf1, xf2⟩, xn⟩ := id C3
        obtain ⟨⟨y0, y1, y2⟩, ⟨yf0, yf1, yf2⟩, yn⟩ := id C2
        go_wp2_with (fail)
        all_goals go_meet
        · exact ⟨p, q, r, ((B0.setCell (by simp; omega) _).setCell (by simp; omega) _).setCell (by simp; omega) _, ((C1.apart (by omega)).apart (by omega)).apart (by omega), ((C2.apart (by omega)).apart (by omega)).apart (by omega), ((C3.set (k := 0) (by omega)).set (k := 1) (by omega)).set (k := 2) (by omega)⟩
        · exact ⟨a3, b3, c3, B0, C1, C2, C3⟩
      case rest =>
        clear B0 C1 C2 C3
        obtain ⟨x, y, z, B0, C1, C2, C3⟩ := hcut
        obtain ⟨⟨x0, x1, x2⟩, -, xn⟩ := id C1
        obtain ⟨⟨y0, y1, y2⟩, -, yn⟩ := id C2
        obtain ⟨⟨z0, z1, z2⟩, -, zn⟩ := id C3
        have HX := Lib.hid (S1.cmp_range a.data.toList b.data.toList c.data.toList p.data.toList q.data.toList r.data.toList)
        have HY := Lib.hid (S1.cmp_range p.data.toList q.data.toList r.data.toList x.data.toList y.data.toList z.data.toList)
        have HN := Lib.hid (S1.cmp_neg a.data.toList b.data.toList c.data.toList p.data.toList q.data.toList r.data.toList)
        have HT := Lib.hid (S1.cmp_trans a.data.toList b.data.toList c.data.toList p.data.toList q.data.toList r.data.toList x.data.toList y.data.toList z.data.toList)
        have hz0 := S1.cmp_zero a.data.toList b.data.toList c.data.toList p.data.toList q.data.toList r.data.toList
        rw [← ByteArray.toList_eq, ← ByteArray.toList_eq, ← ByteArray.toList_eq, ← ByteArray.toList_eq, ← ByteArray.toList_eq, ← ByteArray.toList_eq] at hz0
        have hz1 : S1.cmp a.data.toList b.data.toList c.data.toList p.data.toList q.data.toList r.data.toList = 0 ↔ (a.toList = p.toList ∧ b.toList = q.toList) ∧ c.toList = r.toList := by simpa only [ByteArray.toList_eq] using hz0
        have HZ := Lib.hid hz1
        clear hz0 hz1
        obtain ⟨X, EX⟩ : ∃ X, Hid (S1.cmp a.data.toList b.data.toList c.data.toList p.data.toList q.data.toList r.data.toList = X) := ⟨_, rfl⟩
        obtain ⟨Y, EY⟩ : ∃ Y, Hid (S1.cmp p.data.toList q.data.toList r.data.toList x.data.toList y.data.toList z.data.toList = Y) := ⟨_, rfl⟩
        obtain ⟨Z, EZ⟩ : ∃ Z, Hid (S1.cmp a.data.toList b.data.toList c.data.toList x.data.toList y.data.toList z.data.toList = Z) := ⟨_, rfl⟩
        rw [EX.out] at HX HN HT HZ
        rw [EY.out] at HY HT
        rw [EZ.out] at HT
        have rx := HX.out
        have ry := HY.out
        clear HX HY
        obtain ⟨rx1, rx2⟩ := rx
        obtain ⟨ry1, ry2⟩ := ry
        go_wp2_with (fail)
        go_region_held3 (fun W => Below w.heap.size w W ∧ W.cell? ⟨w.heap.size, 0, none⟩ = some (.string a) ∧ W.cell? ⟨w.heap.size, 1, none⟩ = some (.string b) ∧ W.cell? ⟨w.heap.size, 2, none⟩ = some (.string c) ∧
            W.cell? ⟨w.heap.size + 1, 0, none⟩ = some (.string p) ∧ W.cell? ⟨w.heap.size + 1, 1, none⟩ = some (.string q) ∧ W.cell? ⟨w.heap.size + 1, 2, none⟩ = some (.string r) ∧
            W.cell? ⟨w.heap.size + 1 + 1, 0, none⟩ = some (.string x) ∧ W.cell? ⟨w.heap.size + 1 + 1, 1, none⟩ = some (.string y) ∧ W.cell? ⟨w.heap.size + 1 + 1, 2, none⟩ = some (.string z))
          (first | (go_keep; done) | ((repeat' apply And.intro) <;> first | (go_keep; done) | exact B0.drew | exact cell_keep hb4 (by go_keep) | exact below_keep hb4 (by go_keep)))
          (first | (go_at_call 23; refine (compare_any _ _ _ _ _ _ _).mono ?_; rintro e w4 ⟨rfl, hb4⟩; first | rw [EX.out] | rw [EY.out] | rw [EZ.out]))
        have hS := ‹Below w.heap.size w _ ∧ _›
        clear B0 C1 C2 C3 x0 x1 x2 y0 y1 y2 z0 z1 z2
        obtain ⟨B0, x0, x1, x2, y0, y1, y2, z0, z1, z2⟩ := hS
        go_upto_if 83 with (first
          | (go_at_call 23; refine (compare_any _ _ _ _ _ _ _).mono ?_; rintro e w5 ⟨rfl, hb5⟩; rw [HN.out]; replace B0 := below_keep hb5 B0; replace x0 := cell_keep hb5 x0; replace x1 := cell_keep hb5 x1; replace x2 := cell_keep hb5 x2; replace y0 := cell_keep hb5 y0; replace y1 := cell_keep hb5 y1; replace y2 := cell_keep hb5 y2; replace z0 := cell_keep hb5 z0; replace z1 := cell_keep hb5 z1; replace z2 := cell_keep hb5 z2; clear hb5)
          | (go_at_call 24; refine (refCompare_any _ _ _ _ _ _ _).mono ?_; rintro e w5 ⟨rfl, hb5⟩; (first | rw [EX.out] | rw [EY.out] | rw [EZ.out]); replace B0 := below_keep hb5 B0; replace x0 := cell_keep hb5 x0; replace x1 := cell_keep hb5 x1; replace x2 := cell_keep hb5 x2; replace y0 := cell_keep hb5 y0; replace y1 := cell_keep hb5 y1; replace y2 := cell_keep hb5 y2; replace z0 := cell_keep hb5 z0; replace z1 := cell_keep hb5 z1; replace z2 := cell_keep hb5 z2; clear hb5))
        all_goals
          first
            | (have e1 : a.toList = p.toList := by assumption
               have e2 : b.toList = q.toList := by assumption
               have e3 : c.toList = r.toList := by assumption
               obtain rfl : X = 0 := HZ.out.2 ⟨⟨e1, e2⟩, e3⟩)
            | (have hx0 : (X == 0) = false := by
                rw [beq_eq_false_iff_ne]; intro e; have h := HZ.out.1 e
                first | exact ‹¬ a.toList = p.toList› h.1.1 | exact ‹¬ b.toList = q.toList› h.1.2 | exact ‹¬ c.toList = r.toList› h.2)
          clear x0 x1 x2 y0 y1 y2 z0 z1 z2
        · by_cases s2 : 0 < Y
          · go_wp2_with (fail)
            go_ret
            exact ⟨ret_bool (by simp), B0⟩
          · have s3 : Z ≤ 0 := HT.out (by omega) (by omega)
            go_wp2_with (fail)
            go_ret
            exact ⟨ret_bool (by simp), B0⟩
        all_goals
          by_cases s1 : 0 < X
          · go_wp2_with (fail)
            go_ret
            exact ⟨ret_bool (by simp), B0⟩
          · by_cases s2 : 0 < Y
            · go_wp2_with (fail)
              go_ret
              exact ⟨ret_bool (by simp), B0⟩
            · have s3 : Z ≤ 0 := HT.out (by omega) (by omega)
              go_wp2_with (fail)
              go_ret
              exact ⟨ret_bool (by simp), B0⟩

end Go.Proofs.Ytpfkacmogggemaa
