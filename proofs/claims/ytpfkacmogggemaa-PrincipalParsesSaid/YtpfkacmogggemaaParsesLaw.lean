/-
  The law PrincipalParses: what any text is parsed to.
-/
import Derived.Test.YtpfkacmogggemaaOrderLaw
import Derived.Test.YtpfkacmogggemaaOpen
namespace Go.Proofs.Ytpfkacmogggemaa
open Go.RowKit

theorem parseV_form (s r : List UInt8) : ∃ a b c : ByteArray, ∃ e : Int, Hid (parseV s r = .tuple #[.agg #[.string a, .string b, .string c], .int .i64 e]) := by
  unfold parseV
  split
  · exact ⟨_, _, _, _, rfl⟩
  · exact ⟨_, _, _, _, rfl⟩

theorem le3 {a b : ByteArray} {k : Nat} (h : a.size ≤ 3 * k) (hb : b.size ≤ 3) : (a ++ b).size ≤ 3 * (k + 1) := by
  rw [ByteArray.size_append]; omega

set_option maxRecDepth 100000 in
set_option maxHeartbeats 1600000 in
theorem parsesLaw_walk (s r : ByteArray) (a : Option Addr) (len cap : Nat) (zs : List Int) (w : World) (hm : MaxOk w) (hs : s.size ≤ maxLen) (hr : r.size ≤ maxLen) (hz : RowU8 w a len zs) :
    Calls Try.prog 4 #[.string s, .string r, .slice a len cap] w fun e w' => e = .returned (.bool true) ∧ Below w.heap.size w w' := by
  have hp := hm.pos
  unfold maxLen at hs hr
  by_cases h1 : 200 < (s.size : Int) ∨ 100 < (r.size : Int) ∨ 40 < (len : Int)
  · go_enter Try.func4, Try.ntmps4
    have H1 := Lib.hid h1
    clear h1
    go_wp2_with (fail)
    refine (awake_any _ hm).mono ?_
    rintro e w1 ⟨rfl, hb1⟩
    by_cases k1 : 200 < (s.size : Int)
    · go_wp2_with (fail)
      go_ret
      exact ⟨rfl, hb1⟩
    · by_cases k2 : 100 < (r.size : Int)
      · go_wp2_with (fail)
        go_ret
        exact ⟨rfl, hb1⟩
      · have k3 : 40 < (len : Int) := by have := H1.out; omega
        go_wp2_with (fail)
        go_ret
        exact ⟨rfl, hb1⟩
  · have k1 : (s.size : Int) ≤ 200 := by omega
    have k2 : (r.size : Int) ≤ 100 := by omega
    have k3 : (len : Int) ≤ 40 := by omega
    clear h1
    have HZ := Lib.hid hz
    clear hz
    go_enter Try.func4, Try.ntmps4
    go_wp2_with (fail)
    refine (awake_any _ hm).mono ?_
    rintro e w1 ⟨rfl, hb1⟩
    go_wp2_with (fail)
    go_loopw [7, 8] (fun m i wr => ∃ (mb : ByteArray) (k : Nat), k ≤ len ∧ i = .int .i64 k ∧ m = .string mb ∧ mb.size ≤ 3 * k ∧ Below w.heap.size w wr) (fun _ i _ => len - (intOf i).toNat)
    case atStart => exact ⟨⟨#[]⟩, 0, Nat.zero_le _, rfl, rfl, by decide, hb1⟩
    case round =>
      obtain ⟨mb, k, hk, rfl, rfl, hmb, B0⟩ := hrel
      by_cases hlt : k < len
      · obtain ⟨b, off, z, rfl, ⟨z1, z2⟩, hc0⟩ := HZ.out.at hlt
        have hc := cell_keep B0 hc0
        have hbs := cell_lt hc
        clear hc0
        have e8 : z % 8 = 0 ∨ z % 8 = 1 ∨ z % 8 = 2 ∨ z % 8 = 3 ∨ z % 8 = 4 ∨ z % 8 = 5 ∨ z % 8 = 6 ∨ z % 8 = 7 := by omega
        have i1 : (0 : Int) ≤ (k : Int) := by omega
        have i2 : (k : Int) < (len : Int) := by omega
        rcases e8 with e8 | e8 | e8 | e8 | e8 | e8 | e8 | e8
        all_goals
          go_wp2_with (fail)
          go_roundw
          case rel => exact ⟨_, k + 1, by omega, by go_num, rfl, by first | exact le3 hmb (by decide) | omega, B0.alloc B0.size _⟩
          case measure => simp [intOf]; omega
      · have hmb2 : mb.size ≤ 120 := by omega
        have e1 : (ByteArray.mk #[64]).size = 1 := rfl
        have q1 : (mb ++ (ByteArray.mk #[64])).size ≤ 121 := by rw [ByteArray.size_append, e1]; omega
        have q2 : (mb ++ (ByteArray.mk #[64]) ++ r).size ≤ 221 := by rw [ByteArray.size_append]; omega
        have B1 : Below w.heap.size w (wr.alloc (Obj.cells #[.string s, .string mb, .string (mb ++ (ByteArray.mk #[64]) ++ r)] 9)) := B0.alloc B0.size _
        have hl : ∀ i, i < 3 → ∃ x : ByteArray, (wr.alloc (Obj.cells #[.string s, .string mb, .string (mb ++ (ByteArray.mk #[64]) ++ r)] 9)).cell? ⟨wr.heap.size, i, none⟩ = some (.string x) ∧ x.size ≤ 1000 := by
          intro i hi
          match i, hi with
          | 0, _ => exact ⟨s, by simp [go_sem], by omega⟩
          | 1, _ => exact ⟨mb, by simp [go_sem], by omega⟩
          | 2, _ => exact ⟨_, by simp [go_sem]; rfl, by omega⟩
        have HL := Lib.hid hl
        have HQ := Lib.hid q2
        have HB := Lib.hid B1
        clear hl q1 q2 B1 e1
        go_wp2_with (fail)
        obtain ⟨V, hV⟩ : ∃ V : World, Hid (V = wr.alloc (Obj.cells #[.string s, .string mb, .string (mb ++ (ByteArray.mk #[64]) ++ r)] 9)) := ⟨_, rfl⟩
        rw [← hV.out] at HL HB ⊢
        go_loopw [10] (fun i wx => ∃ n : Nat, n ≤ 3 ∧ i = .int .i64 n ∧ Below V.heap.size V wx) (fun i _ => 3 - (intOf i).toNat)
        case atStart => exact ⟨0, by omega, rfl, Below.refl _ _⟩
        case round =>
          obtain ⟨n, hn, rfl, B2⟩ := hrel
          by_cases hn3 : n < 3
          · obtain ⟨x, hx, hxs⟩ := HL.out n hn3
            have HX := Lib.hid hx
            clear hx
            have hd : decide ((n : Int) < 3) = true := by simp; omega
            go_wp2_with (fail)
            go_loopw [11] (fun i wx => ∃ n : Nat, n ≤ 2 ∧ i = .int .i64 n ∧ Below V.heap.size V wx) (fun i _ => 2 - (intOf i).toNat)
            case atStart => exact ⟨0, by omega, rfl, B2⟩
            case round =>
              clear B2
              obtain ⟨j, hj, rfl, B2⟩ := hrel
              by_cases hj2 : j < 2
              · have hj3 : j = 0 ∨ j = 1 := by omega
                have hx := cell_keep B2 HX.out
                rcases hj3 with rfl | rfl
                all_goals
                  have hxl := cell_lt hx
                  have xs' : x.size < 4294967281 := by omega
                  go_wp2_with (fail)
                  refine (parse_any _ _ _ ?_ xs' (by first | decide | (unfold maxLen; omega))).mono ?_
                  · exact (hm.below (below_keep B2 HB.out)).below ((Below.refl _ _).alloc (Nat.le_refl _) _)
                  rintro e w2 ⟨rfl, hb2⟩
                  replace B2 := below_keep hb2 (B2.alloc B2.size _)
                  obtain ⟨pa, pb, pc, pe, hpv⟩ := parseV_form x.data.toList _
                  rw [hpv.out]
                  have hx2 := cell_keep B2 HX.out
                  have hxl2 := cell_lt hx2
                  go_wp2_with (fail)
                  refine (refParse_any _ _ _ xs' (by first | decide | (unfold maxLen; omega))).mono ?_
                  rintro e w3 ⟨rfl, hb3⟩
                  rw [hpv.out]
                  have B3 := below_keep hb3 (B2.alloc B2.size _)
                  have y0 : w3.cell? ⟨w2.heap.size, 0, none⟩ = some (.string pa) := cell_keep hb3 (by simp [go_sem])
                  have y1 : w3.cell? ⟨w2.heap.size, 1, none⟩ = some (.string pb) := cell_keep hb3 (by simp [go_sem])
                  have y2 : w3.cell? ⟨w2.heap.size, 2, none⟩ = some (.string pc) := cell_keep hb3 (by simp [go_sem])
                  have yl := cell_lt y0
                  clear hx hx2 hxl hxl2
                  go_wp2_with (fail)
                  go_roundw
                  case rel => first | exact ⟨1, by omega, rfl, B3.alloc B3.size _⟩ | exact ⟨2, by omega, rfl, B3.alloc B3.size _⟩
                  case measure => simp [intOf]
              · go_wp2_with (fail)
                go_roundw
                case rel => exact ⟨n + 1, by omega, by go_num, B2⟩
                case measure => simp [intOf]; omega
          · go_wp2_with (fail)
            go_ret
            exact ⟨rfl, below_keep B2 HB.out⟩

end Go.Proofs.Ytpfkacmogggemaa
