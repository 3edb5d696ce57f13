/-
  The law BoxTells: what any bytes are opened to, with any key and kind.
-/
import Derived.Test.YtcbneeckbpgmgaaBoxS
import Derived.Test.YtcbneeckbpgmgaaBoxRC
import Derived.Deep.RegionHeld3
import Derived.IntWalk
namespace Go.Proofs.Ytcbneeckbpgmgaa
open Go.RowKit

set_option maxRecDepth 100000 in
set_option maxHeartbeats 6400000 in
theorem tellsLaw_walk (RA : Option Addr) (rn rcap : Nat) (rs : List Int) (A : Option Addr) (bn bcap : Nat) (bs : List Int) (kind key nn s : Int) (w : World) (hR : Sl w RA rn rcap rs) (hB : Sl w A bn bcap bs) (_ : -9223372036854775808 ≤ kind) (_ : kind ≤ 9223372036854775807)
    (_ : 0 ≤ key) (_ : key ≤ 18446744073709551615) (n0 : 0 ≤ nn) (n1 : nn ≤ 255) (s0 : 0 ≤ s) (s1 : s ≤ 65535) :
    Calls Try.prog 6 #[.slice RA rn rcap, .slice A bn bcap, .int .i64 kind, .int .u64 key, .int .u8 nn, .int .u16 s] w fun e w' => e = .returned (.bool true) ∧ Below w.heap.size w w' := by
  have hmaxr := hR.max
  have hmaxb := hB.max
  unfold maxLen at hmaxr hmaxb
  by_cases h1 : 1100 < (rn : Int) ∨ 900 < (bn : Int)
  · have h1' : (decide (1100 < (rn : Int)) || decide (900 < (bn : Int))) = true := by simpa using h1
    rcases h1 with h1 | h1
    all_goals
      go_enter Try.func6, Try.ntmps6
      go_wp2_with (fail)
      refine (awake4_any _).mono ?_
      rintro e w1 ⟨rfl, B⟩
      go_wp2_with (fail)
      all_goals
        go_ret
        exact ⟨rfl, B⟩
  · have h2 : (rn : Int) ≤ 1100 := by omega
    have h3 : (bn : Int) ≤ 900 := by omega
    clear h1
    obtain ⟨v1, v2, v3⟩ := keyOf_facts (c := 1) (.inl rfl) n0 n1
    have hl := Lib.hid hB.len
    go_enter Try.func6, Try.ntmps6
    go_wp2_with (fail)
    refine (awake4_any _).mono ?_
    rintro e w1 ⟨rfl, B⟩
    have hB1 := hB.keep B
    have hR1 := hR.keep B
    go_wp2_with (first | (go_at_call 10; refine (long_any _ _ n0 n1).mono ?_; rintro e w' ⟨rfl, rfl⟩))
    refine (r4make_any _ _ _ _ _ _ _ hB1 v2 v3).mono ?_
    rintro e w2 ⟨A2, n2, c2, rfl, hs2, hb2⟩
    replace B := below_keep hb2 B
    replace hR1 := hR1.keep hb2
    have hn2 : n2 ≤ 1000 := by have := hs2.len; have := S4.mkB_len (1 + nn % 10) (keyOf 1 nn) bs; have := hl.out; omega
    clear hb2 hB1
    go_wp2_with (fail)
    refine (spoil_any _ _ _ _ _ _ hs2 (by omega) s0 s1).mono ?_
    rintro e w3 ⟨A3, n3, c3, ys, rfl, hs3, hn3, hb3, _⟩
    replace B := below_keep hb3 B
    replace hR1 := hR1.keep hb3
    replace hs2 := hs2.keep hb3
    clear hb3
    have Ba : Below w3.heap.size w3 (w3.alloc (.cells #[.slice RA rn rcap, .slice A2 n2 c2, .slice A3 n3 c3] 24)) := (Below.refl _ _).alloc (Nat.le_refl _) _
    have HL : ∀ i, i < 3 → ∃ A n c zs, (w3.alloc (.cells #[.slice RA rn rcap, .slice A2 n2 c2, .slice A3 n3 c3] 24)).cell? ⟨w3.heap.size, i, none⟩ = some (.slice A n c) ∧ Sl (w3.alloc (.cells #[.slice RA rn rcap, .slice A2 n2 c2, .slice A3 n3 c3] 24)) A n c zs := by
      intro i hi
      match i, hi with
      | 0, _ => exact ⟨RA, rn, rcap, _, by simp [go_sem], hR1.keep Ba⟩
      | 1, _ => exact ⟨A2, n2, c2, _, by simp [go_sem], hs2.keep Ba⟩
      | 2, _ => exact ⟨A3, n3, c3, _, by simp [go_sem], hs3.keep Ba⟩
    have BW := Lib.hid (below_keep Ba B)
    replace HL := Lib.hid HL
    clear Ba hR1 hs2 hs3
    go_wp2_with (fail)
    go_loopw [16] (fun i wr => ∃ p : Nat, p ≤ 3 ∧ i = .int .i64 p ∧ Below (w3.alloc (.cells #[.slice RA rn rcap, .slice A2 n2 c2, .slice A3 n3 c3] 24)).heap.size (w3.alloc (.cells #[.slice RA rn rcap, .slice A2 n2 c2, .slice A3 n3 c3] 24)) wr) (fun i _ => 3 - (intOf i).toNat)
    case atStart => exact ⟨0, by omega, rfl, Below.refl _ _⟩
    case round =>
      obtain ⟨p, hp, rfl, BR⟩ := hrel
      by_cases hlt : p < 3
      · obtain ⟨X, m, c, zs, hx, hsl⟩ := HL.out p hlt
        have hx0 := cell_keep BR hx
        have hz0 := hsl.keep BR
        have i1 : (0 : Int) ≤ (p : Int) := by omega
        have i2 : (p : Int) < (3 : Int) := by omega
        replace BR := Lib.hid BR
        clear hx hsl
        go_wp2_with (fail)
        refine (bopen_any _ _ _ _ kind key _ hz0).mono ?_
        rintro e w5 ⟨A5, n5, c5, rfl, hs5, hb5, _⟩
        have hx5 := cell_keep hb5 hx0
        have hz5 := hz0.keep hb5
        have B5 := Lib.hid (below_keep hb5 BR.out)
        replace hs5 := Lib.hid hs5
        clear hb5 hx0 hz0 BR
        go_wp2_with (fail)
        refine (r4open_any _ _ _ _ kind key _ hz5).mono ?_
        rintro e w6 ⟨A6, n6, c6, rfl, hs6, hb6, _⟩
        have f1 := conv_sl (hs5.out.keep hb6)
        have f2 := conv_sl hs6
        have hx6 := cell_keep hb6 hx5
        have hz6 := Lib.hid (hz5.keep hb6)
        have B6 := Lib.hid (below_keep hb6 B5.out)
        clear hs6 hb6 hx5 hz5 B5 hs5
        go_wp2_with (fail)
        clear f1 f2
        have O1 := Lib.hid (fun (W : World) (hb : Below w6.heap.size w6 W) => bopen_any X m c zs (1 + nn % 10) (keyOf 1 nn) W (hz6.out.keep hb))
        have ha := IntWalk.i64_in nn (by omega)
        have hb : nn.tmod 10 = nn % 10 := Int.tmod_eq_emod_of_nonneg (by omega)
        have hc := IntWalk.i64_in (nn % 10) (by omega)
        have hd := IntWalk.i64_in (1 + nn % 10) (by omega)
        go_region_held3 (fun W => Below w6.heap.size w6 W ∧ W.cell? ⟨w3.heap.size, p, none⟩ = some (.slice X m c)) (first | (go_keep; done) | ((repeat' apply And.intro) <;> first | (go_keep; done) | exact (Below.refl _ _).drew | exact below_keep hb7 (by go_keep) | exact cell_keep hb7 (by go_keep)))
          (first
            | (go_at_call 10; refine (long_any _ _ n0 n1).mono ?_; rintro e w' ⟨rfl, rfl⟩)
            | (go_at_call 19; refine (O1.out _ ?_).mono ?_; exact And.left ‹Below w6.heap.size w6 _ ∧ _›; rintro e w7 ⟨A7, n7, c7, rfl, hs7, hb7, _⟩))
        have hS7 := And.left ‹Below w6.heap.size w6 w7 ∧ _›
        have hx7 := cell_keep hS7 hx6
        have hz7 := Lib.hid (hz6.out.keep hS7)
        have B7 := Lib.hid (below_keep hS7 B6.out)
        replace hs7 := Lib.hid hs7
        clear hS7 hb7 O1 hx6 hz6 B6
        clear ha hb hc hd
        go_wp2_with (fail)
        have O2 := Lib.hid (fun (W : World) (hb : Below w7.heap.size w7 W) => r4open_any X m c zs (1 + nn % 10) (keyOf 1 nn) W (hz7.out.keep hb))
        have ha := IntWalk.i64_in nn (by omega)
        have hb : nn.tmod 10 = nn % 10 := Int.tmod_eq_emod_of_nonneg (by omega)
        have hc := IntWalk.i64_in (nn % 10) (by omega)
        have hd := IntWalk.i64_in (1 + nn % 10) (by omega)
        go_region_held3 (fun W => Below w7.heap.size w7 W ∧ W.cell? ⟨w3.heap.size, p, none⟩ = some (.slice X m c)) (first | (go_keep; done) | ((repeat' apply And.intro) <;> first | (go_keep; done) | exact (Below.refl _ _).drew | exact below_keep hb8 (by go_keep) | exact cell_keep hb8 (by go_keep)))
          (first
            | (go_at_call 10; refine (long_any _ _ n0 n1).mono ?_; rintro e w' ⟨rfl, rfl⟩)
            | (go_at_call 20; refine (O2.out _ ?_).mono ?_; exact And.left ‹Below w7.heap.size w7 _ ∧ _›; rintro e w8 ⟨A8, n8, c8, rfl, hs8, hb8, _⟩))
        have hS8 := And.left ‹Below w7.heap.size w7 w8 ∧ _›
        have B8 := Lib.hid (below_keep hS8 B7.out)
        have f3 := conv_sl (hs7.out.keep hS8)
        have f4 := conv_sl hs8
        clear hS8 hb8 O2 hx7 hz7 B7 hs8 hs7
        clear ha hb hc hd
        go_wp2_with (fail)
        go_roundw
        case rel => exact ⟨p + 1, by omega, by go_num, B8.out⟩
        case measure => simp [intOf]; omega
      · go_wp2_with (fail)
        go_ret
        exact ⟨ret_bool (by simp), below_keep BR BW.out⟩

end Go.Proofs.Ytcbneeckbpgmgaa
