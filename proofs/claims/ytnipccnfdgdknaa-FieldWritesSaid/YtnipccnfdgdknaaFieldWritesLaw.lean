/-
  The law FieldWrites: what the functions Put.. append, for any numbers, texts and principals.
-/
import Derived.Test.YtnipccnfdgdknaaFieldH
import Derived.Test.YtnipccnfdgdknaaGrow
import Derived.Test.YtnipccnfdgdknaaFieldRP
namespace Go.Proofs.Ytnipccnfdgdknaa
open Go.RowKit

set_option maxRecDepth 100000 in
set_option maxHeartbeats 6400000 in
theorem writesLaw_walk (A : Option Addr) (bn bcap : Nat) (zs : List Int) (n : Int) (l : Bool) (s a b c : ByteArray) (w : World) (hB : Sl w A bn bcap zs) (_ : -9223372036854775808 ≤ n) (_ : n ≤ 9223372036854775807) (hs : s.size ≤ maxLen) (ha : a.size ≤ maxLen) (hb : b.size ≤ maxLen) (hc : c.size ≤ maxLen) :
    Calls Try.prog 3 #[.slice A bn bcap, .int .i64 n, .bool l, .string s, .agg #[.string a, .string b, .string c]] w fun e w' => e = .returned (.bool true) ∧ Below w.heap.size w w' := by
  have hmaxb := hB.max
  unfold maxLen at hmaxb hs ha hb hc
  have Bw : Below w.heap.size w (w.alloc (.cells #[.string a, .string b, .string c] 24)) := (Below.refl _ _).alloc (Nat.le_refl _) _
  have c0 : (w.alloc (.cells #[.string a, .string b, .string c] 24)).cell? ⟨w.heap.size, 0, none⟩ = some (.string a) := by simp [go_sem]
  have c1 : (w.alloc (.cells #[.string a, .string b, .string c] 24)).cell? ⟨w.heap.size, 1, none⟩ = some (.string b) := by simp [go_sem]
  have c2 : (w.alloc (.cells #[.string a, .string b, .string c] 24)).cell? ⟨w.heap.size, 2, none⟩ = some (.string c) := by simp [go_sem]
  have hB0 := Lib.hid (hB.keep Bw)
  by_cases h1 : 200 < (bn : Int) ∨ 200 < (s.size : Int) ∨ 100 < (a.size : Int) ∨ 100 < (b.size : Int) ∨ 100 < (c.size : Int)
  · rcases h1 with h1 | h1 | h1 | h1 | h1
    all_goals
      go_enter Try.func3, Try.ntmps3
      go_wp2_with (fail)
      refine (awake5_any _).mono ?_
      rintro e w1 ⟨rfl, hb1⟩
      replace c0 := cell_keep hb1 c0
      replace c1 := cell_keep hb1 c1
      replace c2 := cell_keep hb1 c2
      have B1 := below_keep hb1 Bw
      go_wp2_with (fail)
      all_goals
        go_ret
        exact ⟨rfl, B1⟩
  · have g1 : (bn : Int) ≤ 200 := by omega
    have g2 : (s.size : Int) ≤ 200 := by omega
    have g3 : (a.size : Int) ≤ 100 := by omega
    have g4 : (b.size : Int) ≤ 100 := by omega
    have g5 : (c.size : Int) ≤ 100 := by omega
    clear h1
    go_enter Try.func3, Try.ntmps3
    go_wp2_with (fail)
    refine (awake5_any _).mono ?_
    rintro e w1 ⟨rfl, hb1⟩
    replace c0 := cell_keep hb1 c0
    replace c1 := cell_keep hb1 c1
    replace c2 := cell_keep hb1 c2
    have hB1 := Lib.hid (hB0.out.keep hb1)
    have B1 := Lib.hid (below_keep hb1 Bw)
    clear hb1 hB0
    go_wp2_with (fail)
    refine wp_region_held_drew (S := (fun W => Below w1.heap.size w1 W ∧ W.cell? ⟨w.heap.size, 0, none⟩ = some (.string a) ∧ W.cell? ⟨w.heap.size, 1, none⟩ = some (.string b) ∧ W.cell? ⟨w.heap.size, 2, none⟩ = some (.string c))) (by kernel_rfl) ⟨(Below.refl _ _).drew, c0, c1, c2⟩ (fun hS => ?_)
    clear c0 c1 c2
    refine' wpAnyH_take (i := 0) (v := ?v0) rfl (by kernel_rfl) (by kernel_rfl) (by kernel_rfl) (fun _ _ _ h => h) (Or.inl ⟨by kernel_rfl, fun W hW => ?y0⟩) hS ?r0
    case y0 => (go_simp; first | done | with_reducible rfl)
    refine' wpAnyH_take (i := 1) (v := ?v1) rfl (by kernel_rfl) (by kernel_rfl) (by kernel_rfl) (fun _ _ _ h => h) (Or.inl ⟨by kernel_rfl, fun W hW => ?y1⟩) hS ?r1
    case y1 => (go_simp; first | done | with_reducible rfl)
    refine' wpAnyH_take (i := 2) (v := ?v2) rfl (by kernel_rfl) (by kernel_rfl) (by kernel_rfl) (fun _ _ _ h => h) (Or.inl ⟨by kernel_rfl, fun W hW => ?y2⟩) hS ?r2
    case y2 => (go_simp; first | done | with_reducible rfl)
    refine' wpAnyH_take (i := 5) (v := ?v5) rfl (by kernel_rfl) (by kernel_rfl) (by kernel_rfl) (fun _ _ _ h => h) (Or.inl ⟨by kernel_rfl, fun W hW => ?y5⟩) hS ?r5
    case y5 => (go_simp; first | done | with_reducible rfl)
    refine' wpAnyH_take (i := 6) (v := ?v6) rfl (by kernel_rfl) (by kernel_rfl) (by kernel_rfl) (fun _ _ _ h => h) (Or.inl ⟨by kernel_rfl, fun W hW => ?y6⟩) hS ?r6
    case y6 => (go_simp; first | done | with_reducible rfl)
    refine' wpAnyH_take (i := 7) (v := ?v7) rfl (by kernel_rfl) (by kernel_rfl) (by kernel_rfl) (fun _ _ _ h => h) (Or.inl ⟨by kernel_rfl, fun W hW => ?y7⟩) hS ?r7
    case y7 => (go_simp; first | done | with_reducible rfl)
    refine wpAnyH_ready (rs := [3]) (by kernel_rfl) (by simp) ?_
    refine AllReadyH.cons rfl (fun K hK => ?_) AllReadyH.nil
    go_simp
    refine (fputNumber_any _ _ _ zs n l _ (hB1.out.keep hS.1) (by omega)).mono ?_
    rintro e w2 ⟨A2, n2, d2, rfl, hs2, hb2, _⟩
    go_wp2_with (fail)
    have hb2' := below_keep hb2 hS.1
    refine hK.out _ _ ⟨hb2', cell_keep hb2 hS.2.1, cell_keep hb2 hS.2.2.1, cell_keep hb2 hS.2.2.2⟩ (fun hS2 => ?_)
    clear hK K
    have hB2 := Lib.hid (hB1.out.keep hb2')
    have B2 := Lib.hid (below_keep hb2' B1.out)
    have cv := fun (W : World) (hb : Below w2.heap.size w2 W) => conv_sl (hs2.keep hb)
    refine held_grow (S' := (fun W => Below w2.heap.size w2 W ∧ W.cell? ⟨w.heap.size, 0, none⟩ = some (.string a) ∧ W.cell? ⟨w.heap.size, 1, none⟩ = some (.string b) ∧ W.cell? ⟨w.heap.size, 2, none⟩ = some (.string c))) (fun W hW => ⟨below_keep hW.1 hb2', hW.2⟩) _ _ _ _ ?_
    replace hS : Below w2.heap.size w2 w2 ∧ _ := ⟨Below.refl _ _, hS2.2⟩
    clear hS2 hb2 hb2' hB1 B1
    refine' wpAnyH_take (i := 4) (v := ?v4) rfl (by kernel_rfl) (by kernel_rfl) (by kernel_rfl) (fun _ _ _ h => h) (Or.inl ⟨by kernel_rfl, fun W hW => ?y4⟩) hS ?r4
    case y4 => (have hcv := cv W hW.1; go_simp; first | done | with_reducible rfl)
    clear cv hs2
    refine wpAnyH_ready (rs := [8]) (by kernel_rfl) (by simp) ?_
    refine AllReadyH.cons rfl (fun K hK => ?_) AllReadyH.nil
    go_simp
    refine (r5putNumber_any _ _ _ zs n l _ (hB2.out.keep hS.1) (by omega)).mono ?_
    rintro e w3 ⟨A3, n3, d3, rfl, hs3, hb3, _⟩
    go_wp2_with (fail)
    have hb3' := below_keep hb3 hS.1
    refine hK.out _ _ ⟨hb3', cell_keep hb3 hS.2.1, cell_keep hb3 hS.2.2.1, cell_keep hb3 hS.2.2.2⟩ (fun hS2 => ?_)
    clear hK K
    have hB3 := Lib.hid (hB2.out.keep hb3')
    have B3 := Lib.hid (below_keep hb3' B2.out)
    have cv := fun (W : World) (hb : Below w3.heap.size w3 W) => conv_sl (hs3.keep hb)
    refine held_grow (S' := (fun W => Below w3.heap.size w3 W ∧ W.cell? ⟨w.heap.size, 0, none⟩ = some (.string a) ∧ W.cell? ⟨w.heap.size, 1, none⟩ = some (.string b) ∧ W.cell? ⟨w.heap.size, 2, none⟩ = some (.string c))) (fun W hW => ⟨below_keep hW.1 hb3', hW.2⟩) _ _ _ _ ?_
    replace hS : Below w3.heap.size w3 w3 ∧ _ := ⟨Below.refl _ _, hS2.2⟩
    clear hS2 hb3 hb3' hB2 B2
    refine' wpAnyH_take (i := 9) (v := ?v9) rfl (by kernel_rfl) (by kernel_rfl) (by kernel_rfl) (fun _ _ _ h => h) (Or.inl ⟨by kernel_rfl, fun W hW => ?y9⟩) hS ?r9
    case y9 => (have hcv := cv W hW.1; go_simp; first | done | with_reducible rfl)
    clear cv hs3
    refine' wpAnyH_take (i := 10) (v := ?v10) rfl (by kernel_rfl) (by kernel_rfl) (by kernel_rfl) (fun _ _ _ h => h) (Or.inl ⟨by kernel_rfl, fun W hW => ?y10⟩) hS ?r10
    case y10 => (go_simp; first | done | with_reducible rfl)
    refine' wpAnyH_take (i := 11) (v := ?v11) rfl (by kernel_rfl) (by kernel_rfl) (by kernel_rfl) (fun _ _ _ h => h) (Or.inl ⟨by kernel_rfl, fun W hW => ?y11⟩) hS ?r11
    case y11 => (go_simp; first | done | with_reducible rfl)
    refine' wpAnyH_take (i := 12) (v := ?v12) rfl (by kernel_rfl) (by kernel_rfl) (by kernel_rfl) (fun _ _ _ h => h) (Or.inl ⟨by kernel_rfl, fun W hW => ?y12⟩) hS ?r12
    case y12 => (go_simp; first | done | with_reducible rfl)
    refine' wpAnyH_take (i := 13) (v := ?v13) rfl (by kernel_rfl) (by kernel_rfl) (by kernel_rfl) (fun _ _ _ h => h) (Or.inl ⟨by kernel_rfl, fun W hW => ?y13⟩) hS ?r13
    case y13 => (go_simp; first | done | with_reducible rfl)
    refine' wpAnyH_take (i := 14) (v := ?v14) rfl (by kernel_rfl) (by kernel_rfl) (by kernel_rfl) (fun _ _ _ h => h) (Or.inl ⟨by kernel_rfl, fun W hW => ?y14⟩) hS ?r14
    case y14 => (go_simp; first | done | with_reducible rfl)
    refine' wpAnyH_take (i := 17) (v := ?v17) rfl (by kernel_rfl) (by kernel_rfl) (by kernel_rfl) (fun _ _ _ h => h) (Or.inl ⟨by kernel_rfl, fun W hW => ?y17⟩) hS ?r17
    case y17 => (go_simp; first | done | with_reducible rfl)
    refine' wpAnyH_take (i := 18) (v := ?v18) rfl (by kernel_rfl) (by kernel_rfl) (by kernel_rfl) (fun _ _ _ h => h) (Or.inl ⟨by kernel_rfl, fun W hW => ?y18⟩) hS ?r18
    case y18 => (go_simp; first | done | with_reducible rfl)
    refine' wpAnyH_take (i := 19) (v := ?v19) rfl (by kernel_rfl) (by kernel_rfl) (by kernel_rfl) (fun _ _ _ h => h) (Or.inl ⟨by kernel_rfl, fun W hW => ?y19⟩) hS ?r19
    case y19 => (go_simp; first | done | with_reducible rfl)
    refine wpAnyH_ready (rs := [15]) (by kernel_rfl) (by simp) ?_
    refine AllReadyH.cons rfl (fun K hK => ?_) AllReadyH.nil
    go_simp
    refine (fputShort_any _ _ _ zs n l _ (hB3.out.keep hS.1) (by omega)).mono ?_
    rintro e w4 ⟨A4, n4, d4, rfl, hs4, hb4, _⟩
    go_wp2_with (fail)
    have hb4' := below_keep hb4 hS.1
    refine hK.out _ _ ⟨hb4', cell_keep hb4 hS.2.1, cell_keep hb4 hS.2.2.1, cell_keep hb4 hS.2.2.2⟩ (fun hS2 => ?_)
    clear hK K
    have hB4 := Lib.hid (hB3.out.keep hb4')
    have B4 := Lib.hid (below_keep hb4' B3.out)
    have cv := fun (W : World) (hb : Below w4.heap.size w4 W) => conv_sl (hs4.keep hb)
    refine held_grow (S' := (fun W => Below w4.heap.size w4 W ∧ W.cell? ⟨w.heap.size, 0, none⟩ = some (.string a) ∧ W.cell? ⟨w.heap.size, 1, none⟩ = some (.string b) ∧ W.cell? ⟨w.heap.size, 2, none⟩ = some (.string c))) (fun W hW => ⟨below_keep hW.1 hb4', hW.2⟩) _ _ _ _ ?_
    replace hS : Below w4.heap.size w4 w4 ∧ _ := ⟨Below.refl _ _, hS2.2⟩
    clear hS2 hb4 hb4' hB3 B3
    refine' wpAnyH_take (i := 16) (v := ?v16) rfl (by kernel_rfl) (by kernel_rfl) (by kernel_rfl) (fun _ _ _ h => h) (Or.inl ⟨by kernel_rfl, fun W hW => ?y16⟩) hS ?r16
    case y16 => (have hcv := cv W hW.1; go_simp; first | done | with_reducible rfl)
    clear cv hs4
    refine wpAnyH_ready (rs := [20]) (by kernel_rfl) (by simp) ?_
    refine AllReadyH.cons rfl (fun K hK => ?_) AllReadyH.nil
    go_simp
    refine (r5putShort_any _ _ _ zs n l _ (hB4.out.keep hS.1) (by omega)).mono ?_
    rintro e w5 ⟨A5, n5, d5, rfl, hs5, hb5, _⟩
    go_wp2_with (fail)
    have hb5' := below_keep hb5 hS.1
    refine hK.out _ _ ⟨hb5', cell_keep hb5 hS.2.1, cell_keep hb5 hS.2.2.1, cell_keep hb5 hS.2.2.2⟩ (fun hS2 => ?_)
    clear hK K
    have hB5 := Lib.hid (hB4.out.keep hb5')
    have B5 := Lib.hid (below_keep hb5' B4.out)
    have cv := fun (W : World) (hb : Below w5.heap.size w5 W) => conv_sl (hs5.keep hb)
    refine held_grow (S' := (fun W => Below w5.heap.size w5 W ∧ W.cell? ⟨w.heap.size, 0, none⟩ = some (.string a) ∧ W.cell? ⟨w.heap.size, 1, none⟩ = some (.string b) ∧ W.cell? ⟨w.heap.size, 2, none⟩ = some (.string c))) (fun W hW => ⟨below_keep hW.1 hb5', hW.2⟩) _ _ _ _ ?_
    replace hS : Below w5.heap.size w5 w5 ∧ _ := ⟨Below.refl _ _, hS2.2⟩
    clear hS2 hb5 hb5' hB4 B4
    refine' wpAnyH_take (i := 21) (v := ?v21) rfl (by kernel_rfl) (by kernel_rfl) (by kernel_rfl) (fun _ _ _ h => h) (Or.inl ⟨by kernel_rfl, fun W hW => ?y21⟩) hS ?r21
    case y21 => (have hcv := cv W hW.1; go_simp; first | done | with_reducible rfl)
    clear cv hs5
    refine' wpAnyH_take (i := 22) (v := ?v22) rfl (by kernel_rfl) (by kernel_rfl) (by kernel_rfl) (fun _ _ _ h => h) (Or.inl ⟨by kernel_rfl, fun W hW => ?y22⟩) hS ?r22
    case y22 => (go_simp; first | done | with_reducible rfl)
    refine' wpAnyH_take (i := 23) (v := ?v23) rfl (by kernel_rfl) (by kernel_rfl) (by kernel_rfl) (fun _ _ _ h => h) (Or.inl ⟨by kernel_rfl, fun W hW => ?y23⟩) hS ?r23
    case y23 => (go_simp; first | done | with_reducible rfl)
    refine' wpAnyH_take (i := 24) (v := ?v24) rfl (by kernel_rfl) (by kernel_rfl) (by kernel_rfl) (fun _ _ _ h => h) (Or.inl ⟨by kernel_rfl, fun W hW => ?y24⟩) hS ?r24
    case y24 => (go_simp; first | done | with_reducible rfl)
    refine' wpAnyH_take (i := 25) (v := ?v25) rfl (by kernel_rfl) (by kernel_rfl) (by kernel_rfl) (fun _ _ _ h => h) (Or.inl ⟨by kernel_rfl, fun W hW => ?y25⟩) hS ?r25
    case y25 => (go_simp; first | done | with_reducible rfl)
    refine' wpAnyH_take (i := 26) (v := ?v26) rfl (by kernel_rfl) (by kernel_rfl) (by kernel_rfl) (fun _ _ _ h => h) (Or.inl ⟨by kernel_rfl, fun W hW => ?y26⟩) hS ?r26
    case y26 => (go_simp; first | done | with_reducible rfl)
    refine' wpAnyH_take (i := 29) (v := ?v29) rfl (by kernel_rfl) (by kernel_rfl) (by kernel_rfl) (fun _ _ _ h => h) (Or.inl ⟨by kernel_rfl, fun W hW => ?y29⟩) hS ?r29
    case y29 => (go_simp; first | done | with_reducible rfl)
    refine' wpAnyH_take (i := 30) (v := ?v30) rfl (by kernel_rfl) (by kernel_rfl) (by kernel_rfl) (fun _ _ _ h => h) (Or.inl ⟨by kernel_rfl, fun W hW => ?y30⟩) hS ?r30
    case y30 => (go_simp; first | done | with_reducible rfl)
    refine wpAnyH_ready (rs := [27]) (by kernel_rfl) (by simp) ?_
    refine AllReadyH.cons rfl (fun K hK => ?_) AllReadyH.nil
    go_simp
    refine (fputOctet_any _ _ _ zs n _ (hB5.out.keep hS.1) (by omega)).mono ?_
    rintro e w6 ⟨A6, n6, d6, rfl, hs6, hb6, _⟩
    go_wp2_with (fail)
    have hb6' := below_keep hb6 hS.1
    refine hK.out _ _ ⟨hb6', cell_keep hb6 hS.2.1, cell_keep hb6 hS.2.2.1, cell_keep hb6 hS.2.2.2⟩ (fun hS2 => ?_)
    clear hK K
    have hB6 := Lib.hid (hB5.out.keep hb6')
    have B6 := Lib.hid (below_keep hb6' B5.out)
    have cv := fun (W : World) (hb : Below w6.heap.size w6 W) => conv_sl (hs6.keep hb)
    refine held_grow (S' := (fun W => Below w6.heap.size w6 W ∧ W.cell? ⟨w.heap.size, 0, none⟩ = some (.string a) ∧ W.cell? ⟨w.heap.size, 1, none⟩ = some (.string b) ∧ W.cell? ⟨w.heap.size, 2, none⟩ = some (.string c))) (fun W hW => ⟨below_keep hW.1 hb6', hW.2⟩) _ _ _ _ ?_
    replace hS : Below w6.heap.size w6 w6 ∧ _ := ⟨Below.refl _ _, hS2.2⟩
    clear hS2 hb6 hb6' hB5 B5
    refine' wpAnyH_take (i := 28) (v := ?v28) rfl (by kernel_rfl) (by kernel_rfl) (by kernel_rfl) (fun _ _ _ h => h) (Or.inl ⟨by kernel_rfl, fun W hW => ?y28⟩) hS ?r28
    case y28 => (have hcv := cv W hW.1; go_simp; first | done | with_reducible rfl)
    clear cv hs6
    refine wpAnyH_ready (rs := [31]) (by kernel_rfl) (by simp) ?_
    refine AllReadyH.cons rfl (fun K hK => ?_) AllReadyH.nil
    go_simp
    refine (r5putOctet_any _ _ _ zs n _ (hB6.out.keep hS.1) (by omega)).mono ?_
    rintro e w7 ⟨A7, n7, d7, rfl, hs7, hb7, _⟩
    go_wp2_with (fail)
    have hb7' := below_keep hb7 hS.1
    refine hK.out _ _ ⟨hb7', cell_keep hb7 hS.2.1, cell_keep hb7 hS.2.2.1, cell_keep hb7 hS.2.2.2⟩ (fun hS2 => ?_)
    clear hK K
    have hB7 := Lib.hid (hB6.out.keep hb7')
    have B7 := Lib.hid (below_keep hb7' B6.out)
    have cv := fun (W : World) (hb : Below w7.heap.size w7 W) => conv_sl (hs7.keep hb)
    refine held_grow (S' := (fun W => Below w7.heap.size w7 W ∧ W.cell? ⟨w.heap.size, 0, none⟩ = some (.string a) ∧ W.cell? ⟨w.heap.size, 1, none⟩ = some (.string b) ∧ W.cell? ⟨w.heap.size, 2, none⟩ = some (.string c))) (fun W hW => ⟨below_keep hW.1 hb7', hW.2⟩) _ _ _ _ ?_
    replace hS : Below w7.heap.size w7 w7 ∧ _ := ⟨Below.refl _ _, hS2.2⟩
    clear hS2 hb7 hb7' hB6 B6
    refine' wpAnyH_take (i := 32) (v := ?v32) rfl (by kernel_rfl) (by kernel_rfl) (by kernel_rfl) (fun _ _ _ h => h) (Or.inl ⟨by kernel_rfl, fun W hW => ?y32⟩) hS ?r32
    case y32 => (have hcv := cv W hW.1; go_simp; first | done | with_reducible rfl)
    clear cv hs7
    refine' wpAnyH_take (i := 33) (v := ?v33) rfl (by kernel_rfl) (by kernel_rfl) (by kernel_rfl) (fun _ _ _ h => h) (Or.inl ⟨by kernel_rfl, fun W hW => ?y33⟩) hS ?r33
    case y33 => (go_simp; first | done | with_reducible rfl)
    refine' wpAnyH_take (i := 34) (v := ?v34) rfl (by kernel_rfl) (by kernel_rfl) (by kernel_rfl) (fun _ _ _ h => h) (Or.inl ⟨by kernel_rfl, fun W hW => ?y34⟩) hS ?r34
    case y34 => (go_simp; first | done | with_reducible rfl)
    refine' wpAnyH_take (i := 35) (v := ?v35) rfl (by kernel_rfl) (by kernel_rfl) (by kernel_rfl) (fun _ _ _ h => h) (Or.inl ⟨by kernel_rfl, fun W hW => ?y35⟩) hS ?r35
    case y35 => (go_simp; first | done | with_reducible rfl)
    refine' wpAnyH_take (i := 36) (v := ?v36) rfl (by kernel_rfl) (by kernel_rfl) (by kernel_rfl) (fun _ _ _ h => h) (Or.inl ⟨by kernel_rfl, fun W hW => ?y36⟩) hS ?r36
    case y36 => (go_simp; first | done | with_reducible rfl)
    refine' wpAnyH_take (i := 37) (v := ?v37) rfl (by kernel_rfl) (by kernel_rfl) (by kernel_rfl) (fun _ _ _ h => h) (Or.inl ⟨by kernel_rfl, fun W hW => ?y37⟩) hS ?r37
    case y37 => (go_simp; first | done | with_reducible rfl)
    refine' wpAnyH_take (i := 40) (v := ?v40) rfl (by kernel_rfl) (by kernel_rfl) (by kernel_rfl) (fun _ _ _ h => h) (Or.inl ⟨by kernel_rfl, fun W hW => ?y40⟩) hS ?r40
    case y40 => (go_simp; first | done | with_reducible rfl)
    refine' wpAnyH_take (i := 41) (v := ?v41) rfl (by kernel_rfl) (by kernel_rfl) (by kernel_rfl) (fun _ _ _ h => h) (Or.inl ⟨by kernel_rfl, fun W hW => ?y41⟩) hS ?r41
    case y41 => (go_simp; first | done | with_reducible rfl)
    refine wpAnyH_ready (rs := [38]) (by kernel_rfl) (by simp) ?_
    refine AllReadyH.cons rfl (fun K hK => ?_) AllReadyH.nil
    go_simp
    refine (fputText_any _ _ _ zs s _ (hB7.out.keep hS.1) (by omega) (by omega)).mono ?_
    rintro e w8 ⟨A8, n8, d8, rfl, hs8, hb8, _⟩
    go_wp2_with (fail)
    have hb8' := below_keep hb8 hS.1
    refine hK.out _ _ ⟨hb8', cell_keep hb8 hS.2.1, cell_keep hb8 hS.2.2.1, cell_keep hb8 hS.2.2.2⟩ (fun hS2 => ?_)
    clear hK K
    have hB8 := Lib.hid (hB7.out.keep hb8')
    have B8 := Lib.hid (below_keep hb8' B7.out)
    have cv := fun (W : World) (hb : Below w8.heap.size w8 W) => conv_sl (hs8.keep hb)
    refine held_grow (S' := (fun W => Below w8.heap.size w8 W ∧ W.cell? ⟨w.heap.size, 0, none⟩ = some (.string a) ∧ W.cell? ⟨w.heap.size, 1, none⟩ = some (.string b) ∧ W.cell? ⟨w.heap.size, 2, none⟩ = some (.string c))) (fun W hW => ⟨below_keep hW.1 hb8', hW.2⟩) _ _ _ _ ?_
    replace hS : Below w8.heap.size w8 w8 ∧ _ := ⟨Below.refl _ _, hS2.2⟩
    clear hS2 hb8 hb8' hB7 B7
    refine' wpAnyH_take (i := 39) (v := ?v39) rfl (by kernel_rfl) (by kernel_rfl) (by kernel_rfl) (fun _ _ _ h => h) (Or.inl ⟨by kernel_rfl, fun W hW => ?y39⟩) hS ?r39
    case y39 => (have hcv := cv W hW.1; go_simp; first | done | with_reducible rfl)
    clear cv hs8
    refine wpAnyH_ready (rs := [42]) (by kernel_rfl) (by simp) ?_
    refine AllReadyH.cons rfl (fun K hK => ?_) AllReadyH.nil
    go_simp
    refine (r5putText_any _ _ _ zs s _ (hB8.out.keep hS.1) (by omega) (by omega)).mono ?_
    rintro e w9 ⟨A9, n9, d9, rfl, hs9, hb9, _⟩
    go_wp2_with (fail)
    have hb9' := below_keep hb9 hS.1
    refine hK.out _ _ ⟨hb9', cell_keep hb9 hS.2.1, cell_keep hb9 hS.2.2.1, cell_keep hb9 hS.2.2.2⟩ (fun hS2 => ?_)
    clear hK K
    have hB9 := Lib.hid (hB8.out.keep hb9')
    have B9 := Lib.hid (below_keep hb9' B8.out)
    have cv := fun (W : World) (hb : Below w9.heap.size w9 W) => conv_sl (hs9.keep hb)
    refine held_grow (S' := (fun W => Below w9.heap.size w9 W ∧ W.cell? ⟨w.heap.size, 0, none⟩ = some (.string a) ∧ W.cell? ⟨w.heap.size, 1, none⟩ = some (.string b) ∧ W.cell? ⟨w.heap.size, 2, none⟩ = some (.string c))) (fun W hW => ⟨below_keep hW.1 hb9', hW.2⟩) _ _ _ _ ?_
    replace hS : Below w9.heap.size w9 w9 ∧ _ := ⟨Below.refl _ _, hS2.2⟩
    clear hS2 hb9 hb9' hB8 B8
    refine' wpAnyH_take (i := 43) (v := ?v43) rfl (by kernel_rfl) (by kernel_rfl) (by kernel_rfl) (fun _ _ _ h => h) (Or.inl ⟨by kernel_rfl, fun W hW => ?y43⟩) hS ?r43
    case y43 => (have hcv := cv W hW.1; go_simp; first | done | with_reducible rfl)
    clear cv hs9
    refine' wpAnyH_take (i := 44) (v := ?v44) rfl (by kernel_rfl) (by kernel_rfl) (by kernel_rfl) (fun _ _ _ h => h) (Or.inl ⟨by kernel_rfl, fun W hW => ?y44⟩) hS ?r44
    case y44 => (go_simp; first | done | with_reducible rfl)
    refine' wpAnyH_take (i := 45) (v := ?v45) rfl (by kernel_rfl) (by kernel_rfl) (by kernel_rfl) (fun _ _ _ h => h) (Or.inl ⟨by kernel_rfl, fun W hW => ?y45⟩) hS ?r45
    case y45 => (go_simp; first | done | with_reducible rfl)
    refine' wpAnyH_take (i := 46) (v := ?v46) rfl (by kernel_rfl) (by kernel_rfl) (by kernel_rfl) (fun _ _ _ h => h) (Or.inl ⟨by kernel_rfl, fun W hW => ?y46⟩) hS ?r46
    case y46 => (go_simp; first | done | with_reducible rfl)
    refine' wpAnyH_take (i := 47) (v := ?v47) rfl (by kernel_rfl) (by kernel_rfl) (by kernel_rfl) (fun _ _ _ h => h) (Or.inl ⟨by kernel_rfl, fun W hW => ?y47⟩) hS ?r47
    case y47 => (go_simp; first | done | with_reducible rfl)
    refine' wpAnyH_take (i := 48) (v := ?v48) rfl (by kernel_rfl) (by kernel_rfl) (by kernel_rfl) (fun _ _ _ h => h) (Or.inl ⟨by kernel_rfl, fun W hW => ?y48⟩) hS ?r48
    case y48 => (obtain ⟨_, hc0, hc1, hc2⟩ := hW; go_simp; first | done | with_reducible rfl)
    refine' wpAnyH_take (i := 51) (v := ?v51) rfl (by kernel_rfl) (by kernel_rfl) (by kernel_rfl) (fun _ _ _ h => h) (Or.inl ⟨by kernel_rfl, fun W hW => ?y51⟩) hS ?r51
    case y51 => (go_simp; first | done | with_reducible rfl)
    refine' wpAnyH_take (i := 52) (v := ?v52) rfl (by kernel_rfl) (by kernel_rfl) (by kernel_rfl) (fun _ _ _ h => h) (Or.inl ⟨by kernel_rfl, fun W hW => ?y52⟩) hS ?r52
    case y52 => (obtain ⟨_, hc0, hc1, hc2⟩ := hW; go_simp; first | done | with_reducible rfl)
    refine wpAnyH_ready (rs := [49]) (by kernel_rfl) (by simp) ?_
    refine AllReadyH.cons rfl (fun K hK => ?_) AllReadyH.nil
    go_simp
    refine (fputPrincipal_any _ _ _ zs a b c _ (hB9.out.keep hS.1) (by omega) (by omega) (by omega) (by omega)).mono ?_
    rintro e w10 ⟨A10, n10, d10, rfl, hs10, hb10, _⟩
    go_wp2_with (fail)
    have hb10' := below_keep hb10 hS.1
    refine hK.out _ _ ⟨hb10', cell_keep hb10 hS.2.1, cell_keep hb10 hS.2.2.1, cell_keep hb10 hS.2.2.2⟩ (fun hS2 => ?_)
    clear hK K
    have hB10 := Lib.hid (hB9.out.keep hb10')
    have B10 := Lib.hid (below_keep hb10' B9.out)
    have cv := fun (W : World) (hb : Below w10.heap.size w10 W) => conv_sl (hs10.keep hb)
    refine held_grow (S' := (fun W => Below w10.heap.size w10 W ∧ W.cell? ⟨w.heap.size, 0, none⟩ = some (.string a) ∧ W.cell? ⟨w.heap.size, 1, none⟩ = some (.string b) ∧ W.cell? ⟨w.heap.size, 2, none⟩ = some (.string c))) (fun W hW => ⟨below_keep hW.1 hb10', hW.2⟩) _ _ _ _ ?_
    replace hS : Below w10.heap.size w10 w10 ∧ _ := ⟨Below.refl _ _, hS2.2⟩
    clear hS2 hb10 hb10' hB9 B9
    refine' wpAnyH_take (i := 50) (v := ?v50) rfl (by kernel_rfl) (by kernel_rfl) (by kernel_rfl) (fun _ _ _ h => h) (Or.inl ⟨by kernel_rfl, fun W hW => ?y50⟩) hS ?r50
    case y50 => (have hcv := cv W hW.1; go_simp; first | done | with_reducible rfl)
    clear cv hs10
    refine wpAnyH_ready (rs := [53]) (by kernel_rfl) (by simp) ?_
    refine AllReadyH.cons rfl (fun K hK => ?_) AllReadyH.nil
    go_simp
    refine (r5putPrincipal_any _ _ _ zs a b c _ (hB10.out.keep hS.1) (by omega) (by omega) (by omega) (by omega)).mono ?_
    rintro e w11 ⟨A11, n11, d11, rfl, hs11, hb11, _⟩
    go_wp2_with (fail)
    have hb11' := below_keep hb11 hS.1
    refine hK.out _ _ ⟨hb11', cell_keep hb11 hS.2.1, cell_keep hb11 hS.2.2.1, cell_keep hb11 hS.2.2.2⟩ (fun hS2 => ?_)
    clear hK K
    have hB11 := Lib.hid (hB10.out.keep hb11')
    have B11 := Lib.hid (below_keep hb11' B10.out)
    have cv := fun (W : World) (hb : Below w11.heap.size w11 W) => conv_sl (hs11.keep hb)
    refine held_grow (S' := (fun W => Below w11.heap.size w11 W ∧ W.cell? ⟨w.heap.size, 0, none⟩ = some (.string a) ∧ W.cell? ⟨w.heap.size, 1, none⟩ = some (.string b) ∧ W.cell? ⟨w.heap.size, 2, none⟩ = some (.string c))) (fun W hW => ⟨below_keep hW.1 hb11', hW.2⟩) _ _ _ _ ?_
    replace hS : Below w11.heap.size w11 w11 ∧ _ := ⟨Below.refl _ _, hS2.2⟩
    clear hS2 hb11 hb11' hB10 B10
    refine' wpAnyH_take (i := 54) (v := ?v54) rfl (by kernel_rfl) (by kernel_rfl) (by kernel_rfl) (fun _ _ _ h => h) (Or.inl ⟨by kernel_rfl, fun W hW => ?y54⟩) hS ?r54
    case y54 => (have hcv := cv W hW.1; go_simp; first | done | with_reducible rfl)
    clear cv hs11
    refine' wpAnyH_take (i := 55) (v := ?v55) rfl (by kernel_rfl) (by kernel_rfl) (by kernel_rfl) (fun _ _ _ h => h) (Or.inl ⟨by kernel_rfl, fun W hW => ?y55⟩) hS ?r55
    case y55 => (go_simp; first | done | with_reducible rfl)
    refine' wpAnyH_take (i := 56) (v := ?v56) rfl (by kernel_rfl) (by kernel_rfl) (by kernel_rfl) (fun _ _ _ h => h) (Or.inl ⟨by kernel_rfl, fun W hW => ?y56⟩) hS ?r56
    case y56 => (go_simp; first | done | with_reducible rfl)
    refine' wpAnyH_take (i := 57) (v := ?v57) rfl (by kernel_rfl) (by kernel_rfl) (by kernel_rfl) (fun _ _ _ h => h) (Or.inl ⟨by kernel_rfl, fun W hW => ?y57⟩) hS ?r57
    case y57 => (go_simp; first | done | with_reducible rfl)
    refine' wpAnyH_take (i := 58) (v := ?v58) rfl (by kernel_rfl) (by kernel_rfl) (by kernel_rfl) (fun _ _ _ h => h) (Or.inl ⟨by kernel_rfl, fun W hW => ?y58⟩) hS ?r58
    case y58 => (go_simp; first | done | with_reducible rfl)
    refine' wpAnyH_take (i := 61) (v := ?v61) rfl (by kernel_rfl) (by kernel_rfl) (by kernel_rfl) (fun _ _ _ h => h) (Or.inl ⟨by kernel_rfl, fun W hW => ?y61⟩) hS ?r61
    case y61 => (go_simp; first | done | with_reducible rfl)
    refine wpAnyH_ready (rs := [59]) (by kernel_rfl) (by simp) ?_
    refine AllReadyH.cons rfl (fun K hK => ?_) AllReadyH.nil
    go_simp
    refine (fpad_any _ _ _ zs  _ (hB11.out.keep hS.1) (by omega)).mono ?_
    rintro e w12 ⟨A12, n12, d12, rfl, hs12, hb12, _⟩
    go_wp2_with (fail)
    have hb12' := below_keep hb12 hS.1
    refine hK.out _ _ ⟨hb12', cell_keep hb12 hS.2.1, cell_keep hb12 hS.2.2.1, cell_keep hb12 hS.2.2.2⟩ (fun hS2 => ?_)
    clear hK K
    have hB12 := Lib.hid (hB11.out.keep hb12')
    have B12 := Lib.hid (below_keep hb12' B11.out)
    have cv := fun (W : World) (hb : Below w12.heap.size w12 W) => conv_sl (hs12.keep hb)
    refine held_grow (S' := (fun W => Below w12.heap.size w12 W ∧ W.cell? ⟨w.heap.size, 0, none⟩ = some (.string a) ∧ W.cell? ⟨w.heap.size, 1, none⟩ = some (.string b) ∧ W.cell? ⟨w.heap.size, 2, none⟩ = some (.string c))) (fun W hW => ⟨below_keep hW.1 hb12', hW.2⟩) _ _ _ _ ?_
    replace hS : Below w12.heap.size w12 w12 ∧ _ := ⟨Below.refl _ _, hS2.2⟩
    clear hS2 hb12 hb12' hB11 B11
    refine' wpAnyH_take (i := 60) (v := ?v60) rfl (by kernel_rfl) (by kernel_rfl) (by kernel_rfl) (fun _ _ _ h => h) (Or.inl ⟨by kernel_rfl, fun W hW => ?y60⟩) hS ?r60
    case y60 => (have hcv := cv W hW.1; go_simp; first | done | with_reducible rfl)
    clear cv hs12
    refine wpAnyH_ready (rs := [62]) (by kernel_rfl) (by simp) ?_
    refine AllReadyH.cons rfl (fun K hK => ?_) AllReadyH.nil
    go_simp
    refine (r5pad_any _ _ _ zs  _ (hB12.out.keep hS.1) (by omega)).mono ?_
    rintro e w13 ⟨A13, n13, d13, rfl, hs13, hb13, _⟩
    go_wp2_with (fail)
    have hb13' := below_keep hb13 hS.1
    refine hK.out _ _ ⟨hb13', cell_keep hb13 hS.2.1, cell_keep hb13 hS.2.2.1, cell_keep hb13 hS.2.2.2⟩ (fun hS2 => ?_)
    clear hK K
    have hB13 := Lib.hid (hB12.out.keep hb13')
    have B13 := Lib.hid (below_keep hb13' B12.out)
    have cv := fun (W : World) (hb : Below w13.heap.size w13 W) => conv_sl (hs13.keep hb)
    refine held_grow (S' := (fun W => Below w13.heap.size w13 W ∧ W.cell? ⟨w.heap.size, 0, none⟩ = some (.string a) ∧ W.cell? ⟨w.heap.size, 1, none⟩ = some (.string b) ∧ W.cell? ⟨w.heap.size, 2, none⟩ = some (.string c))) (fun W hW => ⟨below_keep hW.1 hb13', hW.2⟩) _ _ _ _ ?_
    replace hS : Below w13.heap.size w13 w13 ∧ _ := ⟨Below.refl _ _, hS2.2⟩
    clear hS2 hb13 hb13' hB12 B12
    refine' wpAnyH_take (i := 63) (v := ?v63) rfl (by kernel_rfl) (by kernel_rfl) (by kernel_rfl) (fun _ _ _ h => h) (Or.inl ⟨by kernel_rfl, fun W hW => ?y63⟩) hS ?r63
    case y63 => (have hcv := cv W hW.1; go_simp; first | done | with_reducible rfl)
    clear cv hs13
    refine' wpAnyH_take (i := 64) (v := ?v64) rfl (by kernel_rfl) (by kernel_rfl) (by kernel_rfl) (fun _ _ _ h => h) (Or.inl ⟨by kernel_rfl, fun W hW => ?y64⟩) hS ?r64
    case y64 => (go_simp; first | done | with_reducible rfl)
    refine' wpAnyH_take (i := 65) (v := ?v65) rfl (by kernel_rfl) (by kernel_rfl) (by kernel_rfl) (fun _ _ _ h => h) (Or.inl ⟨by kernel_rfl, fun W hW => ?y65⟩) hS ?r65
    case y65 => (go_simp; first | done | with_reducible rfl)
    refine' wpAnyH_take (i := 66) (v := ?v66) rfl (by kernel_rfl) (by kernel_rfl) (by kernel_rfl) (fun _ _ _ h => h) (Or.inl ⟨by kernel_rfl, fun W hW => ?y66⟩) hS ?r66
    case y66 => (go_simp; first | done | with_reducible rfl)
    refine wpAnyH_done (by kernel_rfl) ?_ _
    go_wp2_with (fail)
    go_ret
    exact ⟨ret_bool (by simp), B13.out⟩

end Go.Proofs.Ytnipccnfdgdknaa
