/-
  The law FieldTexts: which texts and principals are read at any index, or the error.
-/
import Derived.Test.YtnipccnfdgdknaaFieldH
import Derived.Test.YtnipccnfdgdknaaGrow
import Derived.Test.YtnipccnfdgdknaaFieldRP
import Derived.Test.YtnipccnfdgdknaaDataP
import Derived.Test.YtnipccnfdgdknaaSpoil
import Derived.IntWalk
import Derived.Deep.DeepCutAuto
namespace Go.Proofs.Ytnipccnfdgdknaa
open Go.RowKit

/-- Four slices of bytes behind each other in one block. -/
def Slots (w : World) (g : Nat) (ps : List Piece) : Prop := ∀ i p, ps[i]? = some p → w.cell? ⟨g, i, none⟩ = some p.val ∧ Sl w p.A p.n p.c p.ys ∧ p.n ≤ 1000
theorem Slots.keep {w w' : World} {g : Nat} {ps : List Piece} (hb : Below w.heap.size w w') (h : Slots w g ps) : Slots w' g ps := fun i p e => ⟨cell_keep hb (h i p e).1, (h i p e).2.1.keep hb, (h i p e).2.2⟩

/-- The text that the law cuts. -/
theorem nn42 : nn 39 ++ ⟨#[110, 110, 110]⟩ = nn 42 := by decide

theorem field0 (w : World) (a b c : ByteArray) : (Instr.field 24 (.agg #[.string a, .string b, .string c]) 0).run Try.prog w = .ok (.string a) w := by kernel_rfl

/-- Some bytes that were made. -/
theorem pp_some (a b c : ByteArray) (w : World) (ha : a.size ≤ 39) (hb : b.size ≤ 39) (hc : c.size ≤ 39) : Calls Try.prog 17 #[.slice none 0 0, .agg #[.string a, .string b, .string c]] w (SomeB 200 w) :=
  (r5putPrincipal_any none 0 0 [] a b c w (Sl.nil w) (by decide) (by omega) (by omega) (by omega)).mono fun e w' ⟨A, n, cap, he, hs, hb', hf⟩ => ⟨A, n, cap, _, he, hs, by
    have := hs.len
    simp [S5.three, S5.text, nums_len] at this
    omega, hb', hf⟩
theorem pt_some (s : ByteArray) (w : World) (hs : s.size ≤ 42) : Calls Try.prog 15 #[.slice none 0 0, .string s] w (SomeB 100 w) :=
  (r5putText_any none 0 0 [] s w (Sl.nil w) (by decide) (by omega)).mono fun e w' ⟨A, n, cap, he, hs', hb', hf⟩ => ⟨A, n, cap, _, he, hs', by
    have := hs'.len
    simp [S5.text, nums_len] at this
    omega, hb', hf⟩
theorem sp_some (A : Option Addr) (n cap : Nat) (zs : List Int) (s : Int) (w : World) (h : Sl w A n cap zs) (hn : n ≤ 200) (s0 : 0 ≤ s) (s1 : s ≤ 65535) : Calls Try.prog 22 #[.slice A n cap, .int .u16 s] w (SomeB 300 w) :=
  (spoil_any A n cap zs s w h (by omega) s0 s1).mono fun e w' ⟨A, n, cap, ys, he, hs', hn', hb', hf⟩ => ⟨A, n, cap, ys, he, hs', by omega, hb', hf⟩
theorem cut42 (k : Nat) (h : k ≤ 42) : ((nn 42).extract 0 k).size ≤ 42 := by
  rw [ByteArray.size_extract, nn_size]; omega

theorem four_slots {A1 A2 A3 A4 : Option Addr} {n1 n2 n3 n4 c1 c2 c3 c4 : Nat} {y1 y2 y3 y4 : List Int} (w : World) (h1 : Sl w A1 n1 c1 y1) (m1 : n1 ≤ 1000) (h2 : Sl w A2 n2 c2 y2 ∧ n2 ≤ 300) (h3 : Sl w A3 n3 c3 y3 ∧ n3 ≤ 100) (h4 : Sl w A4 n4 c4 y4 ∧ n4 ≤ 42) :
    Slots (w.alloc (.cells #[.slice A1 n1 c1, .slice A2 n2 c2, .slice A3 n3 c3, .slice A4 n4 c4] 22)) w.heap.size [⟨A1, n1, c1, y1⟩, ⟨A2, n2, c2, y2⟩, ⟨A3, n3, c3, y3⟩, ⟨A4, n4, c4, y4⟩] := by
  have B : Below w.heap.size w (w.alloc (.cells #[.slice A1 n1 c1, .slice A2 n2 c2, .slice A3 n3 c3, .slice A4 n4 c4] 22)) := (Below.refl _ _).alloc (Nat.le_refl _) _
  intro i p e
  match i, e with
  | 0, e => simp at e; subst e; exact ⟨by simp [go_sem, Piece.val], h1.keep B, m1⟩
  | 1, e => simp at e; subst e; exact ⟨by simp [go_sem, Piece.val], h2.1.keep B, Nat.le_trans h2.2 (by decide)⟩
  | 2, e => simp at e; subst e; exact ⟨by simp [go_sem, Piece.val], h3.1.keep B, Nat.le_trans h3.2 (by decide)⟩
  | 3, e => simp at e; subst e; exact ⟨by simp [go_sem, Piece.val], h4.1.keep B, Nat.le_trans h4.2 (by decide)⟩
  | i + 4, e => simp at e

/-- What a person's or the longest names are. -/
theorem who_cases (n : Int) : (userS n).size ≤ 39 ∧ (realmS n).size ≤ 39 := by
  refine ⟨?_, ?_⟩
  · rcases user_cases n with h | h | h <;> rw [h] <;> decide
  · rcases realm_cases n with h | h | h <;> rw [h] <;> decide

set_option maxRecDepth 100000 in
set_option maxHeartbeats 6400000 in
theorem textsLaw_walk (A : Option Addr) (bn bcap : Nat) (zs : List Int) (at' size who how : Int) (w : World) (hB : Sl w A bn bcap zs) (_ : -9223372036854775808 ≤ at') (_ : at' ≤ 9223372036854775807) (s0 : 0 ≤ size) (s1 : size ≤ 255) (o0 : 0 ≤ who) (o1 : who ≤ 255) (h0 : 0 ≤ how) (h1 : how ≤ 65535) :
    Calls Try.prog 4 #[.slice A bn bcap, .int .i64 at', .int .u8 size, .int .u8 who, .int .u16 how] w fun e w' => e = .returned (.bool true) ∧ Below w.heap.size w w' := by
  have hmaxb := hB.max
  unfold maxLen at hmaxb
  by_cases hlong : 300 < (bn : Int)
  · go_enter Try.func4, Try.ntmps4
    go_wp2_with (fail)
    refine (awake5_any _).mono ?_
    rintro e w1 ⟨rfl, hb1⟩
    go_wp2_with (fail)
    go_ret
    exact ⟨rfl, hb1⟩
  · have hlong' : bn ≤ 1000 := by omega
    go_enter Try.func4, Try.ntmps4
    go_wp2_with (fail)
    refine (awake5_any _).mono ?_
    rintro e w1 ⟨rfl, hb1⟩
    go_wp2_with (fail)
    refine (user_any _ _ o0 o1).mono ?_
    rintro e w2 ⟨rfl, hb2⟩
    have B2 := Lib.hid (below_keep hb2 hb1)
    clear hb2 hb1
    have hw : who % 5 = 4 ∨ ¬ who % 5 = 4 := by omega
    replace hw := Lib.hid hw
    go_upto_if 35 with (fail)
    go_cut [] (fun W => (∃ a b c, W.cell? ⟨w2.heap.size, 0, none⟩ = some (.string a) ∧ W.cell? ⟨w2.heap.size, 1, none⟩ = some (.string b) ∧ W.cell? ⟨w2.heap.size, 2, none⟩ = some (.string c) ∧ a.size ≤ 39 ∧ b.size ≤ 39 ∧ c.size ≤ 39) ∧ Below w.heap.size w W)
    case first =>
      rcases hw.out with hw1 | hw1
      · go_wp2_with (fail)
        refine (longest_any (who % 2) _ (by omega)).mono ?_
        rintro e w3 ⟨rfl, hb3⟩
        have c0 : w3.cell? ⟨w2.heap.size, 0, none⟩ = some (.string (userS who)) := cell_keep hb3 (by simp [go_sem])
        have c1 : w3.cell? ⟨w2.heap.size, 1, none⟩ = some (.string ⟨#[]⟩) := cell_keep hb3 (by simp [go_sem])
        have c2 : w3.cell? ⟨w2.heap.size, 2, none⟩ = some (.string (realmS (who / 3))) := cell_keep hb3 (by simp [go_sem])
        have c3 : ∀ o, w3.frozen? ⟨w2.heap.size, o, none⟩ = false := fun o => by rw [(bcell hb3).2 _ _ (by simp)]; simp [go_sem]
        have B3 : Below w2.heap.size w2 w3 := below_keep hb3 ((Below.refl _ _).alloc (Nat.le_refl _) _)
        have z3 := cell_lt c0
        have hg : (nn (39 - (who % 2).toNat)).size ≤ 39 := by rw [nn_size]; omega
        generalize nn (39 - (who % 2).toNat) = x at *
        go_wp2_with (fail)
        go_meet
        refine ⟨⟨x, x, x, by simp [go_sem, c0], by simp [go_sem, c1], by simp [go_sem, c2], hg, hg, hg⟩, below_keep ?_ B2.out⟩
        repeat (first | exact B3 | refine Below.setCell ?_ (by simp) _)
      · go_wp2_with (fail)
        go_meet
        exact ⟨⟨userS who, ⟨#[]⟩, realmS (who / 3), by simp [go_sem], by simp [go_sem], by simp [go_sem], (who_cases who).1, by decide, (who_cases (who / 3)).2⟩, B2.out.alloc B2.out.size _⟩
    case rest =>
      obtain ⟨hcells0, B3⟩ := hcut
      obtain ⟨W0, hW0⟩ : ∃ W0, W0 = wc := ⟨_, rfl⟩
      subst hW0
      replace hcells0 := Lib.hid hcells0
      replace B3 := Lib.hid B3
      have hz39 := nn_size 39
      have hn42 := nn42
      have hfd := field0
      go_wp2_with (fail)
      refine (longest_any 0 _ (.inl rfl)).mono ?_
      rintro e w4 ⟨rfl, hb4⟩
      have hcells : ∃ a b c, w4.cell? ⟨w2.heap.size, 0, none⟩ = some (.string a) ∧ w4.cell? ⟨w2.heap.size, 1, none⟩ = some (.string b) ∧ w4.cell? ⟨w2.heap.size, 2, none⟩ = some (.string c) ∧ a.size ≤ 39 ∧ b.size ≤ 39 ∧ c.size ≤ 39 := by
        obtain ⟨a, b, c, q0, q1, q2, q3⟩ := hcells0.out
        exact ⟨a, b, c, cell_keep hb4 q0, cell_keep hb4 q1, cell_keep hb4 q2, q3⟩
      have B4 := Lib.hid (below_keep hb4 B3.out)
      have hB4 := Lib.hid (hB.keep B4.out)
      clear hb4 hcells0 B3 B2
      obtain ⟨a, b, c, hcells⟩ := hcells
      go_upto_region 9 with (fail)
      clear hfd hn42 hz39
      go_cut [13] (fun l wx => ∃ g ps, l = .slice (some ⟨g, 0, none⟩) 4 4 ∧ ps.length = 4 ∧ Slots wx g ps ∧ Below w.heap.size w wx)
      case first =>
        obtain ⟨hq0, hq1, hq2, hqa, hqb, hqc⟩ := hcells
        have hz42 := nn_size 42
        have f1 := IntWalk.i64_in size (by omega)
        have f2 : size.tmod 7 = size % 7 := Int.tmod_eq_emod_of_nonneg s0
        have f3 : size.tmod 43 = size % 43 := Int.tmod_eq_emod_of_nonneg s0
        have f4 := IntWalk.i64_in (size % 7) (by omega)
        have f5 := IntWalk.i64_in (36 + size % 7) (by omega)
        have f6 := IntWalk.i64_in (size % 43) (by omega)
        refine wp_region_held_drew (S := (fun W => Below w4.heap.size w4 W ∧ W.cell? ⟨w2.heap.size, 0, none⟩ = some (.string a) ∧ W.cell? ⟨w2.heap.size, 1, none⟩ = some (.string b) ∧ W.cell? ⟨w2.heap.size, 2, none⟩ = some (.string c))) (by kernel_rfl) ⟨(Below.refl _ _).drew, hq0, hq1, hq2⟩ (fun hS => ?_)
        clear hq0 hq1 hq2
        refine' wpAnyH_take (i := 0) (v := ?v0) rfl (by kernel_rfl) (by kernel_rfl) (by kernel_rfl) (fun _ _ _ h => h) (Or.inl ⟨by kernel_rfl, fun W hW => ?y0⟩) hS ?r0
        case y0 => (go_simp; first | done | with_reducible rfl | (rw [if_pos (by omega)]))
        refine' wpAnyH_take (i := 1) (v := ?v1) rfl (by kernel_rfl) (by kernel_rfl) (by kernel_rfl) (fun _ _ _ h => h) (Or.inl ⟨by kernel_rfl, fun W hW => ?y1⟩) hS ?r1
        case y1 => (obtain ⟨_, hc0, hc1, hc2⟩ := hW; go_simp; first | done | with_reducible rfl | (rw [if_pos (by omega)]))
        refine' wpAnyH_take (i := 3) (v := ?v3) rfl (by kernel_rfl) (by kernel_rfl) (by kernel_rfl) (fun _ _ _ h => h) (Or.inl ⟨by kernel_rfl, fun W hW => ?y3⟩) hS ?r3
        case y3 => (go_simp; first | done | with_reducible rfl | (rw [if_pos (by omega)]))
        refine' wpAnyH_take (i := 5) (v := ?v5) rfl (by kernel_rfl) (by kernel_rfl) (by kernel_rfl) (fun _ _ _ h => h) (Or.inl ⟨by kernel_rfl, fun W hW => ?y5⟩) hS ?r5
        case y5 => (go_simp; first | done | with_reducible rfl | (rw [if_pos (by omega)]))
        refine' wpAnyH_take (i := 6) (v := ?v6) rfl (by kernel_rfl) (by kernel_rfl) (by kernel_rfl) (fun _ _ _ h => h) (Or.inl ⟨by kernel_rfl, fun W hW => ?y6⟩) hS ?r6
        case y6 => (go_simp; first | done | with_reducible rfl | (rw [if_pos (by omega)]))
        refine' wpAnyH_take (i := 7) (v := ?v7) rfl (by kernel_rfl) (by kernel_rfl) (by kernel_rfl) (fun _ _ _ h => h) (Or.inl ⟨by kernel_rfl, fun W hW => ?y7⟩) hS ?r7
        case y7 => (go_simp; first | done | with_reducible rfl | (rw [if_pos (by omega)]))
        refine' wpAnyH_take (i := 8) (v := ?v8) rfl (by kernel_rfl) (by kernel_rfl) (by kernel_rfl) (fun _ _ _ h => h) (Or.inl ⟨by kernel_rfl, fun W hW => ?y8⟩) hS ?r8
        case y8 => (go_simp; first | done | with_reducible rfl | (rw [if_pos (by omega)]))
        refine' wpAnyH_take (i := 9) (v := ?v9) rfl (by kernel_rfl) (by kernel_rfl) (by kernel_rfl) (fun _ _ _ h => h) (Or.inl ⟨by kernel_rfl, fun W hW => ?y9⟩) hS ?r9
        case y9 => (go_simp; first | done | with_reducible rfl | (rw [if_pos (by omega)]))
        refine' wpAnyH_take (i := 10) (v := ?v10) rfl (by kernel_rfl) (by kernel_rfl) (by kernel_rfl) (fun _ _ _ h => h) (Or.inl ⟨by kernel_rfl, fun W hW => ?y10⟩) hS ?r10
        case y10 => (go_simp; first | done | with_reducible rfl | (rw [if_pos (by omega)]))
        refine' wpAnyH_take (i := 12) (v := ?v12) rfl (by kernel_rfl) (by kernel_rfl) (by kernel_rfl) (fun _ _ _ h => h) (Or.inl ⟨by kernel_rfl, fun W hW => ?y12⟩) hS ?r12
        case y12 => (go_simp; first | done | with_reducible rfl | (rw [if_pos (by omega)]))
        refine' wpAnyH_take (i := 13) (v := ?v13) rfl (by kernel_rfl) (by kernel_rfl) (by kernel_rfl) (fun _ _ _ h => h) (Or.inl ⟨by kernel_rfl, fun W hW => ?y13⟩) hS ?r13
        case y13 => (go_simp; first | done | with_reducible rfl | (rw [if_pos (by omega)]))
        refine' wpAnyH_take (i := 14) (v := ?v14) rfl (by kernel_rfl) (by kernel_rfl) (by kernel_rfl) (fun _ _ _ h => h) (Or.inl ⟨by kernel_rfl, fun W hW => ?y14⟩) hS ?r14
        case y14 => (go_simp; first | done | with_reducible rfl | (rw [if_pos (by omega)]))
        refine' wpAnyH_take (i := 15) (v := ?v15) rfl (by kernel_rfl) (by kernel_rfl) (by kernel_rfl) (fun _ _ _ h => h) (Or.inl ⟨by kernel_rfl, fun W hW => ?y15⟩) hS ?r15
        case y15 => (go_simp; first | done | with_reducible rfl | (rw [if_pos (by omega)]))
        refine' wpAnyH_take (i := 16) (v := ?v16) rfl (by kernel_rfl) (by kernel_rfl) (by kernel_rfl) (fun _ _ _ h => h) (Or.inl ⟨by kernel_rfl, fun W hW => ?y16⟩) hS ?r16
        case y16 => (go_simp; first | done | with_reducible rfl | (rw [if_pos (by omega)]))
        have hx1 := Lib.hid (cut42 (36 + size % 7).toNat (by omega))
        have hx2 := Lib.hid (cut42 (size % 43).toNat (by omega))
        clear f1 f2 f3 f4 f5 f6 hz42
        refine wpAnyH_ready (rs := [2, 17]) (by kernel_rfl) (by simp) ?_
        refine AllReadyH.cons rfl (fun K hK => ?_) (AllReadyH.cons rfl (fun K hK => ?_) AllReadyH.nil)
        · go_simp
          refine (pp_some a b c _ hqa hqb hqc).mono ?_
          rintro e w5 ⟨AP, nP, cP, yP, rfl, hsP, hnP, hb5, _⟩
          go_wp2_with (fail)
          have hb5' := below_keep hb5 hS.1
          refine hK.out _ _ ⟨hb5', cell_keep hb5 hS.2.1, cell_keep hb5 hS.2.2.1, cell_keep hb5 hS.2.2.2⟩ (fun hS2 => ?_)
          clear hK K
          have hB5 := Lib.hid (hB4.out.keep hb5')
          have B5 := Lib.hid (below_keep hb5' B4.out)
          have hP := Lib.hid (And.intro hsP hnP)
          clear hsP
          refine held_grow (S' := (fun W => Below w5.heap.size w5 W ∧ W.cell? ⟨w2.heap.size, 0, none⟩ = some (.string a) ∧ W.cell? ⟨w2.heap.size, 1, none⟩ = some (.string b) ∧ W.cell? ⟨w2.heap.size, 2, none⟩ = some (.string c))) (fun W hW => ⟨below_keep hW.1 hb5', hW.2⟩) _ _ _ _ ?_
          replace hS : Below w5.heap.size w5 w5 ∧ _ := ⟨Below.refl _ _, hS2.2⟩
          clear hS2 hb5 hb5' hB4 B4
          refine wpAnyH_ready (rs := [4, 17]) (by kernel_rfl) (by simp) ?_
          refine AllReadyH.cons rfl (fun K hK => ?_) (AllReadyH.cons rfl (fun K hK => ?_) AllReadyH.nil)
          · go_simp
            refine (sp_some _ _ _ _ how _ (hP.out.1.keep hS.1) hP.out.2 h0 h1).mono ?_
            rintro e w6 ⟨AQ, nQ, cQ, yQ, rfl, hsQ, hnQ, hb6, _⟩
            go_wp2_with (fail)
            have hb6' := below_keep hb6 hS.1
            refine hK.out _ _ ⟨hb6', cell_keep hb6 hS.2.1, cell_keep hb6 hS.2.2.1, cell_keep hb6 hS.2.2.2⟩ (fun hS2 => ?_)
            clear hK K
            have hB6 := Lib.hid (hB5.out.keep hb6')
            have B6 := Lib.hid (below_keep hb6' B5.out)
            replace hP := Lib.hid (And.intro (hP.out.1.keep hb6') hP.out.2)
            have hQ := Lib.hid (And.intro hsQ hnQ)
            clear hsQ
            refine held_grow (S' := (fun W => Below w6.heap.size w6 W ∧ W.cell? ⟨w2.heap.size, 0, none⟩ = some (.string a) ∧ W.cell? ⟨w2.heap.size, 1, none⟩ = some (.string b) ∧ W.cell? ⟨w2.heap.size, 2, none⟩ = some (.string c))) (fun W hW => ⟨below_keep hW.1 hb6', hW.2⟩) _ _ _ _ ?_
            replace hS : Below w6.heap.size w6 w6 ∧ _ := ⟨Below.refl _ _, hS2.2⟩
            clear hS2 hb6 hb6' hB5 B5
            refine wpAnyH_ready (rs := [11, 17]) (by kernel_rfl) (by simp) ?_
            refine AllReadyH.cons rfl (fun K hK => ?_) (AllReadyH.cons rfl (fun K hK => ?_) AllReadyH.nil)
            · go_simp
              refine (pt_some _ _ hx1.out).mono ?_
              rintro e w7 ⟨AT, nT, cT, yT, rfl, hsT, hnT, hb7, _⟩
              go_wp2_with (fail)
              have hb7' := below_keep hb7 hS.1
              refine hK.out _ _ ⟨hb7', cell_keep hb7 hS.2.1, cell_keep hb7 hS.2.2.1, cell_keep hb7 hS.2.2.2⟩ (fun hS2 => ?_)
              clear hK K
              have hB7 := Lib.hid (hB6.out.keep hb7')
              have B7 := Lib.hid (below_keep hb7' B6.out)
              replace hP := Lib.hid (And.intro (hP.out.1.keep hb7') hP.out.2)
              replace hQ := Lib.hid (And.intro (hQ.out.1.keep hb7') hQ.out.2)
              have hT := Lib.hid (And.intro hsT hnT)
              clear hsT
              refine held_grow (S' := (fun W => Below w7.heap.size w7 W ∧ W.cell? ⟨w2.heap.size, 0, none⟩ = some (.string a) ∧ W.cell? ⟨w2.heap.size, 1, none⟩ = some (.string b) ∧ W.cell? ⟨w2.heap.size, 2, none⟩ = some (.string c))) (fun W hW => ⟨below_keep hW.1 hb7', hW.2⟩) _ _ _ _ ?_
              replace hS : Below w7.heap.size w7 w7 ∧ _ := ⟨Below.refl _ _, hS2.2⟩
              clear hS2 hb7 hb7' hB6 B6
              refine wpAnyH_ready (rs := [17]) (by kernel_rfl) (by simp) ?_
              refine AllReadyH.cons rfl (fun K hK => ?_) AllReadyH.nil
              go_simp
              obtain ⟨w8, cV, hcv, hsV, hb8, hzz⟩ := conv_bytes _ _ (Nat.le_trans hx2.out (by decide))
              rw [hcv]
              clear hcv hzz
              generalize hgn : ((nn 42).extract 0 (size % 43).toNat).size = nV at hsV ⊢
              generalize hga : (some (⟨_, 0, none⟩ : Addr)) = AV at hsV ⊢
              have hnV : nV ≤ 42 := by rw [← hgn]; exact hx2.out
              clear hga hgn
              go_wp2_with (fail)
              have hb8' := below_keep hb8 hS.1
              refine hK.out _ _ ⟨hb8', cell_keep hb8 hS.2.1, cell_keep hb8 hS.2.2.1, cell_keep hb8 hS.2.2.2⟩ (fun hS2 => ?_)
              clear hK K
              have hB8 := Lib.hid (hB7.out.keep hb8')
              have B8 := Lib.hid (below_keep hb8' B7.out)
              replace hP := Lib.hid (And.intro (hP.out.1.keep hb8') hP.out.2)
              replace hQ := Lib.hid (And.intro (hQ.out.1.keep hb8') hQ.out.2)
              replace hT := Lib.hid (And.intro (hT.out.1.keep hb8') hT.out.2)
              have hV := Lib.hid (And.intro hsV hnV)
              clear hsV
              refine held_grow (S' := (fun W => Below w8.heap.size w8 W ∧ W.cell? ⟨w2.heap.size, 0, none⟩ = some (.string a) ∧ W.cell? ⟨w2.heap.size, 1, none⟩ = some (.string b) ∧ W.cell? ⟨w2.heap.size, 2, none⟩ = some (.string c))) (fun W hW => ⟨below_keep hW.1 hb8', hW.2⟩) _ _ _ _ ?_
              replace hS : Below w8.heap.size w8 w8 ∧ _ := ⟨Below.refl _ _, hS2.2⟩
              clear hS2 hb8 hb8' hB7 B7
              refine wpAnyH_ready (rs := [18]) (by kernel_rfl) (by simp) ?_
              refine AllReadyH.cons rfl (fun K hK => ?_) AllReadyH.nil
              go_simp
              have hbF : Below w8.heap.size w8 (w8.alloc (.cells #[.slice A bn bcap, .slice AQ nQ cQ, .slice AT nT cT, .slice AV nV cV] 22)) := (Below.refl _ _).alloc (Nat.le_refl _) _
              have hsl := four_slots w8 (hB8.out) hlong' hQ.out hT.out hV.out
              have hBF := below_keep hbF B8.out
              refine hK.out _ _ ⟨hbF, cell_keep hbF hS.2.1, cell_keep hbF hS.2.2.1, cell_keep hbF hS.2.2.2⟩ (fun hS2 => ?_)
              clear hK K
              refine' wpAnyH_take (i := 19) (v := ?v808) rfl (by kernel_rfl) (by kernel_rfl) (by kernel_rfl) (fun _ _ _ h => h) (Or.inl ⟨by kernel_rfl, fun W hW => ?y808⟩) hS2 ?r808
              case y808 => (go_simp; first | done | with_reducible rfl)
              refine wpAnyH_done (by kernel_rfl) ?_ _
              go_wp2_with (fail)
              go_meet
              exact ⟨_, _, rfl, rfl, hsl, hBF⟩
            · go_simp
              obtain ⟨w9, cV, hcv, hsV, hb9, hzz⟩ := conv_bytes _ _ (Nat.le_trans hx2.out (by decide))
              rw [hcv]
              clear hcv hzz
              generalize hgn : ((nn 42).extract 0 (size % 43).toNat).size = nV at hsV ⊢
              generalize hga : (some (⟨_, 0, none⟩ : Addr)) = AV at hsV ⊢
              have hnV : nV ≤ 42 := by rw [← hgn]; exact hx2.out
              clear hga hgn
              go_wp2_with (fail)
              have hb9' := below_keep hb9 hS.1
              refine hK.out _ _ ⟨hb9', cell_keep hb9 hS.2.1, cell_keep hb9 hS.2.2.1, cell_keep hb9 hS.2.2.2⟩ (fun hS2 => ?_)
              clear hK K
              have hB9 := Lib.hid (hB6.out.keep hb9')
              have B9 := Lib.hid (below_keep hb9' B6.out)
              replace hP := Lib.hid (And.intro (hP.out.1.keep hb9') hP.out.2)
              replace hQ := Lib.hid (And.intro (hQ.out.1.keep hb9') hQ.out.2)
              have hV := Lib.hid (And.intro hsV hnV)
              clear hsV
              refine held_grow (S' := (fun W => Below w9.heap.size w9 W ∧ W.cell? ⟨w2.heap.size, 0, none⟩ = some (.string a) ∧ W.cell? ⟨w2.heap.size, 1, none⟩ = some (.string b) ∧ W.cell? ⟨w2.heap.size, 2, none⟩ = some (.string c))) (fun W hW => ⟨below_keep hW.1 hb9', hW.2⟩) _ _ _ _ ?_
              replace hS : Below w9.heap.size w9 w9 ∧ _ := ⟨Below.refl _ _, hS2.2⟩
              clear hS2 hb9 hb9' hB6 B6
              refine wpAnyH_ready (rs := [11]) (by kernel_rfl) (by simp) ?_
              refine AllReadyH.cons rfl (fun K hK => ?_) AllReadyH.nil
              go_simp
              refine (pt_some _ _ hx1.out).mono ?_
              rintro e w10 ⟨AT, nT, cT, yT, rfl, hsT, hnT, hb10, _⟩
              go_wp2_with (fail)
              have hb10' := below_keep hb10 hS.1
              refine hK.out _ _ ⟨hb10', cell_keep hb10 hS.2.1, cell_keep hb10 hS.2.2.1, cell_keep hb10 hS.2.2.2⟩ (fun hS2 => ?_)
              clear hK K
              have hB10 := Lib.hid (hB9.out.keep hb10')
              have B10 := Lib.hid (below_keep hb10' B9.out)
              replace hP := Lib.hid (And.intro (hP.out.1.keep hb10') hP.out.2)
              replace hQ := Lib.hid (And.intro (hQ.out.1.keep hb10') hQ.out.2)
              replace hV := Lib.hid (And.intro (hV.out.1.keep hb10') hV.out.2)
              have hT := Lib.hid (And.intro hsT hnT)
              clear hsT
              refine held_grow (S' := (fun W => Below w10.heap.size w10 W ∧ W.cell? ⟨w2.heap.size, 0, none⟩ = some (.string a) ∧ W.cell? ⟨w2.heap.size, 1, none⟩ = some (.string b) ∧ W.cell? ⟨w2.heap.size, 2, none⟩ = some (.string c))) (fun W hW => ⟨below_keep hW.1 hb10', hW.2⟩) _ _ _ _ ?_
              replace hS : Below w10.heap.size w10 w10 ∧ _ := ⟨Below.refl _ _, hS2.2⟩
              clear hS2 hb10 hb10' hB9 B9
              refine wpAnyH_ready (rs := [18]) (by kernel_rfl) (by simp) ?_
              refine AllReadyH.cons rfl (fun K hK => ?_) AllReadyH.nil
              go_simp
              have hbF : Below w10.heap.size w10 (w10.alloc (.cells #[.slice A bn bcap, .slice AQ nQ cQ, .slice AT nT cT, .slice AV nV cV] 22)) := (Below.refl _ _).alloc (Nat.le_refl _) _
              have hsl := four_slots w10 (hB10.out) hlong' hQ.out hT.out hV.out
              have hBF := below_keep hbF B10.out
              refine hK.out _ _ ⟨hbF, cell_keep hbF hS.2.1, cell_keep hbF hS.2.2.1, cell_keep hbF hS.2.2.2⟩ (fun hS2 => ?_)
              clear hK K
              refine' wpAnyH_take (i := 19) (v := ?v1010) rfl (by kernel_rfl) (by kernel_rfl) (by kernel_rfl) (fun _ _ _ h => h) (Or.inl ⟨by kernel_rfl, fun W hW => ?y1010⟩) hS2 ?r1010
              case y1010 => (go_simp; first | done | with_reducible rfl)
              refine wpAnyH_done (by kernel_rfl) ?_ _
              go_wp2_with (fail)
              go_meet
              exact ⟨_, _, rfl, rfl, hsl, hBF⟩
          · go_simp
            obtain ⟨w11, cV, hcv, hsV, hb11, hzz⟩ := conv_bytes _ _ (Nat.le_trans hx2.out (by decide))
            rw [hcv]
            clear hcv hzz
            generalize hgn : ((nn 42).extract 0 (size % 43).toNat).size = nV at hsV ⊢
            generalize hga : (some (⟨_, 0, none⟩ : Addr)) = AV at hsV ⊢
            have hnV : nV ≤ 42 := by rw [← hgn]; exact hx2.out
            clear hga hgn
            go_wp2_with (fail)
            have hb11' := below_keep hb11 hS.1
            refine hK.out _ _ ⟨hb11', cell_keep hb11 hS.2.1, cell_keep hb11 hS.2.2.1, cell_keep hb11 hS.2.2.2⟩ (fun hS2 => ?_)
            clear hK K
            have hB11 := Lib.hid (hB5.out.keep hb11')
            have B11 := Lib.hid (below_keep hb11' B5.out)
            replace hP := Lib.hid (And.intro (hP.out.1.keep hb11') hP.out.2)
            have hV := Lib.hid (And.intro hsV hnV)
            clear hsV
            refine held_grow (S' := (fun W => Below w11.heap.size w11 W ∧ W.cell? ⟨w2.heap.size, 0, none⟩ = some (.string a) ∧ W.cell? ⟨w2.heap.size, 1, none⟩ = some (.string b) ∧ W.cell? ⟨w2.heap.size, 2, none⟩ = some (.string c))) (fun W hW => ⟨below_keep hW.1 hb11', hW.2⟩) _ _ _ _ ?_
            replace hS : Below w11.heap.size w11 w11 ∧ _ := ⟨Below.refl _ _, hS2.2⟩
            clear hS2 hb11 hb11' hB5 B5
            refine wpAnyH_ready (rs := [4]) (by kernel_rfl) (by simp) ?_
            refine AllReadyH.cons rfl (fun K hK => ?_) AllReadyH.nil
            go_simp
            refine (sp_some _ _ _ _ how _ (hP.out.1.keep hS.1) hP.out.2 h0 h1).mono ?_
            rintro e w12 ⟨AQ, nQ, cQ, yQ, rfl, hsQ, hnQ, hb12, _⟩
            go_wp2_with (fail)
            have hb12' := below_keep hb12 hS.1
            refine hK.out _ _ ⟨hb12', cell_keep hb12 hS.2.1, cell_keep hb12 hS.2.2.1, cell_keep hb12 hS.2.2.2⟩ (fun hS2 => ?_)
            clear hK K
            have hB12 := Lib.hid (hB11.out.keep hb12')
            have B12 := Lib.hid (below_keep hb12' B11.out)
            replace hP := Lib.hid (And.intro (hP.out.1.keep hb12') hP.out.2)
            replace hV := Lib.hid (And.intro (hV.out.1.keep hb12') hV.out.2)
            have hQ := Lib.hid (And.intro hsQ hnQ)
            clear hsQ
            refine held_grow (S' := (fun W => Below w12.heap.size w12 W ∧ W.cell? ⟨w2.heap.size, 0, none⟩ = some (.string a) ∧ W.cell? ⟨w2.heap.size, 1, none⟩ = some (.string b) ∧ W.cell? ⟨w2.heap.size, 2, none⟩ = some (.string c))) (fun W hW => ⟨below_keep hW.1 hb12', hW.2⟩) _ _ _ _ ?_
            replace hS : Below w12.heap.size w12 w12 ∧ _ := ⟨Below.refl _ _, hS2.2⟩
            clear hS2 hb12 hb12' hB11 B11
            refine wpAnyH_ready (rs := [11]) (by kernel_rfl) (by simp) ?_
            refine AllReadyH.cons rfl (fun K hK => ?_) AllReadyH.nil
            go_simp
            refine (pt_some _ _ hx1.out).mono ?_
            rintro e w13 ⟨AT, nT, cT, yT, rfl, hsT, hnT, hb13, _⟩
            go_wp2_with (fail)
            have hb13' := below_keep hb13 hS.1
            refine hK.out _ _ ⟨hb13', cell_keep hb13 hS.2.1, cell_keep hb13 hS.2.2.1, cell_keep hb13 hS.2.2.2⟩ (fun hS2 => ?_)
            clear hK K
            have hB13 := Lib.hid (hB12.out.keep hb13')
            have B13 := Lib.hid (below_keep hb13' B12.out)
            replace hP := Lib.hid (And.intro (hP.out.1.keep hb13') hP.out.2)
            replace hV := Lib.hid (And.intro (hV.out.1.keep hb13') hV.out.2)
            replace hQ := Lib.hid (And.intro (hQ.out.1.keep hb13') hQ.out.2)
            have hT := Lib.hid (And.intro hsT hnT)
            clear hsT
            refine held_grow (S' := (fun W => Below w13.heap.size w13 W ∧ W.cell? ⟨w2.heap.size, 0, none⟩ = some (.string a) ∧ W.cell? ⟨w2.heap.size, 1, none⟩ = some (.string b) ∧ W.cell? ⟨w2.heap.size, 2, none⟩ = some (.string c))) (fun W hW => ⟨below_keep hW.1 hb13', hW.2⟩) _ _ _ _ ?_
            replace hS : Below w13.heap.size w13 w13 ∧ _ := ⟨Below.refl _ _, hS2.2⟩
            clear hS2 hb13 hb13' hB12 B12
            refine wpAnyH_ready (rs := [18]) (by kernel_rfl) (by simp) ?_
            refine AllReadyH.cons rfl (fun K hK => ?_) AllReadyH.nil
            go_simp
            have hbF : Below w13.heap.size w13 (w13.alloc (.cells #[.slice A bn bcap, .slice AQ nQ cQ, .slice AT nT cT, .slice AV nV cV] 22)) := (Below.refl _ _).alloc (Nat.le_refl _) _
            have hsl := four_slots w13 (hB13.out) hlong' hQ.out hT.out hV.out
            have hBF := below_keep hbF B13.out
            refine hK.out _ _ ⟨hbF, cell_keep hbF hS.2.1, cell_keep hbF hS.2.2.1, cell_keep hbF hS.2.2.2⟩ (fun hS2 => ?_)
            clear hK K
            refine' wpAnyH_take (i := 19) (v := ?v1313) rfl (by kernel_rfl) (by kernel_rfl) (by kernel_rfl) (fun _ _ _ h => h) (Or.inl ⟨by kernel_rfl, fun W hW => ?y1313⟩) hS2 ?r1313
            case y1313 => (go_simp; first | done | with_reducible rfl)
            refine wpAnyH_done (by kernel_rfl) ?_ _
            go_wp2_with (fail)
            go_meet
            exact ⟨_, _, rfl, rfl, hsl, hBF⟩
        · go_simp
          obtain ⟨w14, cV, hcv, hsV, hb14, hzz⟩ := conv_bytes _ _ (Nat.le_trans hx2.out (by decide))
          rw [hcv]
          clear hcv hzz
          generalize hgn : ((nn 42).extract 0 (size % 43).toNat).size = nV at hsV ⊢
          generalize hga : (some (⟨_, 0, none⟩ : Addr)) = AV at hsV ⊢
          have hnV : nV ≤ 42 := by rw [← hgn]; exact hx2.out
          clear hga hgn
          go_wp2_with (fail)
          have hb14' := below_keep hb14 hS.1
          refine hK.out _ _ ⟨hb14', cell_keep hb14 hS.2.1, cell_keep hb14 hS.2.2.1, cell_keep hb14 hS.2.2.2⟩ (fun hS2 => ?_)
          clear hK K
          have hB14 := Lib.hid (hB4.out.keep hb14')
          have B14 := Lib.hid (below_keep hb14' B4.out)
          have hV := Lib.hid (And.intro hsV hnV)
          clear hsV
          refine held_grow (S' := (fun W => Below w14.heap.size w14 W ∧ W.cell? ⟨w2.heap.size, 0, none⟩ = some (.string a) ∧ W.cell? ⟨w2.heap.size, 1, none⟩ = some (.string b) ∧ W.cell? ⟨w2.heap.size, 2, none⟩ = some (.string c))) (fun W hW => ⟨below_keep hW.1 hb14', hW.2⟩) _ _ _ _ ?_
          replace hS : Below w14.heap.size w14 w14 ∧ _ := ⟨Below.refl _ _, hS2.2⟩
          clear hS2 hb14 hb14' hB4 B4
          refine wpAnyH_ready (rs := [2]) (by kernel_rfl) (by simp) ?_
          refine AllReadyH.cons rfl (fun K hK => ?_) AllReadyH.nil
          go_simp
          refine (pp_some a b c _ hqa hqb hqc).mono ?_
          rintro e w15 ⟨AP, nP, cP, yP, rfl, hsP, hnP, hb15, _⟩
          go_wp2_with (fail)
          have hb15' := below_keep hb15 hS.1
          refine hK.out _ _ ⟨hb15', cell_keep hb15 hS.2.1, cell_keep hb15 hS.2.2.1, cell_keep hb15 hS.2.2.2⟩ (fun hS2 => ?_)
          clear hK K
          have hB15 := Lib.hid (hB14.out.keep hb15')
          have B15 := Lib.hid (below_keep hb15' B14.out)
          replace hV := Lib.hid (And.intro (hV.out.1.keep hb15') hV.out.2)
          have hP := Lib.hid (And.intro hsP hnP)
          clear hsP
          refine held_grow (S' := (fun W => Below w15.heap.size w15 W ∧ W.cell? ⟨w2.heap.size, 0, none⟩ = some (.string a) ∧ W.cell? ⟨w2.heap.size, 1, none⟩ = some (.string b) ∧ W.cell? ⟨w2.heap.size, 2, none⟩ = some (.string c))) (fun W hW => ⟨below_keep hW.1 hb15', hW.2⟩) _ _ _ _ ?_
          replace hS : Below w15.heap.size w15 w15 ∧ _ := ⟨Below.refl _ _, hS2.2⟩
          clear hS2 hb15 hb15' hB14 B14
          refine wpAnyH_ready (rs := [4]) (by kernel_rfl) (by simp) ?_
          refine AllReadyH.cons rfl (fun K hK => ?_) AllReadyH.nil
          go_simp
          refine (sp_some _ _ _ _ how _ (hP.out.1.keep hS.1) hP.out.2 h0 h1).mono ?_
          rintro e w16 ⟨AQ, nQ, cQ, yQ, rfl, hsQ, hnQ, hb16, _⟩
          go_wp2_with (fail)
          have hb16' := below_keep hb16 hS.1
          refine hK.out _ _ ⟨hb16', cell_keep hb16 hS.2.1, cell_keep hb16 hS.2.2.1, cell_keep hb16 hS.2.2.2⟩ (fun hS2 => ?_)
          clear hK K
          have hB16 := Lib.hid (hB15.out.keep hb16')
          have B16 := Lib.hid (below_keep hb16' B15.out)
          replace hV := Lib.hid (And.intro (hV.out.1.keep hb16') hV.out.2)
          replace hP := Lib.hid (And.intro (hP.out.1.keep hb16') hP.out.2)
          have hQ := Lib.hid (And.intro hsQ hnQ)
          clear hsQ
          refine held_grow (S' := (fun W => Below w16.heap.size w16 W ∧ W.cell? ⟨w2.heap.size, 0, none⟩ = some (.string a) ∧ W.cell? ⟨w2.heap.size, 1, none⟩ = some (.string b) ∧ W.cell? ⟨w2.heap.size, 2, none⟩ = some (.string c))) (fun W hW => ⟨below_keep hW.1 hb16', hW.2⟩) _ _ _ _ ?_
          replace hS : Below w16.heap.size w16 w16 ∧ _ := ⟨Below.refl _ _, hS2.2⟩
          clear hS2 hb16 hb16' hB15 B15
          refine wpAnyH_ready (rs := [11]) (by kernel_rfl) (by simp) ?_
          refine AllReadyH.cons rfl (fun K hK => ?_) AllReadyH.nil
          go_simp
          refine (pt_some _ _ hx1.out).mono ?_
          rintro e w17 ⟨AT, nT, cT, yT, rfl, hsT, hnT, hb17, _⟩
          go_wp2_with (fail)
          have hb17' := below_keep hb17 hS.1
          refine hK.out _ _ ⟨hb17', cell_keep hb17 hS.2.1, cell_keep hb17 hS.2.2.1, cell_keep hb17 hS.2.2.2⟩ (fun hS2 => ?_)
          clear hK K
          have hB17 := Lib.hid (hB16.out.keep hb17')
          have B17 := Lib.hid (below_keep hb17' B16.out)
          replace hV := Lib.hid (And.intro (hV.out.1.keep hb17') hV.out.2)
          replace hP := Lib.hid (And.intro (hP.out.1.keep hb17') hP.out.2)
          replace hQ := Lib.hid (And.intro (hQ.out.1.keep hb17') hQ.out.2)
          have hT := Lib.hid (And.intro hsT hnT)
          clear hsT
          refine held_grow (S' := (fun W => Below w17.heap.size w17 W ∧ W.cell? ⟨w2.heap.size, 0, none⟩ = some (.string a) ∧ W.cell? ⟨w2.heap.size, 1, none⟩ = some (.string b) ∧ W.cell? ⟨w2.heap.size, 2, none⟩ = some (.string c))) (fun W hW => ⟨below_keep hW.1 hb17', hW.2⟩) _ _ _ _ ?_
          replace hS : Below w17.heap.size w17 w17 ∧ _ := ⟨Below.refl _ _, hS2.2⟩
          clear hS2 hb17 hb17' hB16 B16
          refine wpAnyH_ready (rs := [18]) (by kernel_rfl) (by simp) ?_
          refine AllReadyH.cons rfl (fun K hK => ?_) AllReadyH.nil
          go_simp
          have hbF : Below w17.heap.size w17 (w17.alloc (.cells #[.slice A bn bcap, .slice AQ nQ cQ, .slice AT nT cT, .slice AV nV cV] 22)) := (Below.refl _ _).alloc (Nat.le_refl _) _
          have hsl := four_slots w17 (hB17.out) hlong' hQ.out hT.out hV.out
          have hBF := below_keep hbF B17.out
          refine hK.out _ _ ⟨hbF, cell_keep hbF hS.2.1, cell_keep hbF hS.2.2.1, cell_keep hbF hS.2.2.2⟩ (fun hS2 => ?_)
          clear hK K
          refine' wpAnyH_take (i := 19) (v := ?v1717) rfl (by kernel_rfl) (by kernel_rfl) (by kernel_rfl) (fun _ _ _ h => h) (Or.inl ⟨by kernel_rfl, fun W hW => ?y1717⟩) hS2 ?r1717
          case y1717 => (go_simp; first | done | with_reducible rfl)
          refine wpAnyH_done (by kernel_rfl) ?_ _
          go_wp2_with (fail)
          go_meet
          exact ⟨_, _, rfl, rfl, hsl, hBF⟩
      case rest =>
        obtain ⟨g, ps, rfl, hps, HL, BC⟩ := hcut
        replace HL := Lib.hid HL
        replace BC := Lib.hid BC
        replace hps := Lib.hid hps
        clear B4 hB4 hcells
        obtain ⟨W1, hW1⟩ : ∃ W1, W1 = wc := ⟨_, rfl⟩
        subst hW1
        have t4 : size.tmod 4 = size % 4 := Int.tmod_eq_emod_of_nonneg s0
        replace t4 := Lib.hid t4
        go_wp2_with (fail)
        go_loopw [14] (fun i wr => ∃ p : Nat, p ≤ 4 ∧ i = .int .i64 p ∧ Below W1.heap.size W1 wr) (fun i _ => 4 - (intOf i).toNat)
        case atStart => exact ⟨0, by omega, rfl, Below.refl _ _⟩
        case round =>
          obtain ⟨p, hp, rfl, B2⟩ := hrel
          by_cases hlt : p < 4
          · obtain ⟨P, hP⟩ : ∃ P, ps[p]? = some P := ⟨_, List.getElem?_eq_getElem (by have := hps.out; omega)⟩
            obtain ⟨hc, hsl, hpn⟩ := HL.out p P hP
            unfold Piece.val at hc
            have i1 : (0 : Int) ≤ (p : Int) := by omega
            have i2 : (p : Int) < (4 : Int) := by omega
            clear hP
            have TX := Lib.hid (fun (x : Int) (W : World) (hb : Below W1.heap.size W1 W) => ftextQ_any P.A P.n P.c P.ys x W (hsl.keep hb) (by omega))
            have TR := Lib.hid (fun (x : Int) (W : World) (hb : Below W1.heap.size W1 W) => r5text_any P.A P.n P.c P.ys x W (hsl.keep hb) (by omega))
            have PX := Lib.hid (fun (x : Int) (W : World) (hb : Below W1.heap.size W1 W) => fprincipal_any P.A P.n P.c P.ys x W (hsl.keep hb) (by omega))
            have PR := Lib.hid (fun (x : Int) (W : World) (hb : Below W1.heap.size W1 W) => r5principal_any P.A P.n P.c P.ys x W (hsl.keep hb) (by omega))
            clear hsl
            go_wp2_with (fail)
            obtain ⟨wo, rfl⟩ : ∃ wo : World, wo = wr := ⟨_, rfl⟩
            go_loopw [15] (fun k wr => ∃ q : Nat, q ≤ 2 ∧ k = .int .i64 q ∧ Below W1.heap.size W1 wr) (fun k _ => 2 - (intOf k).toNat)
            case atStart => exact ⟨0, by omega, rfl, B2⟩
            case round =>
              obtain ⟨q, hq, rfl, B3⟩ := hrel
              have hc3 := cell_keep B3 hc
              have hg3 := cell_lt hc3
              by_cases hlq : q < 2
              · rcases (show q = 0 ∨ q = 1 by omega) with rfl | rfl
                all_goals
                  go_wp2_with (first | (go_at_call 23; refine (TX.out _ _ (B3.alloc B3.size _)).mono ?_; rintro e w' ⟨rfl, rfl⟩) | (go_at_call 24; refine (TR.out _ _ (B3.alloc B3.size _)).mono ?_; rintro e w' ⟨rfl, rfl⟩))
                  refine (PX.out _ _ (B3.alloc B3.size _)).mono ?_
                  rintro e w5 ⟨rfl, hb5⟩
                  have B5 := below_keep hb5 (B3.alloc B3.size _)
                  have hc5 := cell_keep B5 hc
                  have hg5 := cell_lt hc5
                  clear hb5
                  go_wp2_with (fail)
                  refine (PR.out _ _ (B5.alloc B5.size _)).mono ?_
                  rintro e w6 ⟨rfl, hb6⟩
                  have B6 := below_keep hb6 (B5.alloc B5.size _)
                  have x0 : w6.cell? ⟨w5.heap.size, 0, none⟩ = some (.string (strOfNums (S5.prA P.ys _))) := cell_keep hb6 (by simp [go_sem] <;> rfl)
                  have x1 : w6.cell? ⟨w5.heap.size, 1, none⟩ = some (.string (strOfNums (S5.prB P.ys _))) := cell_keep hb6 (by simp [go_sem] <;> rfl)
                  have x2 : w6.cell? ⟨w5.heap.size, 2, none⟩ = some (.string (strOfNums (S5.prC P.ys _))) := cell_keep hb6 (by simp [go_sem] <;> rfl)
                  have hz6 := cell_lt x0
                  clear hb6
                  go_wp2_with (fail)
                  go_roundw
                  case rel => first | exact ⟨1, by omega, rfl, B6.alloc B6.size _⟩ | exact ⟨2, by omega, rfl, B6.alloc B6.size _⟩
                  case measure => simp [intOf]
              · go_wp2_with (fail)
                go_roundw
                case rel => exact ⟨p + 1, by omega, by go_num, B3⟩
                case measure => simp [intOf]; omega
          · go_wp2_with (fail)
            go_ret
            exact ⟨rfl, below_keep B2 BC.out⟩

end Go.Proofs.Ytnipccnfdgdknaa
