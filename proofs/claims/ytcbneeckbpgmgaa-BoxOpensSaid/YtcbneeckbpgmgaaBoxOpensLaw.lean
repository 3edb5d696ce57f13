/-
  The law BoxOpens: a box is opened as it was made, and by no other key and as no other kind.
-/
import Derived.Test.YtcbneeckbpgmgaaBoxS
namespace Go.Proofs.Ytcbneeckbpgmgaa
open Go.RowKit

/-- What is open when a box was opened: the same, in three cases. -/
theorem opened {X K Y J : Int} {bs : List Int} (hX : S4.isK X = true) (hK : S3.vk K = true) (k0 : 0 ≤ K) (k1 : K ≤ 18446744073709551615) (l : (bs.length : Int) ≤ 1000) :
    (X = Y ∧ K = J ∧ S4.opOk (S4.boxOf X K bs) Y J = true ∧ S4.opB (S4.boxOf X K bs) Y J = bs) ∨ (X = Y ∧ (K == J) = false ∧ S4.opOk (S4.boxOf X K bs) Y J = false ∧ S4.opB (S4.boxOf X K bs) Y J = []) ∨ ((X == Y) = false ∧ S4.opOk (S4.boxOf X K bs) Y J = false ∧ S4.opB (S4.boxOf X K bs) Y J = []) := by
  obtain ⟨h1, h2⟩ := S4.open_boxOf hX hK k0 k1 l Y J
  by_cases e : X = Y
  · by_cases g : K = J
    · left; rw [h1, h2]; simp [e, g]
    · right; left; rw [h1, h2]; simp [e, g]
  · right; right; rw [h1, h2]; simp [e]

set_option maxRecDepth 100000 in
set_option maxHeartbeats 3200000 in
theorem opensLaw_walk (A : Option Addr) (bn bcap : Nat) (bs : List Int) (kind other nn mm : Int) (w : World) (hB : Sl w A bn bcap bs) (q0 : 0 ≤ kind) (q1 : kind ≤ 255) (o0 : 0 ≤ other) (o1 : other ≤ 255) (n0 : 0 ≤ nn) (n1 : nn ≤ 255) (m0 : 0 ≤ mm) (m1 : mm ≤ 255) :
    Calls Try.prog 5 #[.slice A bn bcap, .int .u8 kind, .int .u8 other, .int .u8 nn, .int .u8 mm] w fun e w' => e = .returned (.bool true) ∧ Below w.heap.size w w' := by
  have hmax := hB.max
  unfold maxLen at hmax
  by_cases h1 : 1000 < (bn : Int)
  · go_enter Try.func5, Try.ntmps5
    go_wp2_with (fail)
    refine (awake4_any _).mono ?_
    rintro e w1 ⟨rfl, B⟩
    go_wp2_with (fail)
    go_ret
    exact ⟨rfl, B⟩
  · have hl := Lib.hid (show (bs.length : Int) ≤ 1000 by have := hB.len; omega)
    have hX := Lib.hid (show S4.isK (1 + kind % 10) = true by rw [S4.isK_iff]; omega)
    obtain ⟨v1, v2, v3⟩ := keyOf_facts (c := 1) (.inl rfl) n0 n1
    replace v1 := Lib.hid v1
    go_enter Try.func5, Try.ntmps5
    go_wp2_with (fail)
    refine (awake4_any _).mono ?_
    rintro e w1 ⟨rfl, B⟩
    have hB1 := hB.keep B
    replace B := Lib.hid B
    go_wp2_with (first | (go_at_call 10; refine (long_any _ _ n0 n1).mono ?_; rintro e w' ⟨rfl, rfl⟩) | (go_at_call 10; refine (long_any _ _ m0 m1).mono ?_; rintro e w' ⟨rfl, rfl⟩))
    generalize 1 + kind % 10 = X at *
    generalize 1 + other % 10 = Y at *
    generalize keyOf 1 nn = K at *
    generalize keyOf 1 mm = J at *
    have HM := S4.mk_ok (body := bs) hX.out v1.out hl.out
    have MK := bmake_any X K _ _ _ _ _ hB1 v2 v3
    unfold MadeB at MK
    rw [HM.1, HM.2] at MK
    clear HM
    refine MK.mono ?_
    rintro e w2 ⟨A2, n2, c2, rfl, hs2, hb2⟩
    clear MK
    have B2 := Lib.hid (below_keep hb2 B.out)
    have hB2 := Lib.hid (hB1.keep hb2)
    clear hb2 hB1 B
    have OB := bopen_any _ _ _ _ X K w2 hs2
    have OP := bopen_any _ _ _ _ Y J w2 hs2
    have hmore := op_not (zs := S4.boxOf X K bs ++ [0]) (kind := X) (key := K) (.inl (S4.isB_more 0 hX.out v1.out v2 v3 hl.out))
    have hl2 := hs2.len
    rw [S4.boxOf_len] at hl2
    have hn2 : n2 ≤ 1012 := by have := hl.out; omega
    have hrg : ∀ z ∈ S4.boxOf X K bs ++ [0], 0 ≤ z ∧ z ≤ 255 := by
      intro z hz
      rcases List.mem_append.1 hz with hz | hz
      · exact hs2.range z hz
      · rw [List.mem_singleton] at hz; subst hz; decide
    replace hrg := Lib.hid hrg
    replace hmore := Lib.hid hmore
    replace hs2 := Lib.hid hs2
    clear OB hl2
    have h3 := opened (Y := Y) (J := J) hX.out v1.out v2 v3 hl.out
    rcases h3 with ⟨rfl, rfl, e1, e2⟩ | ⟨rfl, e0, e1, e2⟩ | ⟨e0, e1, e2⟩
    all_goals
      rw [e1, e2] at OP
      replace OP := Lib.hid OP
      clear e1 e2
      go_wp2_with (fail)
      refine OP.out.mono ?_
      rintro e w3 ⟨A3, n3, c3, rfl, hs3, hb3, _⟩
      have f1 := conv_sl hs3
      have f2 := conv_sl (hB2.out.keep hb3)
      try (have hl3 : n3 = 0 := hs3.len.symm)
      have hs2' := Lib.hid (hs2.out.keep hb3)
      have B3 := Lib.hid (below_keep hb3 B2.out)
      clear hs3 hb3
      have O0 := Lib.hid (Own.new .u8 5 (w := w3) (Nat.le_refl _) [] (by decide))
      have Ba := Lib.hid (fun (x : World) (o : Obj) => (Below.refl x.heap.size x).alloc (Nat.le_refl _) o)
      have h00 := Lib.hid (show ∀ z ∈ [(0 : Int)], IntKind.u8.min ≤ z ∧ z ≤ IntKind.u8.max by intro z hz; rw [List.mem_singleton] at hz; subst hz; decide)
      go_wp2_with (at_builtin; first
        | (refine wpList_push_row rfl (.tmp 84) (.tmp 85) 24 rfl Try.underlying24 u8_infoB (base := w3.heap.size) (v := .slice (some ⟨w3.heap.size, 0, none⟩) 0 0) (zs := []) (ys := S4.boxOf X K bs) (A := A2) (m := n2) (c := c2) rfl rfl O0.out (hs2'.out.keep (Ba.out w3 _)).row (by simp; omega) (by decide) (by simp) ?_; intro v4 w4 O4 hg4 _; have B4 := Lib.hid (Own.grown (Ba.out w3 _) O0.out hg4); replace O4 := Lib.hid O4; clear hg4)
        | (refine wpList_push_row rfl (.tmp 86) (.tmp 87) 24 rfl Try.underlying24 u8_infoB (base := w3.heap.size) (v := v4) (zs := [] ++ S4.boxOf X K bs) (ys := [0]) (A := some ⟨w4.heap.size, 0, none⟩) (m := 1) (c := 1) rfl rfl (O4.out.alloc _) (RowK.new .u8 w4 _ _ h00.out) (by rw [List.nil_append, hs2.out.len]; omega) (by decide) (B4.out.alloc B4.out.size _).size ?_; intro v5 w5 O5 hg5 _; have B5 := Lib.hid (Own.grown (B4.out.alloc B4.out.size _) (O4.out.alloc _) hg5); rw [List.nil_append] at O5; obtain ⟨A5, n5, c5, rfl, hs5⟩ := O5.sl hrg.out; clear hg5))
      refine (bopen_any _ _ _ _ X K w5 hs5).mono ?_
      rintro e w6 ⟨A6, n6, c6, rfl, _, hb6, _⟩
      rw [hmore.out.1]
      go_wp2_with (fail)
      go_ret
      exact ⟨rfl, below_keep hb6 (below_keep B5.out B3.out)⟩

end Go.Proofs.Ytcbneeckbpgmgaa
