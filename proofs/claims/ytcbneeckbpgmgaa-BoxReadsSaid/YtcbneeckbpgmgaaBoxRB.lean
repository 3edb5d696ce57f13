/-
  What Read of the document's answer for boxes returns.
-/
import Derived.Test.YtcbneeckbpgmgaaBoxR
namespace Go.Proofs.Ytcbneeckbpgmgaa
open Go.RowKit

set_option maxHeartbeats 3200000 in
theorem r4read_any (A : Option Addr) (n cap : Nat) (zs : List Int) (w : World) (h : Sl w A n cap zs) : Calls Try.prog 16 #[.slice A n cap] w (ReadB zs w) := by
  have hmax := h.max
  have hcap := h.2.1
  have hcm := h.2.2.1
  unfold maxLen at hmax hcm
  have hlen := Lib.hid h.len
  rcases Int.lt_or_le (n : Int) 12 with h12 | h12
  · have HR := Lib.hid (S4.rd_short (zs := zs) (by rw [hlen.out]; exact h12))
    go_enter Try.func16, Try.ntmps16
    go_wp2
    refine bodyPost_ret (v := .tuple #[.agg #[.int .i64 0, .int .u64 0, .slice none 0 0], .int .i64 0, .int .i64 101]) (by simp [results, Try.results16, go_sem]) rfl ⟨none, 0, 0, ?_, ?_, ?_, Fresh.nil _⟩
    · rw [HR.out.1, HR.out.2.1, HR.out.2.2.1, HR.out.2.2.2.2]
    · rw [HR.out.2.2.2.1]; exact Sl.nil _
    · exact (Below.refl _ _).alloc (Nat.le_refl _) _
  · have h0 : 0 < n := by omega
    obtain ⟨b, off, rfl⟩ : ∃ b off, A = some ⟨b, off, none⟩ := by
      obtain ⟨b, off, _, e, _⟩ := h.row.at h0
      exact ⟨b, off, e⟩
    obtain ⟨l0, u0, x0⟩ := h.at (i := 0) (by omega)
    obtain ⟨l1, u1, x1⟩ := h.at (i := 1) (by omega)
    obtain ⟨l10, u10, x10⟩ := h.at (i := 10) (by omega)
    obtain ⟨l11, u11, x11⟩ := h.at (i := 11) (by omega)
    rw [Nat.add_zero] at x0
    have hor := or16 _ _ l10 u10 l11 u11
    have hn12 := Lib.hid (show ¬ (zs.length : Int) < 12 by rw [hlen.out]; omega)
    replace h := Lib.hid h
    go_enter Try.func16, Try.ntmps16
    go_wp2_with (fail)
    refine (r3read_any _ _ _ _ _ (RowK.keep ((Below.refl _ _).alloc (Nat.le_refl _) _) (h.out.row.part 2 8 (by omega))) (by decide)).mono ?_
    rintro e w' ⟨rfl, rfl⟩
    go_wp2_with (fail)
    go_quiet (fail)
    have hL : ∃ m : Nat, S4.at0 zs 10 * 256 + S4.at0 zs 11 = (m : Int) := ⟨(S4.at0 zs 10 * 256 + S4.at0 zs 11).toNat, by omega⟩
    obtain ⟨m, hL⟩ := hL
    rw [hL]
    have hLm : S4.lenOf zs = (m : Int) := hL
    have hm : m ≤ 65535 := by omega
    replace hL := Lib.hid hL
    replace hLm := Lib.hid hLm
    replace hlen := Lib.hid hlen.out
    have HK : ∃ k, k = S3.readN (List.take 8 (List.drop 2 zs)) := ⟨_, rfl⟩
    obtain ⟨k, HK⟩ := HK
    rw [← HK]
    replace HK := Lib.hid HK
    have Bd : Below w.heap.size w ((w.alloc (Obj.cells #[Value.int IntKind.i64 0, Value.int IntKind.u64 0, Value.slice none 0 0] 37)).drewN nq) := below_drewN' ((Below.refl _ _).alloc (Nat.le_refl _) _) _
    have v0 : ((w.alloc (Obj.cells #[Value.int IntKind.i64 0, Value.int IntKind.u64 0, Value.slice none 0 0] 37)).drewN nq).cell? ⟨b, off, none⟩ = some (.int .u8 (S4.at0 zs 0)) := x0 _
    have v1 : ((w.alloc (Obj.cells #[Value.int IntKind.i64 0, Value.int IntKind.u64 0, Value.slice none 0 0] 37)).drewN nq).cell? ⟨b, off + 1, none⟩ = some (.int .u8 (S4.at0 zs 1)) := x1 _
    have y0 : ((w.alloc (Obj.cells #[Value.int IntKind.i64 0, Value.int IntKind.u64 0, Value.slice none 0 0] 37)).drewN nq).cell? ⟨w.heap.size, 0, none⟩ = some (.int .i64 0) := by simp [go_sem]
    have y1 : ((w.alloc (Obj.cells #[Value.int IntKind.i64 0, Value.int IntKind.u64 0, Value.slice none 0 0] 37)).drewN nq).cell? ⟨w.heap.size, 1, none⟩ = some (.int .u64 0) := by simp [go_sem]
    have y2 : ((w.alloc (Obj.cells #[Value.int IntKind.i64 0, Value.int IntKind.u64 0, Value.slice none 0 0] 37)).drewN nq).cell? ⟨w.heap.size, 2, none⟩ = some (.slice none 0 0) := by simp [go_sem]
    have y3 : ∀ o, ((w.alloc (Obj.cells #[Value.int IntKind.i64 0, Value.int IntKind.u64 0, Value.slice none 0 0] 37)).drewN nq).frozen? ⟨w.heap.size, o, none⟩ = false := fun o => by simp [go_sem]
    have zl : w.heap.size < ((w.alloc (Obj.cells #[Value.int IntKind.i64 0, Value.int IntKind.u64 0, Value.slice none 0 0] 37)).drewN nq).heap.size := by simp
    clear hor x0 x1 x10 x11 l10 l11 u10 u11
    generalize (w.alloc (Obj.cells #[Value.int IntKind.i64 0, Value.int IntKind.u64 0, Value.slice none 0 0] 37)).drewN nq = W1 at *
    have BAD : S4.bad zs = true → S4.rdE zs = 100 ∧ S4.rdK zs = 0 ∧ S4.rdY zs = 0 ∧ S4.rdB zs = [] ∧ S4.rdN zs = 0 := fun g => S4.rd_bad (by have := hn12.out; omega) g
    by_cases h66 : S4.at0 zs 0 = 66
    · rcases S4.isK_cases (S4.at0 zs 1) with ⟨hk, q0, q1⟩ | ⟨hk, q⟩ | ⟨hk, q, q'⟩
      · rcases hy : S3.readOk (List.take 8 (List.drop 2 zs))
        · have HR := Lib.hid (BAD (S4.bad_yes (.inr (.inr (.inl hy)))))
          replace Bd := Lib.hid Bd
          clear hk BAD
          go_wp2_with (fail)
          refine bodyPost_ret (v := .tuple #[.agg #[.int .i64 0, .int .u64 0, .slice none 0 0], .int .i64 0, .int .i64 100]) (by simp [results, Try.results16, go_sem, y0, y1, y2]) rfl ⟨none, 0, 0, ?_, ?_, ?_, Fresh.nil _⟩
          · rw [HR.out.1, HR.out.2.1, HR.out.2.2.1, HR.out.2.2.2.2]
          · rw [HR.out.2.2.2.1]; exact Sl.nil _
          · repeat (first | exact Bd.out | refine Below.setCell ?_ (by simp) _)
        · rcases Int.lt_or_le 1000 (m : Int) with hg | hg
          · have HR := Lib.hid (BAD (S4.bad_yes (.inr (.inr (.inr (by rw [hLm.out]; exact hg))))))
            replace Bd := Lib.hid Bd
            clear hk BAD
            go_wp2_with (fail)
            refine bodyPost_ret (v := .tuple #[.agg #[.int .i64 0, .int .u64 0, .slice none 0 0], .int .i64 0, .int .i64 100]) (by simp [results, Try.results16, go_sem, y0, y1, y2]) rfl ⟨none, 0, 0, ?_, ?_, ?_, Fresh.nil _⟩
            · rw [HR.out.1, HR.out.2.1, HR.out.2.2.1, HR.out.2.2.2.2]
            · rw [HR.out.2.2.2.1]; exact Sl.nil _
            · repeat (first | exact Bd.out | refine Below.setCell ?_ (by simp) _)
          · have hgood := S4.good_parts h66 hk hy (by rw [hLm.out]; exact hg)
            rcases Int.lt_or_le (n : Int) (12 + (m : Int)) with he | he
            · have HR := Lib.hid (S4.rd_cut (by have := hn12.out; omega) hgood (by rw [hlen.out, hLm.out]; exact he))
              replace Bd := Lib.hid Bd
              clear hk BAD hgood
              go_wp2_with (fail)
              refine bodyPost_ret (v := .tuple #[.agg #[.int .i64 0, .int .u64 0, .slice none 0 0], .int .i64 0, .int .i64 101]) (by simp [results, Try.results16, go_sem, y0, y1, y2]) rfl ⟨none, 0, 0, ?_, ?_, ?_, Fresh.nil _⟩
              · rw [HR.out.1, HR.out.2.1, HR.out.2.2.1, HR.out.2.2.2.2]
              · rw [HR.out.2.2.2.1]; exact Sl.nil _
              · repeat (first | exact Bd.out | refine Below.setCell ?_ (by simp) _)
            · have HR := Lib.hid (S4.rd_ok (by have := hn12.out; omega) hgood (by rw [hlen.out, hLm.out]; omega))
              have he' : 12 + m ≤ n := by omega
              have hb1 := (S4.rdB_range (zs := zs) h.out.range)
              have hR := RowK.keep Bd (h.out.row.part 12 m (by omega))
              have e1 : S4.rdB zs = (zs.drop 12).take m := by rw [HR.out.2.2.2.1, hLm.out]; rfl
              rw [← e1] at hR
              replace hb1 := Lib.hid hb1
              replace hR := Lib.hid hR
              replace Bd := Lib.hid Bd
              clear hk BAD hgood e1
              have hm0 : m ≤ 1000 := by omega
              rcases Nat.eq_or_lt_of_le (show 12 ≤ cap by omega) with hc | hc
              · have em : m = 0 := by omega
                subst em
                have e2 : S4.rdB zs = [] := List.eq_nil_of_length_eq_zero hR.out.len
                subst hc
                replace hR : Hid (RowK .u8 W1 (some ⟨b, off, none⟩) 0 (S4.rdB zs)) := by rw [e2]; exact Lib.hid (RowK.empty _ _ _)
                clear e2
                go_wp2_with (fail)
                have va : ∀ o, (W1.alloc o).cell? ⟨b, off + 1, none⟩ = some (.int .u8 (S4.at0 zs 1)) := fun o => cell_keep ((Below.refl _ _).alloc (Nat.le_refl _) o) v1
                have hwz : IntKind.i64.wrap (S4.at0 zs 1) = S4.at0 zs 1 := by rw [IntKind.wrap_i64]; omega
                have hw0 : IntKind.i64.wrap 12 = 12 := by decide
                go_region_law (first
                  | (with_reducible refine step_push_row (w := (W1.alloc (.cells #[] 5)).drew) ?_ (.tmp 66) (.tmp 70) 24 ?_ Try.underlying24 u8_infoB (base := W1.heap.size) (v := .slice (some ⟨W1.heap.size, 0, none⟩) 0 0) (zs := []) (ys := S4.rdB zs) (A := some ⟨b, off, none⟩) (m := 0) (c := 0) ?_ ?_ ?_ ?_ ?_ (by decide) ?_ ?_
                     · rfl
                     · rfl
                     · kernel_rfl
                     · kernel_rfl
                     · exact Own.drew (Own.new .u8 _ (Nat.le_refl _) [] (by decide))
                     · exact hR.out.keep ((Below.refl _ _).alloc (Nat.le_refl _) _).drew
                     · simp <;> omega
                     · exact ((Below.refl _ _).alloc (Nat.le_refl _) _).drew.size
                     intro v2 w2 own2 hg2 _
                     have B2 : Below W1.heap.size W1 w2 := Own.grown ((Below.refl _ _).alloc (Nat.le_refl _) _).drew (Own.drew (Own.new .u8 _ (Nat.le_refl _) [] (by decide))) hg2
                     have u0 := cell_keep B2 y0
                     have u1 := cell_keep B2 y1
                     have u2 := cell_keep B2 y2
                     have t1 := cell_keep B2 v1
                     have u3 : ∀ o, w2.frozen? ⟨w.heap.size, o, none⟩ = false := fun o => by rw [(bcell B2).2 _ _ zl]; exact y3 o
                     obtain ⟨A2, n2, c2, rfl, hs2, hf2⟩ := Own.slf own2 hb1.out
                     replace hs2 := Lib.hid hs2
                     clear hg2)
                  | (with_reducible refine step_push_row (w := (W1.alloc (.cells #[] 5))) ?_ (.tmp 66) (.tmp 70) 24 ?_ Try.underlying24 u8_infoB (base := W1.heap.size) (v := .slice (some ⟨W1.heap.size, 0, none⟩) 0 0) (zs := []) (ys := S4.rdB zs) (A := some ⟨b, off, none⟩) (m := 0) (c := 0) ?_ ?_ ?_ ?_ ?_ (by decide) ?_ ?_
                     · rfl
                     · rfl
                     · kernel_rfl
                     · kernel_rfl
                     · exact Own.new .u8 _ (Nat.le_refl _) [] (by decide)
                     · exact hR.out.keep ((Below.refl _ _).alloc (Nat.le_refl _) _)
                     · simp <;> omega
                     · exact ((Below.refl _ _).alloc (Nat.le_refl _) _).size
                     intro v2 w2 own2 hg2 _
                     have B2 : Below W1.heap.size W1 w2 := Own.grown ((Below.refl _ _).alloc (Nat.le_refl _) _) (Own.new .u8 _ (Nat.le_refl _) [] (by decide)) hg2
                     have u0 := cell_keep B2 y0
                     have u1 := cell_keep B2 y1
                     have u2 := cell_keep B2 y2
                     have t1 := cell_keep B2 v1
                     have u3 : ∀ o, w2.frozen? ⟨w.heap.size, o, none⟩ = false := fun o => by rw [(bcell B2).2 _ _ zl]; exact y3 o
                     obtain ⟨A2, n2, c2, rfl, hs2, hf2⟩ := Own.slf own2 hb1.out
                     replace hs2 := Lib.hid hs2
                     clear hg2)
                  | fail)
                all_goals
                  have B3 := below_keep B2 Bd.out
                  go_wp2_with (fail)
                  refine bodyPost_ret (v := .tuple #[.agg #[.int .i64 (S4.at0 zs 1), .int .u64 k, .slice A2 n2 c2], .int .i64 (12), .int .i64 0]) (by simp [results, Try.results16, go_sem, u0, u1, u2]) rfl ⟨A2, n2, c2, ?_, ?_, ?_, hf2.le (by omega)⟩
                  · rw [HR.out.1, HR.out.2.1, HR.out.2.2.1, HR.out.2.2.2.2, hLm.out, HK.out]; rfl
                  · have hq := ((hs2.out.outside hf2 (p := ⟨w.heap.size, 0, none⟩) zl (.int .i64 (S4.at0 zs 1))).outside hf2 (p := ⟨w.heap.size, 1, none⟩) zl (.int .u64 k)).outside hf2 (p := ⟨w.heap.size, 2, none⟩) zl (.slice A2 n2 c2)
                    exact hq
                  · have hq := ((B3.setCell (p := ⟨w.heap.size, 0, none⟩) (Nat.le_refl _) (.int .i64 (S4.at0 zs 1))).setCell (p := ⟨w.heap.size, 1, none⟩) (Nat.le_refl _) (.int .u64 k)).setCell (p := ⟨w.heap.size, 2, none⟩) (Nat.le_refl _) (.slice A2 n2 c2)
                    first | exact hq | exact hq.drew
              · have hcj : ¬ cap = 12 := by omega
                go_wp2_with (fail)
                have va : ∀ o, (W1.alloc o).cell? ⟨b, off + 1, none⟩ = some (.int .u8 (S4.at0 zs 1)) := fun o => cell_keep ((Below.refl _ _).alloc (Nat.le_refl _) o) v1
                have hwz : IntKind.i64.wrap (S4.at0 zs 1) = S4.at0 zs 1 := by rw [IntKind.wrap_i64]; omega
                have hw0 : IntKind.i64.wrap (12 + (m : Int)) = 12 + (m : Int) := by rw [IntKind.wrap_i64]; omega
                have hw1 : max (12 + (m : Int)) 0 = 12 + (m : Int) := by omega
                have hw2 : (12 + (m : Int)).toNat - 12 = m := by omega
                have hw3 : 12 + (m : Int) ≤ (cap : Int) := by omega
                have hw4 : (0 : Int) ≤ 12 + (m : Int) := by omega
                have hw5 : (12 : Int) ≤ 12 + (m : Int) := by omega
                go_region_law (first
                  | (with_reducible refine step_push_row (w := (W1.alloc (.cells #[] 5)).drew) ?_ (.tmp 66) (.tmp 70) 24 ?_ Try.underlying24 u8_infoB (base := W1.heap.size) (v := .slice (some ⟨W1.heap.size, 0, none⟩) 0 0) (zs := []) (ys := S4.rdB zs) (A := some ⟨b, off + 12, none⟩) (m := m) (c := cap - 12) ?_ ?_ ?_ ?_ ?_ (by decide) ?_ ?_
                     · rfl
                     · rfl
                     · kernel_rfl
                     · kernel_rfl
                     · exact Own.drew (Own.new .u8 _ (Nat.le_refl _) [] (by decide))
                     · exact hR.out.keep ((Below.refl _ _).alloc (Nat.le_refl _) _).drew
                     · simp <;> omega
                     · exact ((Below.refl _ _).alloc (Nat.le_refl _) _).drew.size
                     intro v2 w2 own2 hg2 _
                     have B2 : Below W1.heap.size W1 w2 := Own.grown ((Below.refl _ _).alloc (Nat.le_refl _) _).drew (Own.drew (Own.new .u8 _ (Nat.le_refl _) [] (by decide))) hg2
                     have u0 := cell_keep B2 y0
                     have u1 := cell_keep B2 y1
                     have u2 := cell_keep B2 y2
                     have t1 := cell_keep B2 v1
                     have u3 : ∀ o, w2.frozen? ⟨w.heap.size, o, none⟩ = false := fun o => by rw [(bcell B2).2 _ _ zl]; exact y3 o
                     obtain ⟨A2, n2, c2, rfl, hs2, hf2⟩ := Own.slf own2 hb1.out
                     replace hs2 := Lib.hid hs2
                     clear hg2)
                  | (with_reducible refine step_push_row (w := (W1.alloc (.cells #[] 5))) ?_ (.tmp 66) (.tmp 70) 24 ?_ Try.underlying24 u8_infoB (base := W1.heap.size) (v := .slice (some ⟨W1.heap.size, 0, none⟩) 0 0) (zs := []) (ys := S4.rdB zs) (A := some ⟨b, off + 12, none⟩) (m := m) (c := cap - 12) ?_ ?_ ?_ ?_ ?_ (by decide) ?_ ?_
                     · rfl
                     · rfl
                     · kernel_rfl
                     · kernel_rfl
                     · exact Own.new .u8 _ (Nat.le_refl _) [] (by decide)
                     · exact hR.out.keep ((Below.refl _ _).alloc (Nat.le_refl _) _)
                     · simp <;> omega
                     · exact ((Below.refl _ _).alloc (Nat.le_refl _) _).size
                     intro v2 w2 own2 hg2 _
                     have B2 : Below W1.heap.size W1 w2 := Own.grown ((Below.refl _ _).alloc (Nat.le_refl _) _) (Own.new .u8 _ (Nat.le_refl _) [] (by decide)) hg2
                     have u0 := cell_keep B2 y0
                     have u1 := cell_keep B2 y1
                     have u2 := cell_keep B2 y2
                     have t1 := cell_keep B2 v1
                     have u3 : ∀ o, w2.frozen? ⟨w.heap.size, o, none⟩ = false := fun o => by rw [(bcell B2).2 _ _ zl]; exact y3 o
                     obtain ⟨A2, n2, c2, rfl, hs2, hf2⟩ := Own.slf own2 hb1.out
                     replace hs2 := Lib.hid hs2
                     clear hg2)
                  | fail)
                all_goals
                  have B3 := below_keep B2 Bd.out
                  go_wp2_with (fail)
                  refine bodyPost_ret (v := .tuple #[.agg #[.int .i64 (S4.at0 zs 1), .int .u64 k, .slice A2 n2 c2], .int .i64 (12 + (m : Int)), .int .i64 0]) (by simp [results, Try.results16, go_sem, u0, u1, u2]) rfl ⟨A2, n2, c2, ?_, ?_, ?_, hf2.le (by omega)⟩
                  · rw [HR.out.1, HR.out.2.1, HR.out.2.2.1, HR.out.2.2.2.2, hLm.out, HK.out]; rfl
                  · have hq := ((hs2.out.outside hf2 (p := ⟨w.heap.size, 0, none⟩) zl (.int .i64 (S4.at0 zs 1))).outside hf2 (p := ⟨w.heap.size, 1, none⟩) zl (.int .u64 k)).outside hf2 (p := ⟨w.heap.size, 2, none⟩) zl (.slice A2 n2 c2)
                    exact hq
                  · have hq := ((B3.setCell (p := ⟨w.heap.size, 0, none⟩) (Nat.le_refl _) (.int .i64 (S4.at0 zs 1))).setCell (p := ⟨w.heap.size, 1, none⟩) (Nat.le_refl _) (.int .u64 k)).setCell (p := ⟨w.heap.size, 2, none⟩) (Nat.le_refl _) (.slice A2 n2 c2)
                    first | exact hq | exact hq.drew
      all_goals
        have HR := Lib.hid (BAD (S4.bad_yes (.inr (.inl hk))))
        replace Bd := Lib.hid Bd
        clear hk BAD
        go_wp2_with (fail)
        refine bodyPost_ret (v := .tuple #[.agg #[.int .i64 0, .int .u64 0, .slice none 0 0], .int .i64 0, .int .i64 100]) (by simp [results, Try.results16, go_sem, y0, y1, y2]) rfl ⟨none, 0, 0, ?_, ?_, ?_, Fresh.nil _⟩
        · rw [HR.out.1, HR.out.2.1, HR.out.2.2.1, HR.out.2.2.2.2]
        · rw [HR.out.2.2.2.1]; exact Sl.nil _
        · repeat (first | exact Bd.out | refine Below.setCell ?_ (by simp) _)
    · have HR := Lib.hid (BAD (S4.bad_yes (.inl h66)))
      replace Bd := Lib.hid Bd
      clear BAD
      go_wp2_with (fail)
      refine bodyPost_ret (v := .tuple #[.agg #[.int .i64 0, .int .u64 0, .slice none 0 0], .int .i64 0, .int .i64 100]) (by simp [results, Try.results16, go_sem, y0, y1, y2]) rfl ⟨none, 0, 0, ?_, ?_, ?_, Fresh.nil _⟩
      · rw [HR.out.1, HR.out.2.1, HR.out.2.2.1, HR.out.2.2.2.2]
      · rw [HR.out.2.2.2.1]; exact Sl.nil _
      · repeat (first | exact Bd.out | refine Below.setCell ?_ (by simp) _)

end Go.Proofs.Ytcbneeckbpgmgaa
