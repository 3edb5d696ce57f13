/-
  What the proof wants: BoxR, BoxRB, BoxRC.
-/
import Derived.Test.YtihacmonohjmaaaQBoxC
import Derived.Test.YtihacmonohjmaaaQKeyR
import Derived.Test.YtihacmonohjmaaaQKeyRB
import Derived.Deep.RegionLaw

/-
  What Make and Read of the document's answer for boxes return.
-/
namespace Go.Proofs.Ytihacmonohjmaaa
open Go.RowKit

set_option maxHeartbeats 1600000 in
theorem r4make_any (kind key : Int) (A : Option Addr) (n cap : Nat) (body : List Int) (w : World) (h : Sl w A n cap body) (k0 : 0 ≤ key) (k1 : key ≤ 18446744073709551615) :
    Calls Try.prog 46 #[.int .i64 kind, .int .u64 key, .slice A n cap] w (MadeB kind key body w) := by
  have hmax := h.max
  unfold maxLen at hmax
  have hlen := Lib.hid h.len
  rcases S4.isK_cases kind with ⟨hk, q0, q1⟩ | ⟨hk, q⟩ | ⟨hk, q, q'⟩
  · rcases hv : S3.vk key
    · have HM := Lib.hid (S4.mk_key (body := body) hk hv)
      clear hk
      go_enter Try.func46, Try.ntmps46
      go_wp2_with (first | (go_at_call 72; refine (r3valid_any _ _ k0 k1).mono ?_; rintro e w' ⟨rfl, rfl⟩))
      go_ret2
      exact ⟨none, 0, 0, ret_two rfl (ival HM.out.1.symm), by rw [HM.out.2]; exact Sl.nil w, Below.refl _ _⟩
    · rcases Int.lt_or_le 1000 (body.length : Int) with l | l
      · have HM := Lib.hid (S4.mk_long (body := body) hk hv l)
        have l' : 1000 < (n : Int) := by have := hlen.out; omega
        clear hk
        go_enter Try.func46, Try.ntmps46
        go_wp2_with (first | (go_at_call 72; refine (r3valid_any _ _ k0 k1).mono ?_; rintro e w' ⟨rfl, rfl⟩))
        go_ret2
        exact ⟨none, 0, 0, ret_two rfl (ival HM.out.1.symm), by rw [HM.out.2]; exact Sl.nil w, Below.refl _ _⟩
      · have HM := Lib.hid (S4.mk_ok (body := body) hk hv l)
        have l' : (n : Int) ≤ 1000 := by have := hlen.out; omega
        have HR := Lib.hid (S4.boxOf_range (key := key) hk l h.range)
        have B0 : Below w.heap.size w (w.alloc (.cells #[.int .u8 66, .int .u8 kind] 5)) := (Below.refl _ _).alloc (Nat.le_refl _) _
        have O0 : Own .u8 5 (w.alloc (.cells #[.int .u8 66, .int .u8 kind] 5)) w.heap.size (.slice (some ⟨w.heap.size, 0, none⟩) 2 2) [66, kind] := Own.new .u8 _ (Nat.le_refl _) [66, kind] (show 2 ≤ maxLen by decide)
        replace O0 := Lib.hid O0
        replace B0 := Lib.hid B0
        have hk2 := Lib.hid hk
        clear l hk hk2
        replace h := Lib.hid h
        go_enter Try.func46, Try.ntmps46
        go_wp2_with (first | (go_at_call 72; refine (r3valid_any _ _ k0 k1).mono ?_; rintro e w' ⟨rfl, rfl⟩))
        refine (r3bytes_any key _ k0 k1).mono ?_
        rintro e w1 ⟨g1, cap1, rfl, hg1, R1, hb1⟩
        have B1 := below_keep hb1 B0.out
        have O1 := Own.below hb1 O0.out
        replace R1 := Lib.hid R1
        replace B1 := Lib.hid B1
        replace O1 := Lib.hid O1
        clear hb1
        have hN : ∀ z ∈ [(n : Int) / 256, (n : Int) % 256], IntKind.u8.min ≤ z ∧ z ≤ IntKind.u8.max := by
          intro z hz
          simp at hz
          rcases hz with rfl | rfl
          · exact ⟨by show 0 ≤ _; omega, by show _ ≤ 255; omega⟩
          · exact ⟨by show 0 ≤ _; omega, by show _ ≤ 255; omega⟩
        replace hN := Lib.hid hN
        have Ba := Lib.hid (fun (x : World) (o : Obj) => (Below.refl x.heap.size x).alloc (Nat.le_refl _) o)
        go_wp2_with (at_builtin; first
          | (refine wpList_push_row rfl (.tmp 23) (.tmp 25) 26 rfl Try.underlying26 u8_infoB (base := w.heap.size) (v := .slice (some ⟨w.heap.size, 0, none⟩) 2 2) (zs := [66, kind]) (ys := S3.bytes8 key) (A := some ⟨g1, 0, none⟩) (m := 8) (c := cap1) rfl rfl O1.out R1.out (by simp) (by decide) B1.out.size ?_; intro v2 w2 O2 hg2 _; have B2 := Lib.hid (Own.grown B1.out O1.out hg2); replace O2 := Lib.hid O2; clear hg2)
          | (refine wpList_push_row rfl (.tmp 27) (.tmp 35) 26 rfl Try.underlying26 u8_infoB (base := w.heap.size) (v := v2) (zs := [66, kind] ++ S3.bytes8 key) (ys := [(n : Int) / 256, (n : Int) % 256]) (A := some ⟨w2.heap.size, 0, none⟩) (m := 2) (c := 2) rfl rfl (O2.out.alloc _) (RowK.new .u8 w2 _ _ hN.out) (by simp [S3.bytes8]) (by decide) (B2.out.alloc B2.out.size _).size ?_; intro v3 w3 O3 hg3 _; have B3 := Lib.hid (Own.grown (B2.out.alloc B2.out.size _) (O2.out.alloc _) hg3); replace O3 := Lib.hid O3; clear hg3)
          | (refine wpList_push_row rfl (.tmp 37) (.tmp 38) 26 rfl Try.underlying26 u8_infoB (base := w.heap.size) (v := v3) (zs := [66, kind] ++ S3.bytes8 key ++ [(n : Int) / 256, (n : Int) % 256]) (ys := body) (A := A) (m := n) (c := cap) rfl rfl O3.out (h.out.keep B3.out).row (by simp [S3.bytes8]; omega) (by decide) B3.out.size ?_; intro v4 w4 O4 hg4 _; have B4 := Own.grown B3.out O3.out hg4; clear hg4))
        have he : ([66, kind] ++ S3.bytes8 key ++ [(n : Int) / 256, (n : Int) % 256] ++ body : List Int) = S4.boxOf kind key body := by
          simp [S4.boxOf, hlen.out]
        rw [he] at O4
        obtain ⟨A2, n2, cap2, rfl, hs2⟩ := O4.sl HR.out
        go_ret2
        exact ⟨A2, n2, cap2, ret_two rfl (ival HM.out.1.symm), by rw [HM.out.2]; exact hs2, B4⟩
  all_goals
    have HM := Lib.hid (S4.mk_kind (key := key) (body := body) hk)
    clear hk
    go_enter Try.func46, Try.ntmps46
    go_wp2_with (fail)
    go_ret2
    exact ⟨none, 0, 0, ret_two rfl (ival HM.out.1.symm), by rw [HM.out.2]; exact Sl.nil w, Below.refl _ _⟩

end Go.Proofs.Ytihacmonohjmaaa

/-
  What Read of the document's answer for boxes returns.
-/
namespace Go.Proofs.Ytihacmonohjmaaa
open Go.RowKit

set_option maxHeartbeats 3200000 in
theorem r4read_any (A : Option Addr) (n cap : Nat) (zs : List Int) (w : World) (h : Sl w A n cap zs) : Calls Try.prog 75 #[.slice A n cap] w (ReadB zs w) := by
  have hmax := h.max
  have hcap := h.2.1
  have hcm := h.2.2.1
  unfold maxLen at hmax hcm
  have hlen := Lib.hid h.len
  rcases Int.lt_or_le (n : Int) 12 with h12 | h12
  · have HR := Lib.hid (S4.rd_short (zs := zs) (by rw [hlen.out]; exact h12))
    go_enter Try.func75, Try.ntmps75
    go_wp2
    refine bodyPost_ret (v := .tuple #[.agg #[.int .i64 0, .int .u64 0, .slice none 0 0], .int .i64 0, .int .i64 101]) (by simp [results, Try.results75, go_sem]) rfl ⟨none, 0, 0, ?_, ?_, ?_, Fresh.nil _⟩
    · rw [HR.out.1, HR.out.2.1, HR.out.2.2.1, HR.out.2.2.2.2]
    · rw [HR.out.2.2.2.1]; exact Sl.nil _
    · exact (Below.refl _ _).alloc (Nat.le_refl _) _
  · have h0 : 0 < n := by omega
    obtain ⟨b, off, rfl⟩ : ∃ b off, A = some ⟨b, off, none⟩ := by
      obtain ⟨b, off, _, e, _⟩ := h.row.at h0
      exact ⟨b, off, e⟩
    obtain ⟨l0, u0, x0⟩ := h.at (i := 0) (by omega)
    obtain ⟨l1, u1, x1⟩ := h.at (i := 1) (by omega)
    obtain ⟨l10, u10, x10⟩ := h.at (i := 10) (by omega)
    obtain ⟨l11, u11, x11⟩ := h.at (i := 11) (by omega)
    rw [Nat.add_zero] at x0
    have hor := or16 _ _ l10 u10 l11 u11
    have hn12 := Lib.hid (show ¬ (zs.length : Int) < 12 by rw [hlen.out]; omega)
    replace h := Lib.hid h
    go_enter Try.func75, Try.ntmps75
    go_wp2_with (fail)
    refine (r3read_any _ _ _ _ _ (RowK.keep ((Below.refl _ _).alloc (Nat.le_refl _) _) (h.out.row.part 2 8 (by omega))) (by decide)).mono ?_
    rintro e w' ⟨rfl, rfl⟩
    go_wp2_with (fail)
    go_quiet (fail)
    have hL : ∃ m : Nat, S4.at0 zs 10 * 256 + S4.at0 zs 11 = (m : Int) := ⟨(S4.at0 zs 10 * 256 + S4.at0 zs 11).toNat, by omega⟩
    obtain ⟨m, hL⟩ := hL
    rw [hL]
    have hLm : S4.lenOf zs = (m : Int) := hL
    have hm : m ≤ 65535 := by omega
    replace hL := Lib.hid hL
    replace hLm := Lib.hid hLm
    replace hlen := Lib.hid hlen.out
    have HK : ∃ k, k = S3.readN (List.take 8 (List.drop 2 zs)) := ⟨_, rfl⟩
    obtain ⟨k, HK⟩ := HK
    rw [← HK]
    replace HK := Lib.hid HK
    have Bd : Below w.heap.size w ((w.alloc (Obj.cells #[Value.int IntKind.i64 0, Value.int IntKind.u64 0, Value.slice none 0 0] 93)).drewN nq) := below_drewN' ((Below.refl _ _).alloc (Nat.le_refl _) _) _
    have v0 : ((w.alloc (Obj.cells #[Value.int IntKind.i64 0, Value.int IntKind.u64 0, Value.slice none 0 0] 93)).drewN nq).cell? ⟨b, off, none⟩ = some (.int .u8 (S4.at0 zs 0)) := x0 _
    have v1 : ((w.alloc (Obj.cells #[Value.int IntKind.i64 0, Value.int IntKind.u64 0, Value.slice none 0 0] 93)).drewN nq).cell? ⟨b, off + 1, none⟩ = some (.int .u8 (S4.at0 zs 1)) := x1 _
    have y0 : ((w.alloc (Obj.cells #[Value.int IntKind.i64 0, Value.int IntKind.u64 0, Value.slice none 0 0] 93)).drewN nq).cell? ⟨w.heap.size, 0, none⟩ = some (.int .i64 0) := by simp [go_sem]
    have y1 : ((w.alloc (Obj.cells #[Value.int IntKind.i64 0, Value.int IntKind.u64 0, Value.slice none 0 0] 93)).drewN nq).cell? ⟨w.heap.size, 1, none⟩ = some (.int .u64 0) := by simp [go_sem]
    have y2 : ((w.alloc (Obj.cells #[Value.int IntKind.i64 0, Value.int IntKind.u64 0, Value.slice none 0 0] 93)).drewN nq).cell? ⟨w.heap.size, 2, none⟩ = some (.slice none 0 0) := by simp [go_sem]
    have y3 : ∀ o, ((w.alloc (Obj.cells #[Value.int IntKind.i64 0, Value.int IntKind.u64 0, Value.slice none 0 0] 93)).drewN nq).frozen? ⟨w.heap.size, o, none⟩ = false := fun o => by simp [go_sem]
    have zl : w.heap.size < ((w.alloc (Obj.cells #[Value.int IntKind.i64 0, Value.int IntKind.u64 0, Value.slice none 0 0] 93)).drewN nq).heap.size := by simp
    clear hor x0 x1 x10 x11 l10 l11 u10 u11
    generalize (w.alloc (Obj.cells #[Value.int IntKind.i64 0, Value.int IntKind.u64 0, Value.slice none 0 0] 93)).drewN nq = W1 at *
    have BAD : S4.bad zs = true → S4.rdE zs = 100 ∧ S4.rdK zs = 0 ∧ S4.rdY zs = 0 ∧ S4.rdB zs = [] ∧ S4.rdN zs = 0 := fun g => S4.rd_bad (by have := hn12.out; omega) g
    by_cases h66 : S4.at0 zs 0 = 66
    · rcases S4.isK_cases (S4.at0 zs 1) with ⟨hk, q0, q1⟩ | ⟨hk, q⟩ | ⟨hk, q, q'⟩
      · rcases hy : S3.readOk (List.take 8 (List.drop 2 zs))
        · have HR := Lib.hid (BAD (S4.bad_yes (.inr (.inr (.inl hy)))))
          replace Bd := Lib.hid Bd
          clear hk BAD
          go_wp2_with (fail)
          refine bodyPost_ret (v := .tuple #[.agg #[.int .i64 0, .int .u64 0, .slice none 0 0], .int .i64 0, .int .i64 100]) (by simp [results, Try.results75, go_sem, y0, y1, y2]) rfl ⟨none, 0, 0, ?_, ?_, ?_, Fresh.nil _⟩
          · rw [HR.out.1, HR.out.2.1, HR.out.2.2.1, HR.out.2.2.2.2]
          · rw [HR.out.2.2.2.1]; exact Sl.nil _
          · repeat (first | exact Bd.out | refine Below.setCell ?_ (by simp) _)
        · rcases Int.lt_or_le 1000 (m : Int) with hg | hg
          · have HR := Lib.hid (BAD (S4.bad_yes (.inr (.inr (.inr (by rw [hLm.out]; exact hg))))))
            replace Bd := Lib.hid Bd
            clear hk BAD
            go_wp2_with (fail)
            refine bodyPost_ret (v := .tuple #[.agg #[.int .i64 0, .int .u64 0, .slice none 0 0], .int .i64 0, .int .i64 100]) (by simp [results, Try.results75, go_sem, y0, y1, y2]) rfl ⟨none, 0, 0, ?_, ?_, ?_, Fresh.nil _⟩
            · rw [HR.out.1, HR.out.2.1, HR.out.2.2.1, HR.out.2.2.2.2]
            · rw [HR.out.2.2.2.1]; exact Sl.nil _
            · repeat (first | exact Bd.out | refine Below.setCell ?_ (by simp) _)
          · have hgood := S4.good_parts h66 hk hy (by rw [hLm.out]; exact hg)
            rcases Int.lt_or_le (n : Int) (12 + (m : Int)) with he | he
            · have HR := Lib.hid (S4.rd_cut (by have := hn12.out; omega) hgood (by rw [hlen.out, hLm.out]; exact he))
              replace Bd := Lib.hid Bd
              clear hk BAD hgood
              go_wp2_with (fail)
              refine bodyPost_ret (v := .tuple #[.agg #[.int .i64 0, .int .u64 0, .slice none 0 0], .int .i64 0, .int .i64 101]) (by simp [results, Try.results75, go_sem, y0, y1, y2]) rfl ⟨none, 0, 0, ?_, ?_, ?_, Fresh.nil _⟩
              · rw [HR.out.1, HR.out.2.1, HR.out.2.2.1, HR.out.2.2.2.2]
              · rw [HR.out.2.2.2.1]; exact Sl.nil _
              · repeat (first | exact Bd.out | refine Below.setCell ?_ (by simp) _)
            · have HR := Lib.hid (S4.rd_ok (by have := hn12.out; omega) hgood (by rw [hlen.out, hLm.out]; omega))
              have he' : 12 + m ≤ n := by omega
              have hb1 := (S4.rdB_range (zs := zs) h.out.range)
              have hR := RowK.keep Bd (h.out.row.part 12 m (by omega))
              have e1 : S4.rdB zs = (zs.drop 12).take m := by rw [HR.out.2.2.2.1, hLm.out]; rfl
              rw [← e1] at hR
              replace hb1 := Lib.hid hb1
              replace hR := Lib.hid hR
              replace Bd := Lib.hid Bd
              clear hk BAD hgood e1
              have hm0 : m ≤ 1000 := by omega
              rcases Nat.eq_or_lt_of_le (show 12 ≤ cap by omega) with hc | hc
              · have em : m = 0 := by omega
                subst em
                have e2 : S4.rdB zs = [] := List.eq_nil_of_length_eq_zero hR.out.len
                subst hc
                replace hR : Hid (RowK .u8 W1 (some ⟨b, off, none⟩) 0 (S4.rdB zs)) := by rw [e2]; exact Lib.hid (RowK.empty _ _ _)
                clear e2
                go_wp2_with (fail)
                have va : ∀ o, (W1.alloc o).cell? ⟨b, off + 1, none⟩ = some (.int .u8 (S4.at0 zs 1)) := fun o => cell_keep ((Below.refl _ _).alloc (Nat.le_refl _) o) v1
                have hwz : IntKind.i64.wrap (S4.at0 zs 1) = S4.at0 zs 1 := by rw [IntKind.wrap_i64]; omega
                have hw0 : IntKind.i64.wrap 12 = 12 := by decide
                go_region_law (first
                  | (with_reducible refine step_push_row (w := (W1.alloc (.cells #[] 5)).drew) ?_ (.tmp 66) (.tmp 70) 26 ?_ Try.underlying26 u8_infoB (base := W1.heap.size) (v := .slice (some ⟨W1.heap.size, 0, none⟩) 0 0) (zs := []) (ys := S4.rdB zs) (A := some ⟨b, off, none⟩) (m := 0) (c := 0) ?_ ?_ ?_ ?_ ?_ (by decide) ?_ ?_
                     · rfl
                     · rfl
                     · kernel_rfl
                     · kernel_rfl
                     · exact Own.drew (Own.new .u8 _ (Nat.le_refl _) [] (by decide))
                     · exact hR.out.keep ((Below.refl _ _).alloc (Nat.le_refl _) _).drew
                     · simp <;> omega
                     · exact ((Below.refl _ _).alloc (Nat.le_refl _) _).drew.size
                     intro v2 w2 own2 hg2 _
                     have B2 : Below W1.heap.size W1 w2 := Own.grown ((Below.refl _ _).alloc (Nat.le_refl _) _).drew (Own.drew (Own.new .u8 _ (Nat.le_refl _) [] (by decide))) hg2
                     have u0 := cell_keep B2 y0
                     have u1 := cell_keep B2 y1
                     have u2 := cell_keep B2 y2
                     have t1 := cell_keep B2 v1
                     have u3 : ∀ o, w2.frozen? ⟨w.heap.size, o, none⟩ = false := fun o => by rw [(bcell B2).2 _ _ zl]; exact y3 o
                     obtain ⟨A2, n2, c2, rfl, hs2, hf2⟩ := Own.slf own2 hb1.out
                     replace hs2 := Lib.hid hs2
                     clear hg2)
                  | (with_reducible refine step_push_row (w := (W1.alloc (.cells #[] 5))) ?_ (.tmp 66) (.tmp 70) 26 ?_ Try.underlying26 u8_infoB (base := W1.heap.size) (v := .slice (some ⟨W1.heap.size, 0, none⟩) 0 0) (zs := []) (ys := S4.rdB zs) (A := some ⟨b, off, none⟩) (m := 0) (c := 0) ?_ ?_ ?_ ?_ ?_ (by decide) ?_ ?_
                     · rfl
                     · rfl
                     · kernel_rfl
                     · kernel_rfl
                     · exact Own.new .u8 _ (Nat.le_refl _) [] (by decide)
                     · exact hR.out.keep ((Below.refl _ _).alloc (Nat.le_refl _) _)
                     · simp <;> omega
                     · exact ((Below.refl _ _).alloc (Nat.le_refl _) _).size
                     intro v2 w2 own2 hg2 _
                     have B2 : Below W1.heap.size W1 w2 := Own.grown ((Below.refl _ _).alloc (Nat.le_refl _) _) (Own.new .u8 _ (Nat.le_refl _) [] (by decide)) hg2
                     have u0 := cell_keep B2 y0
                     have u1 := cell_keep B2 y1
                     have u2 := cell_keep B2 y2
                     have t1 := cell_keep B2 v1
                     have u3 : ∀ o, w2.frozen? ⟨w.heap.size, o, none⟩ = false := fun o => by rw [(bcell B2).2 _ _ zl]; exact y3 o
                     obtain ⟨A2, n2, c2, rfl, hs2, hf2⟩ := Own.slf own2 hb1.out
                     replace hs2 := Lib.hid hs2
                     clear hg2)
                  | fail)
                all_goals
                  have B3 := below_keep B2 Bd.out
                  go_wp2_with (fail)
                  refine bodyPost_ret (v := .tuple #[.agg #[.int .i64 (S4.at0 zs 1), .int .u64 k, .slice A2 n2 c2], .int .i64 (12), .int .i64 0]) (by simp [results, Try.results75, go_sem, u0, u1, u2]) rfl ⟨A2, n2, c2, ?_, ?_, ?_, hf2.le (by omega)⟩
                  · rw [HR.out.1, HR.out.2.1, HR.out.2.2.1, HR.out.2.2.2.2, hLm.out, HK.out]; rfl
                  · have hq := ((hs2.out.outside hf2 (p := ⟨w.heap.size, 0, none⟩) zl (.int .i64 (S4.at0 zs 1))).outside hf2 (p := ⟨w.heap.size, 1, none⟩) zl (.int .u64 k)).outside hf2 (p := ⟨w.heap.size, 2, none⟩) zl (.slice A2 n2 c2)
                    exact hq
                  · have hq := ((B3.setCell (p := ⟨w.heap.size, 0, none⟩) (Nat.le_refl _) (.int .i64 (S4.at0 zs 1))).setCell (p := ⟨w.heap.size, 1, none⟩) (Nat.le_refl _) (.int .u64 k)).setCell (p := ⟨w.heap.size, 2, none⟩) (Nat.le_refl _) (.slice A2 n2 c2)
                    first | exact hq | exact hq.drew
              · have hcj : ¬ cap = 12 := by omega
                go_wp2_with (fail)
                have va : ∀ o, (W1.alloc o).cell? ⟨b, off + 1, none⟩ = some (.int .u8 (S4.at0 zs 1)) := fun o => cell_keep ((Below.refl _ _).alloc (Nat.le_refl _) o) v1
                have hwz : IntKind.i64.wrap (S4.at0 zs 1) = S4.at0 zs 1 := by rw [IntKind.wrap_i64]; omega
                have hw0 : IntKind.i64.wrap (12 + (m : Int)) = 12 + (m : Int) := by rw [IntKind.wrap_i64]; omega
                have hw1 : max (12 + (m : Int)) 0 = 12 + (m : Int) := by omega
                have hw2 : (12 + (m : Int)).toNat - 12 = m := by omega
                have hw3 : 12 + (m : Int) ≤ (cap : Int) := by omega
                have hw4 : (0 : Int) ≤ 12 + (m : Int) := by omega
                have hw5 : (12 : Int) ≤ 12 + (m : Int) := by omega
                go_region_law (first
                  | (with_reducible refine step_push_row (w := (W1.alloc (.cells #[] 5)).drew) ?_ (.tmp 66) (.tmp 70) 26 ?_ Try.underlying26 u8_infoB (base := W1.heap.size) (v := .slice (some ⟨W1.heap.size, 0, none⟩) 0 0) (zs := []) (ys := S4.rdB zs) (A := some ⟨b, off + 12, none⟩) (m := m) (c := cap - 12) ?_ ?_ ?_ ?_ ?_ (by decide) ?_ ?_
                     · rfl
                     · rfl
                     · kernel_rfl
                     · kernel_rfl
                     · exact Own.drew (Own.new .u8 _ (Nat.le_refl _) [] (by decide))
                     · exact hR.out.keep ((Below.refl _ _).alloc (Nat.le_refl _) _).drew
                     · simp <;> omega
                     · exact ((Below.refl _ _).alloc (Nat.le_refl _) _).drew.size
                     intro v2 w2 own2 hg2 _
                     have B2 : Below W1.heap.size W1 w2 := Own.grown ((Below.refl _ _).alloc (Nat.le_refl _) _).drew (Own.drew (Own.new .u8 _ (Nat.le_refl _) [] (by decide))) hg2
                     have u0 := cell_keep B2 y0
                     have u1 := cell_keep B2 y1
                     have u2 := cell_keep B2 y2
                     have t1 := cell_keep B2 v1
                     have u3 : ∀ o, w2.frozen? ⟨w.heap.size, o, none⟩ = false := fun o => by rw [(bcell B2).2 _ _ zl]; exact y3 o
                     obtain ⟨A2, n2, c2, rfl, hs2, hf2⟩ := Own.slf own2 hb1.out
                     replace hs2 := Lib.hid hs2
                     clear hg2)
                  | (with_reducible refine step_push_row (w := (W1.alloc (.cells #[] 5))) ?_ (.tmp 66) (.tmp 70) 26 ?_ Try.underlying26 u8_infoB (base := W1.heap.size) (v := .slice (some ⟨W1.heap.size, 0, none⟩) 0 0) (zs := []) (ys := S4.rdB zs) (A := some ⟨b, off + 12, none⟩) (m := m) (c := cap - 12) ?_ ?_ ?_ ?_ ?_ (by decide) ?_ ?_
                     · rfl
                     · rfl
                     · kernel_rfl
                     · kernel_rfl
                     · exact Own.new .u8 _ (Nat.le_refl _) [] (by decide)
                     · exact hR.out.keep ((Below.refl _ _).alloc (Nat.le_refl _) _)
                     · simp <;> omega
                     · exact ((Below.refl _ _).alloc (Nat.le_refl _) _).size
                     intro v2 w2 own2 hg2 _
                     have B2 : Below W1.heap.size W1 w2 := Own.grown ((Below.refl _ _).alloc (Nat.le_refl _) _) (Own.new .u8 _ (Nat.le_refl _) [] (by decide)) hg2
                     have u0 := cell_keep B2 y0
                     have u1 := cell_keep B2 y1
                     have u2 := cell_keep B2 y2
                     have t1 := cell_keep B2 v1
                     have u3 : ∀ o, w2.frozen? ⟨w.heap.size, o, none⟩ = false := fun o => by rw [(bcell B2).2 _ _ zl]; exact y3 o
                     obtain ⟨A2, n2, c2, rfl, hs2, hf2⟩ := Own.slf own2 hb1.out
                     replace hs2 := Lib.hid hs2
                     clear hg2)
                  | fail)
                all_goals
                  have B3 := below_keep B2 Bd.out
                  go_wp2_with (fail)
                  refine bodyPost_ret (v := .tuple #[.agg #[.int .i64 (S4.at0 zs 1), .int .u64 k, .slice A2 n2 c2], .int .i64 (12 + (m : Int)), .int .i64 0]) (by simp [results, Try.results75, go_sem, u0, u1, u2]) rfl ⟨A2, n2, c2, ?_, ?_, ?_, hf2.le (by omega)⟩
                  · rw [HR.out.1, HR.out.2.1, HR.out.2.2.1, HR.out.2.2.2.2, hLm.out, HK.out]; rfl
                  · have hq := ((hs2.out.outside hf2 (p := ⟨w.heap.size, 0, none⟩) zl (.int .i64 (S4.at0 zs 1))).outside hf2 (p := ⟨w.heap.size, 1, none⟩) zl (.int .u64 k)).outside hf2 (p := ⟨w.heap.size, 2, none⟩) zl (.slice A2 n2 c2)
                    exact hq
                  · have hq := ((B3.setCell (p := ⟨w.heap.size, 0, none⟩) (Nat.le_refl _) (.int .i64 (S4.at0 zs 1))).setCell (p := ⟨w.heap.size, 1, none⟩) (Nat.le_refl _) (.int .u64 k)).setCell (p := ⟨w.heap.size, 2, none⟩) (Nat.le_refl _) (.slice A2 n2 c2)
                    first | exact hq | exact hq.drew
      all_goals
        have HR := Lib.hid (BAD (S4.bad_yes (.inr (.inl hk))))
        replace Bd := Lib.hid Bd
        clear hk BAD
        go_wp2_with (fail)
        refine bodyPost_ret (v := .tuple #[.agg #[.int .i64 0, .int .u64 0, .slice none 0 0], .int .i64 0, .int .i64 100]) (by simp [results, Try.results75, go_sem, y0, y1, y2]) rfl ⟨none, 0, 0, ?_, ?_, ?_, Fresh.nil _⟩
        · rw [HR.out.1, HR.out.2.1, HR.out.2.2.1, HR.out.2.2.2.2]
        · rw [HR.out.2.2.2.1]; exact Sl.nil _
        · repeat (first | exact Bd.out | refine Below.setCell ?_ (by simp) _)
    · have HR := Lib.hid (BAD (S4.bad_yes (.inl h66)))
      replace Bd := Lib.hid Bd
      clear BAD
      go_wp2_with (fail)
      refine bodyPost_ret (v := .tuple #[.agg #[.int .i64 0, .int .u64 0, .slice none 0 0], .int .i64 0, .int .i64 100]) (by simp [results, Try.results75, go_sem, y0, y1, y2]) rfl ⟨none, 0, 0, ?_, ?_, ?_, Fresh.nil _⟩
      · rw [HR.out.1, HR.out.2.1, HR.out.2.2.1, HR.out.2.2.2.2]
      · rw [HR.out.2.2.2.1]; exact Sl.nil _
      · repeat (first | exact Bd.out | refine Below.setCell ?_ (by simp) _)

end Go.Proofs.Ytihacmonohjmaaa

/-
  What Open and Is of the document's answer for boxes return.
-/
namespace Go.Proofs.Ytihacmonohjmaaa
open Go.RowKit


set_option maxHeartbeats 1600000 in
theorem r4open_any (A : Option Addr) (n cap : Nat) (zs : List Int) (kind key : Int) (w : World) (h : Sl w A n cap zs) : Calls Try.prog 48 #[.slice A n cap, .int .i64 kind, .int .u64 key] w (OpenB (S4.opOk zs kind key) (S4.opB zs kind key) w) := by
  have hlen := h.len
  have hmax := h.max
  unfold maxLen at hmax
  have RD := Lib.hid (r4read_any _ _ _ zs _ h)
  rcases hB : S4.isB zs
  · have HO := Lib.hid (op_not (zs := zs) (kind := kind) (key := key) (.inl hB))
    have hne : (S4.rdE zs != 0) = true ∨ S4.rdE zs = 0 ∧ (S4.rdN zs != (n : Int)) = true := by
      rcases isB_not hB with e | ⟨e, g⟩
      · left; simpa using e
      · right; rw [← hlen]; exact ⟨e, by simpa using g⟩
    clear hlen
    rcases hne with hE | ⟨hE, hN⟩
    all_goals
      go_enter Try.func48, Try.ntmps48
      go_wp2_with (fail)
      refine RD.out.mono ?_
      rintro e w1 ⟨A1, n1, c1, rfl, hs1, hb1, hf1⟩
      clear hs1
      go_wp2_with (fail)
      go_ret2
      exact ⟨none, 0, 0, ret_two rfl (bval HO.out.1.symm), by rw [HO.out.2]; exact Sl.nil _, hb1.alloc hb1.size _, Fresh.nil _⟩
  · obtain ⟨hE, hN⟩ := isB_parts hB
    rw [hlen] at hN
    clear hlen
    by_cases hK : S4.rdK zs = kind
    · by_cases hY : S4.rdY zs = key
      · subst hK hY
        have HO := Lib.hid (op_yes hB)
        go_enter Try.func48, Try.ntmps48
        go_wp2_with (fail)
        refine RD.out.mono ?_
        rintro e w1 ⟨A1, n1, c1, rfl, hs1, hb1, hf1⟩
        replace hs1 := Lib.hid hs1
        go_wp2_with (fail)
        go_ret2
        exact ⟨A1, n1, c1, ret_two rfl (bval HO.out.1.symm), by rw [HO.out.2]; exact hs1.out.keep ((Below.refl _ _).alloc (Nat.le_refl _) _), hb1.alloc hb1.size _, hf1⟩
      · have HO := Lib.hid (op_not (zs := zs) (kind := kind) (key := key) (.inr (.inr hY)))
        go_enter Try.func48, Try.ntmps48
        go_wp2_with (fail)
        refine RD.out.mono ?_
        rintro e w1 ⟨A1, n1, c1, rfl, hs1, hb1, hf1⟩
        clear hs1
        go_wp2_with (fail)
        go_ret2
        exact ⟨none, 0, 0, ret_two rfl (bval HO.out.1.symm), by rw [HO.out.2]; exact Sl.nil _, hb1.alloc hb1.size _, Fresh.nil _⟩
    · have HO := Lib.hid (op_not (zs := zs) (kind := kind) (key := key) (.inr (.inl hK)))
      go_enter Try.func48, Try.ntmps48
      go_wp2_with (fail)
      refine RD.out.mono ?_
      rintro e w1 ⟨A1, n1, c1, rfl, hs1, hb1, hf1⟩
      clear hs1
      go_wp2_with (fail)
      go_ret2
      exact ⟨none, 0, 0, ret_two rfl (bval HO.out.1.symm), by rw [HO.out.2]; exact Sl.nil _, hb1.alloc hb1.size _, Fresh.nil _⟩

end Go.Proofs.Ytihacmonohjmaaa
