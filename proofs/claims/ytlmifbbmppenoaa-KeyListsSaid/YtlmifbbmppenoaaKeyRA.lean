/-
  What Add of the document's answer for keys returns.
-/
import Derived.Test.YtlmifbbmppenoaaPush
import Derived.Test.YtlmifbbmppenoaaListPlain
import Derived.Deep.RegionLaw
namespace Go.Proofs.Ytlmifbbmppenoaa
open Go.RowKit

theorem key_info : (Try.prog.info? 24).map (fun i => (i.zero, i.size, i.bytes)) = some (some (.int .u64 0), 1, 8) := by kernel_rfl

/-- A new row behind another new block. -/
theorem new1 (q : IntKind) (w : World) (o : Obj) (k : Int) (t : TypeId) (h : ∀ n ∈ [k], q.min ≤ n ∧ n ≤ q.max) : RowK q ((w.alloc o).alloc (.cells #[.int q k] t)) (some ⟨w.heap.size + 1, 0, none⟩) 1 [k] := by
  have e := RowK.new q (w.alloc o) [k] t h
  rw [show (w.alloc o).heap.size = w.heap.size + 1 by simp] at e
  exact e
theorem new0 (q : IntKind) (w : World) (o : Obj) (k : Int) (t : TypeId) (h : ∀ n ∈ [k], q.min ≤ n ∧ n ≤ q.max) : RowK q ((w.alloc (.cells #[.int q k] t)).alloc o) (some ⟨w.heap.size, 0, none⟩) 1 [k] :=
  RowK.keep ((Below.refl _ _).alloc (Nat.le_refl _) _) (RowK.new q w [k] t h)
theorem own1 (q : IntKind) (w : World) (o : Obj) (t : TypeId) : Own q t ((w.alloc o).alloc (.cells #[] t)) w.heap.size (.slice (some ⟨w.heap.size + 1, 0, none⟩) 0 0) [] := by
  have e := Own.new q t (w := w.alloc o) (base := w.heap.size) (by simp) [] (by decide)
  rw [show (w.alloc o).heap.size = w.heap.size + 1 by simp] at e
  exact e

def AllLt (k : Int) (l : List Int) : Prop := ∀ z ∈ l, z < k

/-- A new row of keys. -/
def KeyRow (zs : List Int) (w : World) (e : Ending) (w' : World) : Prop := ∃ v, e = .returned v ∧ Own .u64 24 w' w.heap.size v zs ∧ Below w.heap.size w w'

set_option maxHeartbeats 1600000 in
theorem r3add_any (k : Int) (a : Option Addr) (len cap : Nat) (zs : List Int) (w : World) (h : RowK .u64 w a len zs) (ha : a = none ∧ len = 0 ∧ cap = 0 ∨ ∃ b off, a = some ⟨b, off, none⟩) (hlc : len ≤ cap) (hl : len ≤ 1000) (hcm : cap ≤ maxLen) (k0 : 0 ≤ k) (k1 : k ≤ 18446744073709551615) :
    Calls Try.prog 26 #[.slice a len cap, .int .u64 k] w (KeyRow (S3.add k zs) w) := by
  unfold maxLen at hcm
  have hlen := Lib.hid h.len
  go_enter Try.func26, Try.ntmps26
  go_wp2
  go_loop [5] (fun i => ∃ j : Nat, j ≤ len ∧ i = .int .i64 j ∧ AllLt k (zs.take j)) (fun i => len - (intOf i).toNat)
  case atStart => exact ⟨0, Nat.zero_le _, rfl, fun z hz => by simp at hz⟩
  case round =>
    obtain ⟨j, hj, rfl, hn⟩ := hrel
    by_cases hlt : j < len
    · obtain ⟨b, off, z, rfl, hz, hz1, hz2, hc⟩ := h.at hlt
      by_cases e : z < k
      · have H := Lib.hid (show AllLt k (zs.take (j + 1)) by
          intro y hy
          rw [List.take_add_one, hz] at hy
          rcases List.mem_append.1 hy with hy | hy
          · exact hn y hy
          · simp at hy; subst hy; exact e)
        clear hz hn
        go_wp2
        all_goals
          go_round
          case rel => exact ⟨j + 1, by omega, by go_num, H.out⟩
          case measure => simp [intOf]; omega
      · by_cases e2 : z = k
        · subst e2
          have H := Lib.hid (S3.add_hit hn hz)
          have hzl : zs.length ≤ 1000 := by have := hlen.out; omega
          clear hz hn
          go_wp2_with (at_builtin; refine wpList_push_row rfl (.tmp 32) (.tmp 33) 33 rfl Try.underlying33 key_info (base := w.heap.size) (v := .slice (some ⟨w.heap.size, 0, none⟩) 0 0) (zs := []) (ys := zs) (A := some ⟨b, off, none⟩) (m := len) (c := cap) rfl rfl (Own.new .u64 _ (Nat.le_refl _) [] (by decide)) (h.keep ((Below.refl _ _).alloc (Nat.le_refl _) _)) (by simp; omega) (by decide) (by simp) ?_; intro v6 w6 hown6 hg6 _)
          go_ret
          exact ⟨v6, rfl, by rw [H.out]; exact hown6, Own.grown ((Below.refl _ _).alloc (Nat.le_refl _) _) (Own.new .u64 _ (Nat.le_refl _) [] (by decide)) hg6⟩
        · have H := Lib.hid (S3.add_in hn hz e e2)
          clear hz hn
          have e3 : (z == k) = false := by simpa using e2
          have e4 : decide (z = k) = false := by simpa using e2
          have hjc : j ≤ cap := by omega
          have hcj : ¬ cap = j := by omega
          go_wp2_with (fail)
          have hk : ∀ n ∈ [k], IntKind.u64.min ≤ n ∧ n ≤ IntKind.u64.max := by
            intro n hn
            rw [List.mem_singleton] at hn
            subst hn
            exact ⟨k0, k1⟩
          have hk := Lib.hid hk
          have hzl : zs.length ≤ 1000 := by have := hlen.out; omega
          have T1 := h.cut j hj
          have T2 := h.rest j hj (a' := some ⟨b, off + j, none⟩) (fun b' off' e _ => by cases e; rfl)
          have T1 := Lib.hid T1
          have T2 := Lib.hid T2
          go_region_law (first
            | (with_reducible refine step_push_row (w := (w.alloc (.cells #[] 24)).drew) ?_ (.tmp 35) (.tmp 38) 33 ?_ Try.underlying33 key_info (base := w.heap.size) (v := .slice (some ⟨w.heap.size, 0, none⟩) 0 0) (zs := []) (ys := zs.take j) (A := some ⟨b, off, none⟩) (m := j) (c := cap) ?_ ?_ ?_ ?_ ?_ (by decide) ?_ ?_
               · rfl
               · rfl
               · rfl
               · rfl
               · exact Own.drew (Own.new .u64 _ (Nat.le_refl _) [] (by decide))
               · exact T1.out.keep ((Below.refl _ _).alloc (Nat.le_refl _) _).drew
               · simp <;> omega
               · exact ((Below.refl _ _).alloc (Nat.le_refl _) _).drew.size
               intro v2 w2 hown2 hg2 _
               have B2 : Below w.heap.size w w2 := Own.grown ((Below.refl _ _).alloc (Nat.le_refl _) _).drew (Own.drew (Own.new .u64 _ (Nat.le_refl _) [] (by decide))) hg2
               clear hg2)
            | (with_reducible refine step_push_row (w := ((w.alloc (.cells #[] 24)).alloc (.cells #[.int .u64 k] 24)).drew) ?_ (.tmp 35) (.tmp 38) 33 ?_ Try.underlying33 key_info (base := w.heap.size) (v := .slice (some ⟨w.heap.size, 0, none⟩) 0 0) (zs := []) (ys := zs.take j) (A := some ⟨b, off, none⟩) (m := j) (c := cap) ?_ ?_ ?_ ?_ ?_ (by decide) ?_ ?_
               · rfl
               · rfl
               · rfl
               · rfl
               · exact Own.drew ((Own.new .u64 _ (Nat.le_refl _) [] (by decide)).alloc _)
               · exact T1.out.keep (((Below.refl _ _).alloc (Nat.le_refl _) _).alloc (by simp) _).drew
               · simp <;> omega
               · exact (((Below.refl _ _).alloc (Nat.le_refl _) _).alloc (by simp) _).drew.size
               intro v2 w2 hown2 hg2 _
               have B2 : Below w.heap.size w w2 := Own.grown (((Below.refl _ _).alloc (Nat.le_refl _) _).alloc (by simp) _).drew (Own.drew ((Own.new .u64 _ (Nat.le_refl _) [] (by decide)).alloc _)) hg2
               have hR41 : RowK .u64 w2 (some ⟨w.heap.size + 1, 0, none⟩) 1 [k] := RowK.beside (w := ((w.alloc (.cells #[] 24)).alloc (.cells #[.int .u64 k] 24)).drew) (new1 .u64 w _ k _ hk.out) hg2 (by intro b' off' e; cases e; simp [Value.ownBlock])
               clear hg2)
            | (with_reducible refine step_push_row (w := ((w.alloc (.cells #[.int .u64 k] 24)).alloc (.cells #[] 24)).drew) ?_ (.tmp 35) (.tmp 38) 33 ?_ Try.underlying33 key_info (base := w.heap.size) (v := .slice (some ⟨w.heap.size + 1, 0, none⟩) 0 0) (zs := []) (ys := zs.take j) (A := some ⟨b, off, none⟩) (m := j) (c := cap) ?_ ?_ ?_ ?_ ?_ (by decide) ?_ ?_
               · rfl
               · rfl
               · rfl
               · rfl
               · exact Own.drew (own1 .u64 w _ _)
               · exact T1.out.keep (((Below.refl _ _).alloc (Nat.le_refl _) _).alloc (by simp) _).drew
               · simp <;> omega
               · exact (((Below.refl _ _).alloc (Nat.le_refl _) _).alloc (by simp) _).drew.size
               intro v2 w2 hown2 hg2 _
               have B2 : Below w.heap.size w w2 := Own.grown (((Below.refl _ _).alloc (Nat.le_refl _) _).alloc (by simp) _).drew (Own.drew (own1 .u64 w _ _)) hg2
               have hR41 : RowK .u64 w2 (some ⟨w.heap.size, 0, none⟩) 1 [k] := RowK.beside (w := ((w.alloc (.cells #[.int .u64 k] 24)).alloc (.cells #[] 24)).drew) (new0 .u64 w _ k _ hk.out) hg2 (by intro b' off' e; cases e; simp [Value.ownBlock])
               clear hg2)
            | (with_reducible refine step_push_row (w := w2.alloc (.cells #[.int .u64 k] 24)) ?_ (.tmp 39) (.tmp 41) 33 ?_ Try.underlying33 key_info (base := w.heap.size) (v := v2) (zs := [] ++ zs.take j) (ys := [k]) (A := some ⟨w2.heap.size, 0, none⟩) (m := 1) (c := 1) ?_ ?_ ?_ ?_ ?_ (by decide) ?_ ?_
               · rfl
               · rfl
               · rfl
               · rfl
               · exact hown2.alloc _
               · exact (RowK.new .u64 w2 [k] _ hk.out)
               · simp <;> omega
               · exact (B2.alloc B2.size _).size
               intro v4 w4 hown4 hg4 _
               have B4 : Below w.heap.size w w4 := Own.grown (B2.alloc B2.size _) (hown2.alloc _) hg4
               clear hg4)
            | (with_reducible refine step_push_row (w := w2) ?_ (.tmp 39) (.tmp 41) 33 ?_ Try.underlying33 key_info (base := w.heap.size) (v := v2) (zs := [] ++ zs.take j) (ys := [k]) (A := some ⟨w.heap.size + 1, 0, none⟩) (m := 1) (c := 1) ?_ ?_ ?_ ?_ ?_ (by decide) ?_ ?_
               · rfl
               · rfl
               · rfl
               · rfl
               · exact hown2
               · exact hR41
               · simp <;> omega
               · exact B2.size
               intro v4 w4 hown4 hg4 _
               have B4 : Below w.heap.size w w4 := Own.grown B2 (hown2) hg4
               clear hg4)
            | (with_reducible refine step_push_row (w := w2) ?_ (.tmp 39) (.tmp 41) 33 ?_ Try.underlying33 key_info (base := w.heap.size) (v := v2) (zs := [] ++ zs.take j) (ys := [k]) (A := some ⟨w.heap.size, 0, none⟩) (m := 1) (c := 1) ?_ ?_ ?_ ?_ ?_ (by decide) ?_ ?_
               · rfl
               · rfl
               · rfl
               · rfl
               · exact hown2
               · exact hR41
               · simp <;> omega
               · exact B2.size
               intro v4 w4 hown4 hg4 _
               have B4 : Below w.heap.size w w4 := Own.grown B2 (hown2) hg4
               clear hg4)
            | (with_reducible refine step_push_row (w := (w2.alloc (.cells #[.int .u64 k] 24)).drew) ?_ (.tmp 39) (.tmp 41) 33 ?_ Try.underlying33 key_info (base := w.heap.size) (v := v2) (zs := [] ++ zs.take j) (ys := [k]) (A := some ⟨w2.heap.size, 0, none⟩) (m := 1) (c := 1) ?_ ?_ ?_ ?_ ?_ (by decide) ?_ ?_
               · rfl
               · rfl
               · rfl
               · rfl
               · exact Own.drew (hown2.alloc _)
               · exact (RowK.new .u64 w2 [k] _ hk.out)
               · simp <;> omega
               · exact (B2.alloc B2.size _).drew.size
               intro v4 w4 hown4 hg4 _
               have B4 : Below w.heap.size w w4 := Own.grown (B2.alloc B2.size _).drew (Own.drew (hown2.alloc _)) hg4
               clear hg4)
            | (with_reducible refine step_push_row (w := w2.drew) ?_ (.tmp 39) (.tmp 41) 33 ?_ Try.underlying33 key_info (base := w.heap.size) (v := v2) (zs := [] ++ zs.take j) (ys := [k]) (A := some ⟨w.heap.size + 1, 0, none⟩) (m := 1) (c := 1) ?_ ?_ ?_ ?_ ?_ (by decide) ?_ ?_
               · rfl
               · rfl
               · rfl
               · rfl
               · exact hown2.drew
               · exact hR41
               · simp <;> omega
               · exact B2.drew.size
               intro v4 w4 hown4 hg4 _
               have B4 : Below w.heap.size w w4 := Own.grown B2.drew (hown2.drew) hg4
               clear hg4)
            | (with_reducible refine step_push_row (w := w2.drew) ?_ (.tmp 39) (.tmp 41) 33 ?_ Try.underlying33 key_info (base := w.heap.size) (v := v2) (zs := [] ++ zs.take j) (ys := [k]) (A := some ⟨w.heap.size, 0, none⟩) (m := 1) (c := 1) ?_ ?_ ?_ ?_ ?_ (by decide) ?_ ?_
               · rfl
               · rfl
               · rfl
               · rfl
               · exact hown2.drew
               · exact hR41
               · simp <;> omega
               · exact B2.drew.size
               intro v4 w4 hown4 hg4 _
               have B4 : Below w.heap.size w w4 := Own.grown B2.drew (hown2.drew) hg4
               clear hg4)
            | (with_reducible refine step_push_row (w := w4) ?_ (.tmp 42) (.tmp 45) 33 ?_ Try.underlying33 key_info (base := w.heap.size) (v := v4) (zs := [] ++ zs.take j ++ [k]) (ys := zs.drop j) (A := some ⟨b, off + j, none⟩) (m := len - j) (c := cap - j) ?_ ?_ ?_ ?_ ?_ (by decide) ?_ ?_
               · rfl
               · rfl
               · rfl
               · rfl
               · exact hown4
               · exact T2.out.keep B4
               · simp <;> omega
               · exact B4.size
               intro v6 w6 hown6 hg6 _
               have B6 : Below w.heap.size w w6 := Own.grown B4 (hown4) hg6
               clear hg6)
            | (with_reducible refine step_push_row (w := w4.drew) ?_ (.tmp 42) (.tmp 45) 33 ?_ Try.underlying33 key_info (base := w.heap.size) (v := v4) (zs := [] ++ zs.take j ++ [k]) (ys := zs.drop j) (A := some ⟨b, off + j, none⟩) (m := len - j) (c := cap - j) ?_ ?_ ?_ ?_ ?_ (by decide) ?_ ?_
               · rfl
               · rfl
               · rfl
               · rfl
               · exact hown4.drew
               · exact T2.out.keep B4.drew
               · simp <;> omega
               · exact B4.drew.size
               intro v6 w6 hown6 hg6 _
               have B6 : Below w.heap.size w w6 := Own.grown B4.drew (hown4.drew) hg6
               clear hg6)
            | fail)
          all_goals
            go_wp2_with (fail)
            go_ret
            exact ⟨v6, rfl, by rw [H.out]; simpa using hown6, B6⟩
    · have e : j = len := by omega
      subst e
      have et : zs.take j = zs := List.take_of_length_le (by have := hlen.out; omega)
      rw [et] at hn
      have H := Lib.hid (S3.add_end hn)
      clear et hn
      have hk : ∀ n ∈ [k], IntKind.u64.min ≤ n ∧ n ≤ IntKind.u64.max := by
        intro n hn
        rw [List.mem_singleton] at hn
        subst hn
        exact ⟨k0, k1⟩
      have hk := Lib.hid hk
      have hzl : zs.length ≤ 1000 := by have := hlen.out; omega
      have T1 := Lib.hid h
      rcases ha with ⟨rfl, rfl, rfl⟩ | ⟨b, off, rfl⟩
      · have T2 := Lib.hid (RowK.empty .u64 w none)
        go_wp2_with (fail)
        go_region_law (first
          | (with_reducible refine step_push_row (w := (w.alloc (.cells #[] 24)).drew) ?_ (.tmp 35) (.tmp 38) 33 ?_ Try.underlying33 key_info (base := w.heap.size) (v := .slice (some ⟨w.heap.size, 0, none⟩) 0 0) (zs := []) (ys := zs) (A := none) (m := 0) (c := 0) ?_ ?_ ?_ ?_ ?_ (by decide) ?_ ?_
             · rfl
             · rfl
             · rfl
             · rfl
             · exact Own.drew (Own.new .u64 _ (Nat.le_refl _) [] (by decide))
             · exact T1.out.keep ((Below.refl _ _).alloc (Nat.le_refl _) _).drew
             · simp <;> omega
             · exact ((Below.refl _ _).alloc (Nat.le_refl _) _).drew.size
             intro v2 w2 hown2 hg2 _
             have B2 : Below w.heap.size w w2 := Own.grown ((Below.refl _ _).alloc (Nat.le_refl _) _).drew (Own.drew (Own.new .u64 _ (Nat.le_refl _) [] (by decide))) hg2
             clear hg2)
          | (with_reducible refine step_push_row (w := ((w.alloc (.cells #[] 24)).alloc (.cells #[.int .u64 k] 24)).drew) ?_ (.tmp 35) (.tmp 38) 33 ?_ Try.underlying33 key_info (base := w.heap.size) (v := .slice (some ⟨w.heap.size, 0, none⟩) 0 0) (zs := []) (ys := zs) (A := none) (m := 0) (c := 0) ?_ ?_ ?_ ?_ ?_ (by decide) ?_ ?_
             · rfl
             · rfl
             · rfl
             · rfl
             · exact Own.drew ((Own.new .u64 _ (Nat.le_refl _) [] (by decide)).alloc _)
             · exact T1.out.keep (((Below.refl _ _).alloc (Nat.le_refl _) _).alloc (by simp) _).drew
             · simp <;> omega
             · exact (((Below.refl _ _).alloc (Nat.le_refl _) _).alloc (by simp) _).drew.size
             intro v2 w2 hown2 hg2 _
             have B2 : Below w.heap.size w w2 := Own.grown (((Below.refl _ _).alloc (Nat.le_refl _) _).alloc (by simp) _).drew (Own.drew ((Own.new .u64 _ (Nat.le_refl _) [] (by decide)).alloc _)) hg2
             have hR41 : RowK .u64 w2 (some ⟨w.heap.size + 1, 0, none⟩) 1 [k] := RowK.beside (w := ((w.alloc (.cells #[] 24)).alloc (.cells #[.int .u64 k] 24)).drew) (new1 .u64 w _ k _ hk.out) hg2 (by intro b' off' e; cases e; simp [Value.ownBlock])
             clear hg2)
          | (with_reducible refine step_push_row (w := ((w.alloc (.cells #[.int .u64 k] 24)).alloc (.cells #[] 24)).drew) ?_ (.tmp 35) (.tmp 38) 33 ?_ Try.underlying33 key_info (base := w.heap.size) (v := .slice (some ⟨w.heap.size + 1, 0, none⟩) 0 0) (zs := []) (ys := zs) (A := none) (m := 0) (c := 0) ?_ ?_ ?_ ?_ ?_ (by decide) ?_ ?_
             · rfl
             · rfl
             · rfl
             · rfl
             · exact Own.drew (own1 .u64 w _ _)
             · exact T1.out.keep (((Below.refl _ _).alloc (Nat.le_refl _) _).alloc (by simp) _).drew
             · simp <;> omega
             · exact (((Below.refl _ _).alloc (Nat.le_refl _) _).alloc (by simp) _).drew.size
             intro v2 w2 hown2 hg2 _
             have B2 : Below w.heap.size w w2 := Own.grown (((Below.refl _ _).alloc (Nat.le_refl _) _).alloc (by simp) _).drew (Own.drew (own1 .u64 w _ _)) hg2
             have hR41 : RowK .u64 w2 (some ⟨w.heap.size, 0, none⟩) 1 [k] := RowK.beside (w := ((w.alloc (.cells #[.int .u64 k] 24)).alloc (.cells #[] 24)).drew) (new0 .u64 w _ k _ hk.out) hg2 (by intro b' off' e; cases e; simp [Value.ownBlock])
             clear hg2)
          | (with_reducible refine step_push_row (w := w2.alloc (.cells #[.int .u64 k] 24)) ?_ (.tmp 39) (.tmp 41) 33 ?_ Try.underlying33 key_info (base := w.heap.size) (v := v2) (zs := [] ++ zs) (ys := [k]) (A := some ⟨w2.heap.size, 0, none⟩) (m := 1) (c := 1) ?_ ?_ ?_ ?_ ?_ (by decide) ?_ ?_
             · rfl
             · rfl
             · rfl
             · rfl
             · exact hown2.alloc _
             · exact (RowK.new .u64 w2 [k] _ hk.out)
             · simp <;> omega
             · exact (B2.alloc B2.size _).size
             intro v4 w4 hown4 hg4 _
             have B4 : Below w.heap.size w w4 := Own.grown (B2.alloc B2.size _) (hown2.alloc _) hg4
             clear hg4)
          | (with_reducible refine step_push_row (w := w2) ?_ (.tmp 39) (.tmp 41) 33 ?_ Try.underlying33 key_info (base := w.heap.size) (v := v2) (zs := [] ++ zs) (ys := [k]) (A := some ⟨w.heap.size + 1, 0, none⟩) (m := 1) (c := 1) ?_ ?_ ?_ ?_ ?_ (by decide) ?_ ?_
             · rfl
             · rfl
             · rfl
             · rfl
             · exact hown2
             · exact hR41
             · simp <;> omega
             · exact B2.size
             intro v4 w4 hown4 hg4 _
             have B4 : Below w.heap.size w w4 := Own.grown B2 (hown2) hg4
             clear hg4)
          | (with_reducible refine step_push_row (w := w2) ?_ (.tmp 39) (.tmp 41) 33 ?_ Try.underlying33 key_info (base := w.heap.size) (v := v2) (zs := [] ++ zs) (ys := [k]) (A := some ⟨w.heap.size, 0, none⟩) (m := 1) (c := 1) ?_ ?_ ?_ ?_ ?_ (by decide) ?_ ?_
             · rfl
             · rfl
             · rfl
             · rfl
             · exact hown2
             · exact hR41
             · simp <;> omega
             · exact B2.size
             intro v4 w4 hown4 hg4 _
             have B4 : Below w.heap.size w w4 := Own.grown B2 (hown2) hg4
             clear hg4)
          | (with_reducible refine step_push_row (w := (w2.alloc (.cells #[.int .u64 k] 24)).drew) ?_ (.tmp 39) (.tmp 41) 33 ?_ Try.underlying33 key_info (base := w.heap.size) (v := v2) (zs := [] ++ zs) (ys := [k]) (A := some ⟨w2.heap.size, 0, none⟩) (m := 1) (c := 1) ?_ ?_ ?_ ?_ ?_ (by decide) ?_ ?_
             · rfl
             · rfl
             · rfl
             · rfl
             · exact Own.drew (hown2.alloc _)
             · exact (RowK.new .u64 w2 [k] _ hk.out)
             · simp <;> omega
             · exact (B2.alloc B2.size _).drew.size
             intro v4 w4 hown4 hg4 _
             have B4 : Below w.heap.size w w4 := Own.grown (B2.alloc B2.size _).drew (Own.drew (hown2.alloc _)) hg4
             clear hg4)
          | (with_reducible refine step_push_row (w := w2.drew) ?_ (.tmp 39) (.tmp 41) 33 ?_ Try.underlying33 key_info (base := w.heap.size) (v := v2) (zs := [] ++ zs) (ys := [k]) (A := some ⟨w.heap.size + 1, 0, none⟩) (m := 1) (c := 1) ?_ ?_ ?_ ?_ ?_ (by decide) ?_ ?_
             · rfl
             · rfl
             · rfl
             · rfl
             · exact hown2.drew
             · exact hR41
             · simp <;> omega
             · exact B2.drew.size
             intro v4 w4 hown4 hg4 _
             have B4 : Below w.heap.size w w4 := Own.grown B2.drew (hown2.drew) hg4
             clear hg4)
          | (with_reducible refine step_push_row (w := w2.drew) ?_ (.tmp 39) (.tmp 41) 33 ?_ Try.underlying33 key_info (base := w.heap.size) (v := v2) (zs := [] ++ zs) (ys := [k]) (A := some ⟨w.heap.size, 0, none⟩) (m := 1) (c := 1) ?_ ?_ ?_ ?_ ?_ (by decide) ?_ ?_
             · rfl
             · rfl
             · rfl
             · rfl
             · exact hown2.drew
             · exact hR41
             · simp <;> omega
             · exact B2.drew.size
             intro v4 w4 hown4 hg4 _
             have B4 : Below w.heap.size w w4 := Own.grown B2.drew (hown2.drew) hg4
             clear hg4)
          | (with_reducible refine step_push_row (w := w4) ?_ (.tmp 42) (.tmp 45) 33 ?_ Try.underlying33 key_info (base := w.heap.size) (v := v4) (zs := [] ++ zs ++ [k]) (ys := []) (A := none) (m := 0) (c := 0) ?_ ?_ ?_ ?_ ?_ (by decide) ?_ ?_
             · rfl
             · rfl
             · rfl
             · rfl
             · exact hown4
             · exact T2.out.keep B4
             · simp <;> omega
             · exact B4.size
             intro v6 w6 hown6 hg6 _
             have B6 : Below w.heap.size w w6 := Own.grown B4 (hown4) hg6
             clear hg6)
          | (with_reducible refine step_push_row (w := w4.drew) ?_ (.tmp 42) (.tmp 45) 33 ?_ Try.underlying33 key_info (base := w.heap.size) (v := v4) (zs := [] ++ zs ++ [k]) (ys := []) (A := none) (m := 0) (c := 0) ?_ ?_ ?_ ?_ ?_ (by decide) ?_ ?_
             · rfl
             · rfl
             · rfl
             · rfl
             · exact hown4.drew
             · exact T2.out.keep B4.drew
             · simp <;> omega
             · exact B4.drew.size
             intro v6 w6 hown6 hg6 _
             have B6 : Below w.heap.size w w6 := Own.grown B4.drew (hown4.drew) hg6
             clear hg6)
          | fail)
        all_goals
          go_wp2_with (fail)
          go_ret
          exact ⟨v6, rfl, by rw [H.out]; simpa using hown6, B6⟩
      · by_cases hcj : cap = j
        · subst hcj
          have T2 := Lib.hid (RowK.empty .u64 w (some ⟨b, off, none⟩))
          go_wp2_with (fail)
          go_region_law (first
            | (with_reducible refine step_push_row (w := (w.alloc (.cells #[] 24)).drew) ?_ (.tmp 35) (.tmp 38) 33 ?_ Try.underlying33 key_info (base := w.heap.size) (v := .slice (some ⟨w.heap.size, 0, none⟩) 0 0) (zs := []) (ys := zs) (A := some ⟨b, off, none⟩) (m := cap) (c := cap) ?_ ?_ ?_ ?_ ?_ (by decide) ?_ ?_
               · rfl
               · rfl
               · rfl
               · rfl
               · exact Own.drew (Own.new .u64 _ (Nat.le_refl _) [] (by decide))
               · exact T1.out.keep ((Below.refl _ _).alloc (Nat.le_refl _) _).drew
               · simp <;> omega
               · exact ((Below.refl _ _).alloc (Nat.le_refl _) _).drew.size
               intro v2 w2 hown2 hg2 _
               have B2 : Below w.heap.size w w2 := Own.grown ((Below.refl _ _).alloc (Nat.le_refl _) _).drew (Own.drew (Own.new .u64 _ (Nat.le_refl _) [] (by decide))) hg2
               clear hg2)
            | (with_reducible refine step_push_row (w := ((w.alloc (.cells #[] 24)).alloc (.cells #[.int .u64 k] 24)).drew) ?_ (.tmp 35) (.tmp 38) 33 ?_ Try.underlying33 key_info (base := w.heap.size) (v := .slice (some ⟨w.heap.size, 0, none⟩) 0 0) (zs := []) (ys := zs) (A := some ⟨b, off, none⟩) (m := cap) (c := cap) ?_ ?_ ?_ ?_ ?_ (by decide) ?_ ?_
               · rfl
               · rfl
               · rfl
               · rfl
               · exact Own.drew ((Own.new .u64 _ (Nat.le_refl _) [] (by decide)).alloc _)
               · exact T1.out.keep (((Below.refl _ _).alloc (Nat.le_refl _) _).alloc (by simp) _).drew
               · simp <;> omega
               · exact (((Below.refl _ _).alloc (Nat.le_refl _) _).alloc (by simp) _).drew.size
               intro v2 w2 hown2 hg2 _
               have B2 : Below w.heap.size w w2 := Own.grown (((Below.refl _ _).alloc (Nat.le_refl _) _).alloc (by simp) _).drew (Own.drew ((Own.new .u64 _ (Nat.le_refl _) [] (by decide)).alloc _)) hg2
               have hR41 : RowK .u64 w2 (some ⟨w.heap.size + 1, 0, none⟩) 1 [k] := RowK.beside (w := ((w.alloc (.cells #[] 24)).alloc (.cells #[.int .u64 k] 24)).drew) (new1 .u64 w _ k _ hk.out) hg2 (by intro b' off' e; cases e; simp [Value.ownBlock])
               clear hg2)
            | (with_reducible refine step_push_row (w := ((w.alloc (.cells #[.int .u64 k] 24)).alloc (.cells #[] 24)).drew) ?_ (.tmp 35) (.tmp 38) 33 ?_ Try.underlying33 key_info (base := w.heap.size) (v := .slice (some ⟨w.heap.size + 1, 0, none⟩) 0 0) (zs := []) (ys := zs) (A := some ⟨b, off, none⟩) (m := cap) (c := cap) ?_ ?_ ?_ ?_ ?_ (by decide) ?_ ?_
               · rfl
               · rfl
               · rfl
               · rfl
               · exact Own.drew (own1 .u64 w _ _)
               · exact T1.out.keep (((Below.refl _ _).alloc (Nat.le_refl _) _).alloc (by simp) _).drew
               · simp <;> omega
               · exact (((Below.refl _ _).alloc (Nat.le_refl _) _).alloc (by simp) _).drew.size
               intro v2 w2 hown2 hg2 _
               have B2 : Below w.heap.size w w2 := Own.grown (((Below.refl _ _).alloc (Nat.le_refl _) _).alloc (by simp) _).drew (Own.drew (own1 .u64 w _ _)) hg2
               have hR41 : RowK .u64 w2 (some ⟨w.heap.size, 0, none⟩) 1 [k] := RowK.beside (w := ((w.alloc (.cells #[.int .u64 k] 24)).alloc (.cells #[] 24)).drew) (new0 .u64 w _ k _ hk.out) hg2 (by intro b' off' e; cases e; simp [Value.ownBlock])
               clear hg2)
            | (with_reducible refine step_push_row (w := w2.alloc (.cells #[.int .u64 k] 24)) ?_ (.tmp 39) (.tmp 41) 33 ?_ Try.underlying33 key_info (base := w.heap.size) (v := v2) (zs := [] ++ zs) (ys := [k]) (A := some ⟨w2.heap.size, 0, none⟩) (m := 1) (c := 1) ?_ ?_ ?_ ?_ ?_ (by decide) ?_ ?_
               · rfl
               · rfl
               · rfl
               · rfl
               · exact hown2.alloc _
               · exact (RowK.new .u64 w2 [k] _ hk.out)
               · simp <;> omega
               · exact (B2.alloc B2.size _).size
               intro v4 w4 hown4 hg4 _
               have B4 : Below w.heap.size w w4 := Own.grown (B2.alloc B2.size _) (hown2.alloc _) hg4
               clear hg4)
            | (with_reducible refine step_push_row (w := w2) ?_ (.tmp 39) (.tmp 41) 33 ?_ Try.underlying33 key_info (base := w.heap.size) (v := v2) (zs := [] ++ zs) (ys := [k]) (A := some ⟨w.heap.size + 1, 0, none⟩) (m := 1) (c := 1) ?_ ?_ ?_ ?_ ?_ (by decide) ?_ ?_
               · rfl
               · rfl
               · rfl
               · rfl
               · exact hown2
               · exact hR41
               · simp <;> omega
               · exact B2.size
               intro v4 w4 hown4 hg4 _
               have B4 : Below w.heap.size w w4 := Own.grown B2 (hown2) hg4
               clear hg4)
            | (with_reducible refine step_push_row (w := w2) ?_ (.tmp 39) (.tmp 41) 33 ?_ Try.underlying33 key_info (base := w.heap.size) (v := v2) (zs := [] ++ zs) (ys := [k]) (A := some ⟨w.heap.size, 0, none⟩) (m := 1) (c := 1) ?_ ?_ ?_ ?_ ?_ (by decide) ?_ ?_
               · rfl
               · rfl
               · rfl
               · rfl
               · exact hown2
               · exact hR41
               · simp <;> omega
               · exact B2.size
               intro v4 w4 hown4 hg4 _
               have B4 : Below w.heap.size w w4 := Own.grown B2 (hown2) hg4
               clear hg4)
            | (with_reducible refine step_push_row (w := (w2.alloc (.cells #[.int .u64 k] 24)).drew) ?_ (.tmp 39) (.tmp 41) 33 ?_ Try.underlying33 key_info (base := w.heap.size) (v := v2) (zs := [] ++ zs) (ys := [k]) (A := some ⟨w2.heap.size, 0, none⟩) (m := 1) (c := 1) ?_ ?_ ?_ ?_ ?_ (by decide) ?_ ?_
               · rfl
               · rfl
               · rfl
               · rfl
               · exact Own.drew (hown2.alloc _)
               · exact (RowK.new .u64 w2 [k] _ hk.out)
               · simp <;> omega
               · exact (B2.alloc B2.size _).drew.size
               intro v4 w4 hown4 hg4 _
               have B4 : Below w.heap.size w w4 := Own.grown (B2.alloc B2.size _).drew (Own.drew (hown2.alloc _)) hg4
               clear hg4)
            | (with_reducible refine step_push_row (w := w2.drew) ?_ (.tmp 39) (.tmp 41) 33 ?_ Try.underlying33 key_info (base := w.heap.size) (v := v2) (zs := [] ++ zs) (ys := [k]) (A := some ⟨w.heap.size + 1, 0, none⟩) (m := 1) (c := 1) ?_ ?_ ?_ ?_ ?_ (by decide) ?_ ?_
               · rfl
               · rfl
               · rfl
               · rfl
               · exact hown2.drew
               · exact hR41
               · simp <;> omega
               · exact B2.drew.size
               intro v4 w4 hown4 hg4 _
               have B4 : Below w.heap.size w w4 := Own.grown B2.drew (hown2.drew) hg4
               clear hg4)
            | (with_reducible refine step_push_row (w := w2.drew) ?_ (.tmp 39) (.tmp 41) 33 ?_ Try.underlying33 key_info (base := w.heap.size) (v := v2) (zs := [] ++ zs) (ys := [k]) (A := some ⟨w.heap.size, 0, none⟩) (m := 1) (c := 1) ?_ ?_ ?_ ?_ ?_ (by decide) ?_ ?_
               · rfl
               · rfl
               · rfl
               · rfl
               · exact hown2.drew
               · exact hR41
               · simp <;> omega
               · exact B2.drew.size
               intro v4 w4 hown4 hg4 _
               have B4 : Below w.heap.size w w4 := Own.grown B2.drew (hown2.drew) hg4
               clear hg4)
            | (with_reducible refine step_push_row (w := w4) ?_ (.tmp 42) (.tmp 45) 33 ?_ Try.underlying33 key_info (base := w.heap.size) (v := v4) (zs := [] ++ zs ++ [k]) (ys := []) (A := some ⟨b, off, none⟩) (m := 0) (c := 0) ?_ ?_ ?_ ?_ ?_ (by decide) ?_ ?_
               · rfl
               · rfl
               · rfl
               · rfl
               · exact hown4
               · exact T2.out.keep B4
               · simp <;> omega
               · exact B4.size
               intro v6 w6 hown6 hg6 _
               have B6 : Below w.heap.size w w6 := Own.grown B4 (hown4) hg6
               clear hg6)
            | (with_reducible refine step_push_row (w := w4.drew) ?_ (.tmp 42) (.tmp 45) 33 ?_ Try.underlying33 key_info (base := w.heap.size) (v := v4) (zs := [] ++ zs ++ [k]) (ys := []) (A := some ⟨b, off, none⟩) (m := 0) (c := 0) ?_ ?_ ?_ ?_ ?_ (by decide) ?_ ?_
               · rfl
               · rfl
               · rfl
               · rfl
               · exact hown4.drew
               · exact T2.out.keep B4.drew
               · simp <;> omega
               · exact B4.drew.size
               intro v6 w6 hown6 hg6 _
               have B6 : Below w.heap.size w w6 := Own.grown B4.drew (hown4.drew) hg6
               clear hg6)
            | fail)
          all_goals
            go_wp2_with (fail)
            go_ret
            exact ⟨v6, rfl, by rw [H.out]; simpa using hown6, B6⟩
        · have T2 := Lib.hid (RowK.empty .u64 w (some ⟨b, off + j, none⟩))
          go_wp2_with (fail)
          go_region_law (first
            | (with_reducible refine step_push_row (w := (w.alloc (.cells #[] 24)).drew) ?_ (.tmp 35) (.tmp 38) 33 ?_ Try.underlying33 key_info (base := w.heap.size) (v := .slice (some ⟨w.heap.size, 0, none⟩) 0 0) (zs := []) (ys := zs) (A := some ⟨b, off, none⟩) (m := j) (c := cap) ?_ ?_ ?_ ?_ ?_ (by decide) ?_ ?_
               · rfl
               · rfl
               · rfl
               · rfl
               · exact Own.drew (Own.new .u64 _ (Nat.le_refl _) [] (by decide))
               · exact T1.out.keep ((Below.refl _ _).alloc (Nat.le_refl _) _).drew
               · simp <;> omega
               · exact ((Below.refl _ _).alloc (Nat.le_refl _) _).drew.size
               intro v2 w2 hown2 hg2 _
               have B2 : Below w.heap.size w w2 := Own.grown ((Below.refl _ _).alloc (Nat.le_refl _) _).drew (Own.drew (Own.new .u64 _ (Nat.le_refl _) [] (by decide))) hg2
               clear hg2)
            | (with_reducible refine step_push_row (w := ((w.alloc (.cells #[] 24)).alloc (.cells #[.int .u64 k] 24)).drew) ?_ (.tmp 35) (.tmp 38) 33 ?_ Try.underlying33 key_info (base := w.heap.size) (v := .slice (some ⟨w.heap.size, 0, none⟩) 0 0) (zs := []) (ys := zs) (A := some ⟨b, off, none⟩) (m := j) (c := cap) ?_ ?_ ?_ ?_ ?_ (by decide) ?_ ?_
               · rfl
               · rfl
               · rfl
               · rfl
               · exact Own.drew ((Own.new .u64 _ (Nat.le_refl _) [] (by decide)).alloc _)
               · exact T1.out.keep (((Below.refl _ _).alloc (Nat.le_refl _) _).alloc (by simp) _).drew
               · simp <;> omega
               · exact (((Below.refl _ _).alloc (Nat.le_refl _) _).alloc (by simp) _).drew.size
               intro v2 w2 hown2 hg2 _
               have B2 : Below w.heap.size w w2 := Own.grown (((Below.refl _ _).alloc (Nat.le_refl _) _).alloc (by simp) _).drew (Own.drew ((Own.new .u64 _ (Nat.le_refl _) [] (by decide)).alloc _)) hg2
               have hR41 : RowK .u64 w2 (some ⟨w.heap.size + 1, 0, none⟩) 1 [k] := RowK.beside (w := ((w.alloc (.cells #[] 24)).alloc (.cells #[.int .u64 k] 24)).drew) (new1 .u64 w _ k _ hk.out) hg2 (by intro b' off' e; cases e; simp [Value.ownBlock])
               clear hg2)
            | (with_reducible refine step_push_row (w := ((w.alloc (.cells #[.int .u64 k] 24)).alloc (.cells #[] 24)).drew) ?_ (.tmp 35) (.tmp 38) 33 ?_ Try.underlying33 key_info (base := w.heap.size) (v := .slice (some ⟨w.heap.size + 1, 0, none⟩) 0 0) (zs := []) (ys := zs) (A := some ⟨b, off, none⟩) (m := j) (c := cap) ?_ ?_ ?_ ?_ ?_ (by decide) ?_ ?_
               · rfl
               · rfl
               · rfl
               · rfl
               · exact Own.drew (own1 .u64 w _ _)
               · exact T1.out.keep (((Below.refl _ _).alloc (Nat.le_refl _) _).alloc (by simp) _).drew
               · simp <;> omega
               · exact (((Below.refl _ _).alloc (Nat.le_refl _) _).alloc (by simp) _).drew.size
               intro v2 w2 hown2 hg2 _
               have B2 : Below w.heap.size w w2 := Own.grown (((Below.refl _ _).alloc (Nat.le_refl _) _).alloc (by simp) _).drew (Own.drew (own1 .u64 w _ _)) hg2
               have hR41 : RowK .u64 w2 (some ⟨w.heap.size, 0, none⟩) 1 [k] := RowK.beside (w := ((w.alloc (.cells #[.int .u64 k] 24)).alloc (.cells #[] 24)).drew) (new0 .u64 w _ k _ hk.out) hg2 (by intro b' off' e; cases e; simp [Value.ownBlock])
               clear hg2)
            | (with_reducible refine step_push_row (w := w2.alloc (.cells #[.int .u64 k] 24)) ?_ (.tmp 39) (.tmp 41) 33 ?_ Try.underlying33 key_info (base := w.heap.size) (v := v2) (zs := [] ++ zs) (ys := [k]) (A := some ⟨w2.heap.size, 0, none⟩) (m := 1) (c := 1) ?_ ?_ ?_ ?_ ?_ (by decide) ?_ ?_
               · rfl
               · rfl
               · rfl
               · rfl
               · exact hown2.alloc _
               · exact (RowK.new .u64 w2 [k] _ hk.out)
               · simp <;> omega
               · exact (B2.alloc B2.size _).size
               intro v4 w4 hown4 hg4 _
               have B4 : Below w.heap.size w w4 := Own.grown (B2.alloc B2.size _) (hown2.alloc _) hg4
               clear hg4)
            | (with_reducible refine step_push_row (w := w2) ?_ (.tmp 39) (.tmp 41) 33 ?_ Try.underlying33 key_info (base := w.heap.size) (v := v2) (zs := [] ++ zs) (ys := [k]) (A := some ⟨w.heap.size + 1, 0, none⟩) (m := 1) (c := 1) ?_ ?_ ?_ ?_ ?_ (by decide) ?_ ?_
               · rfl
               · rfl
               · rfl
               · rfl
               · exact hown2
               · exact hR41
               · simp <;> omega
               · exact B2.size
               intro v4 w4 hown4 hg4 _
               have B4 : Below w.heap.size w w4 := Own.grown B2 (hown2) hg4
               clear hg4)
            | (with_reducible refine step_push_row (w := w2) ?_ (.tmp 39) (.tmp 41) 33 ?_ Try.underlying33 key_info (base := w.heap.size) (v := v2) (zs := [] ++ zs) (ys := [k]) (A := some ⟨w.heap.size, 0, none⟩) (m := 1) (c := 1) ?_ ?_ ?_ ?_ ?_ (by decide) ?_ ?_
               · rfl
               · rfl
               · rfl
               · rfl
               · exact hown2
               · exact hR41
               · simp <;> omega
               · exact B2.size
               intro v4 w4 hown4 hg4 _
               have B4 : Below w.heap.size w w4 := Own.grown B2 (hown2) hg4
               clear hg4)
            | (with_reducible refine step_push_row (w := (w2.alloc (.cells #[.int .u64 k] 24)).drew) ?_ (.tmp 39) (.tmp 41) 33 ?_ Try.underlying33 key_info (base := w.heap.size) (v := v2) (zs := [] ++ zs) (ys := [k]) (A := some ⟨w2.heap.size, 0, none⟩) (m := 1) (c := 1) ?_ ?_ ?_ ?_ ?_ (by decide) ?_ ?_
               · rfl
               · rfl
               · rfl
               · rfl
               · exact Own.drew (hown2.alloc _)
               · exact (RowK.new .u64 w2 [k] _ hk.out)
               · simp <;> omega
               · exact (B2.alloc B2.size _).drew.size
               intro v4 w4 hown4 hg4 _
               have B4 : Below w.heap.size w w4 := Own.grown (B2.alloc B2.size _).drew (Own.drew (hown2.alloc _)) hg4
               clear hg4)
            | (with_reducible refine step_push_row (w := w2.drew) ?_ (.tmp 39) (.tmp 41) 33 ?_ Try.underlying33 key_info (base := w.heap.size) (v := v2) (zs := [] ++ zs) (ys := [k]) (A := some ⟨w.heap.size + 1, 0, none⟩) (m := 1) (c := 1) ?_ ?_ ?_ ?_ ?_ (by decide) ?_ ?_
               · rfl
               · rfl
               · rfl
               · rfl
               · exact hown2.drew
               · exact hR41
               · simp <;> omega
               · exact B2.drew.size
               intro v4 w4 hown4 hg4 _
               have B4 : Below w.heap.size w w4 := Own.grown B2.drew (hown2.drew) hg4
               clear hg4)
            | (with_reducible refine step_push_row (w := w2.drew) ?_ (.tmp 39) (.tmp 41) 33 ?_ Try.underlying33 key_info (base := w.heap.size) (v := v2) (zs := [] ++ zs) (ys := [k]) (A := some ⟨w.heap.size, 0, none⟩) (m := 1) (c := 1) ?_ ?_ ?_ ?_ ?_ (by decide) ?_ ?_
               · rfl
               · rfl
               · rfl
               · rfl
               · exact hown2.drew
               · exact hR41
               · simp <;> omega
               · exact B2.drew.size
               intro v4 w4 hown4 hg4 _
               have B4 : Below w.heap.size w w4 := Own.grown B2.drew (hown2.drew) hg4
               clear hg4)
            | (with_reducible refine step_push_row (w := w4) ?_ (.tmp 42) (.tmp 45) 33 ?_ Try.underlying33 key_info (base := w.heap.size) (v := v4) (zs := [] ++ zs ++ [k]) (ys := []) (A := some ⟨b, off + j, none⟩) (m := 0) (c := cap - j) ?_ ?_ ?_ ?_ ?_ (by decide) ?_ ?_
               · rfl
               · rfl
               · rfl
               · rfl
               · exact hown4
               · exact T2.out.keep B4
               · simp <;> omega
               · exact B4.size
               intro v6 w6 hown6 hg6 _
               have B6 : Below w.heap.size w w6 := Own.grown B4 (hown4) hg6
               clear hg6)
            | (with_reducible refine step_push_row (w := w4.drew) ?_ (.tmp 42) (.tmp 45) 33 ?_ Try.underlying33 key_info (base := w.heap.size) (v := v4) (zs := [] ++ zs ++ [k]) (ys := []) (A := some ⟨b, off + j, none⟩) (m := 0) (c := cap - j) ?_ ?_ ?_ ?_ ?_ (by decide) ?_ ?_
               · rfl
               · rfl
               · rfl
               · rfl
               · exact hown4.drew
               · exact T2.out.keep B4.drew
               · simp <;> omega
               · exact B4.drew.size
               intro v6 w6 hown6 hg6 _
               have B6 : Below w.heap.size w w6 := Own.grown B4.drew (hown4.drew) hg6
               clear hg6)
            | fail)
          all_goals
            go_wp2_with (fail)
            go_ret
            exact ⟨v6, rfl, by rw [H.out]; simpa using hown6, B6⟩

end Go.Proofs.Ytlmifbbmppenoaa
