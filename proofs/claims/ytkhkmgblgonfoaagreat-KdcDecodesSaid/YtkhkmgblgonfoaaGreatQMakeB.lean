/-
  What the proof wants: MakeB, KdU, Spoil.
-/
import Derived.Test.YtkhkmgblgonfoaaGreatQBase
import Derived.OwnWalk
import Derived.Test.YtkhkmgblgonfoaaGreatQDataP
import Derived.IntWalk
import Derived.RegionTactic
import Derived.Deep.RegionLaw

/-
  make([]byte, n) for a number n that is known from behind alone: a row of zeros of the call's own.
-/
namespace Go.Proofs.YtkhkmgblgonfoaaGreat
open Go.RowKit

theorem made_zeros (n : Nat) : (madeCells (#[Value.int .u8 0] : Array Value) (n * 1)).toList = (List.replicate n (0 : Int)).map (Value.int .u8) := by
  unfold madeCells
  apply List.ext_getElem
  · simp
  · intro k h1 h2
    simp [Nat.mod_one]

theorem wpList_makeB {w : World} {ops : Array Oper} {rest : List Oper} {o : Oper} {a : Act} {Q : Exit → Act → World → Prop} (hg : o.guard = none) (l : Operand) (hop : o.op = Op.makeSlice 22 l l) (L : Int) (n : Nat) (hl : a.eval l = .int .i64 L) (hL : L = (n : Int)) (hn : n ≤ 1000000)
    (hK : ∀ w', Sl w' (some ⟨w.heap.size, 0, none⟩) n n (List.replicate n 0) → Below w.heap.size w w' → wpList Tryz.prog ops Q rest (a.put o.dst (.slice (some ⟨w.heap.size, 0, none⟩) n n)) w') : wpList Tryz.prog ops Q (o :: rest) a w := by
  obtain ⟨i, hi, hz0, hz1, hz2⟩ := info_parts u8_infoB
  refine wpList_make_full w hg l l 22 hop w.heap.size 5 i (.int .u8 0) 1 Tryz.underlying22 hi hz0 hz1 .i64 .i64 L L n hl hl hL hL (by rw [hz2]; omega) (by unfold maxLen; omega) (Nat.le_refl _) (fun w' ho hg => ?_)
  have hO : Own .u8 5 w' w.heap.size (.slice (some ⟨w.heap.size, 0, none⟩) n n) (List.replicate n 0) := by
    unfold Own
    have hc : (Value.int IntKind.u8 0).cells = #[Value.int IntKind.u8 0] := rfl
    rw [hc, made_zeros] at ho
    rw [List.length_replicate]
    exact ho
  obtain ⟨A, n', c', hv, hs, _⟩ := hO.slf (by intro z hz; rw [List.eq_of_mem_replicate hz]; decide)
  cases hv
  exact hK w' hs ((Below.refl w.heap.size w).grown hg (Nat.le_refl _) (fun k e => by cases e))

end Go.Proofs.YtkhkmgblgonfoaaGreat

/-
  Users and realms of plain data are short.
-/
namespace Go.Proofs.YtkhkmgblgonfoaaGreat
open Go.RowKit

theorem userS_size (n : Int) : (userS n).size ≤ maxLen := by rcases user_cases n with h | h | h <;> rw [h] <;> decide
theorem realmS_size (n : Int) : (realmS n).size ≤ maxLen := by rcases realm_cases n with h | h | h <;> rw [h] <;> decide

end Go.Proofs.YtkhkmgblgonfoaaGreat

/-
  What Spoil of the laws' data returns: some bytes, at most one more.
-/
namespace Go.Proofs.YtkhkmgblgonfoaaGreat
open Go.RowKit

set_option maxHeartbeats 1600000 in
theorem spoil_0 (A : Option Addr) (n cap : Nat) (zs : List Int) (s : Int) (w : World) (h : Sl w A n cap zs) (hn : n ≤ 10000) (s0 : 0 ≤ s) (s1 : s ≤ 65535) (h0 : 0 < n) (h4 : s % 4 = 0) : Calls Tryz.prog 13 #[.slice A n cap, .int .u16 s] w (SomeB (n + 1) w) := by
  have hlen := Lib.hid h.len
  have hrg := Lib.hid h.range
  have Ba := Lib.hid (fun (x : World) (o : Obj) => (Below.refl x.heap.size x).alloc (Nat.le_refl _) o)
  have hR := Lib.hid (h.keep (Ba.out w (.cells #[] 5))).row
  have hO := Lib.hid (Own.new .u8 5 (w := w) (Nat.le_refl _) [] (by decide))
  have i0 : 0 ≤ s / 8 % (n : Int) := Int.emod_nonneg _ (by omega)
  have i1 : s / 8 % (n : Int) < (n : Int) := Int.emod_lt_of_pos _ (by omega)
  have hn0 : ¬ (n : Int) = 0 := by omega
  obtain ⟨k, hk⟩ := Int.eq_ofNat_of_zero_le i0
  have hkn : k < n := by omega
  have hq : (wrap64 (IntKind.u16.wrap (s.tdiv 8))).tmod (n : Int) = (k : Int) := by
    have e1 : s.tdiv 8 = s / 8 := Int.tdiv_eq_ediv_of_nonneg s0
    have e2 : IntKind.u16.wrap (s / 8) = s / 8 := by rw [IntKind.wrap_u16]; omega
    have e3 : wrap64 (s / 8) = s / 8 := by unfold wrap64; omega
    rw [e1, e2, e3, Int.tmod_eq_emod_of_nonneg (by omega)]; exact hk
  have k0 : (0 : Int) ≤ (k : Int) := by omega
  have k1 : (k : Int) < (n : Int) := by omega
  clear i0 i1 hk
  go_enter Tryz.func13, Tryz.ntmps13
  go_wp2_with (at_builtin; (refine wpList_push_row rfl (.tmp 7) (.tmp 8) 22 rfl Tryz.underlying22 u8_infoB (base := w.heap.size) (v := .slice (some ⟨w.heap.size, 0, none⟩) 0 0) (zs := []) (ys := zs) (A := A) (m := n) (c := cap) rfl rfl hO.out hR.out (by simp; omega) (by decide) (by simp) ?_; intro v2 w2 O2 hg2 _; have B2 := Own.grown (Ba.out w _) hO.out hg2; clear hg2; rw [List.nil_append] at O2; obtain ⟨g, c2, rfl, hs2, hg⟩ := O2.slG hrg.out hlen.out h0; obtain ⟨z, hz, z0, z1, hc⟩ := hs2.row.at0 hkn; have hf := O2.thawed k; replace hs2 := Lib.hid hs2; clear hz))
  go_ret
  obtain ⟨o1, o2⟩ := Own.store O2 k (bits .xor .u8 z (2 ^ (s % 7).toNat % 256))
  obtain ⟨A', c', e', hs', hf'⟩ := o1.slN (n := n) (by
    intro y hy
    rcases List.mem_or_eq_of_mem_set hy with hy | rfl
    · exact hrg.out y hy
    · exact xor8_range _ _) (by rw [List.length_set]; exact hlen.out)
  cases e'
  exact ⟨_, n, c2, _, rfl, hs', by omega, Own.grown B2 O2 o2, hf'⟩

set_option maxHeartbeats 1600000 in
theorem spoil_1 (A : Option Addr) (n cap : Nat) (zs : List Int) (s : Int) (w : World) (h : Sl w A n cap zs) (hn : n ≤ 10000) (s0 : 0 ≤ s) (s1 : s ≤ 65535) (h0 : 0 < n) (h4 : s % 4 = 1) : Calls Tryz.prog 13 #[.slice A n cap, .int .u16 s] w (SomeB (n + 1) w) := by
  have hlen := Lib.hid h.len
  have hrg := Lib.hid h.range
  have Ba := Lib.hid (fun (x : World) (o : Obj) => (Below.refl x.heap.size x).alloc (Nat.le_refl _) o)
  have hR := Lib.hid (h.keep (Ba.out w (.cells #[] 5))).row
  have hO := Lib.hid (Own.new .u8 5 (w := w) (Nat.le_refl _) [] (by decide))
  have i0 : 0 ≤ s / 8 % (n : Int) := Int.emod_nonneg _ (by omega)
  have i1 : s / 8 % (n : Int) < (n : Int) := Int.emod_lt_of_pos _ (by omega)
  have hn0 : ¬ (n : Int) = 0 := by omega
  obtain ⟨k, hk⟩ := Int.eq_ofNat_of_zero_le i0
  have hkn : k < n := by omega
  have hq : (wrap64 (IntKind.u16.wrap (s.tdiv 8))).tmod (n : Int) = (k : Int) := by
    have e1 : s.tdiv 8 = s / 8 := Int.tdiv_eq_ediv_of_nonneg s0
    have e2 : IntKind.u16.wrap (s / 8) = s / 8 := by rw [IntKind.wrap_u16]; omega
    have e3 : wrap64 (s / 8) = s / 8 := by unfold wrap64; omega
    rw [e1, e2, e3, Int.tmod_eq_emod_of_nonneg (by omega)]; exact hk
  have k0 : (0 : Int) ≤ (k : Int) := by omega
  have k1 : (k : Int) < (n : Int) := by omega
  clear i0 i1 hk
  go_enter Tryz.func13, Tryz.ntmps13
  go_wp2_with (at_builtin; (refine wpList_push_row rfl (.tmp 7) (.tmp 8) 22 rfl Tryz.underlying22 u8_infoB (base := w.heap.size) (v := .slice (some ⟨w.heap.size, 0, none⟩) 0 0) (zs := []) (ys := zs) (A := A) (m := n) (c := cap) rfl rfl hO.out hR.out (by simp; omega) (by decide) (by simp) ?_; intro v2 w2 O2 hg2 _; have B2 := Own.grown (Ba.out w _) hO.out hg2; clear hg2; rw [List.nil_append] at O2; obtain ⟨g, c2, rfl, hs2, hg⟩ := O2.slG hrg.out hlen.out h0))
  have O3 := Lib.hid (O2.part k (by omega))
  have hcn := hs2.2.1
  have hby := Lib.hid (show ∀ z ∈ zs.take k ++ zs.drop (k + 1), 0 ≤ z ∧ z ≤ 255 by
    intro z hz
    rcases List.mem_append.1 hz with hz | hz
    · exact hrg.out z (List.mem_of_mem_take hz)
    · exact hrg.out z (List.mem_of_mem_drop hz))
  have hl1 := Lib.hid (show (zs.take k ++ zs.drop (k + 1)).length = n - 1 by have := hlen.out; simp; omega)
  have hlt := Lib.hid (show (zs.take k).length + (n - (k + 1)) < 1000000 by have := List.length_take_le k zs; omega)
  have hw0 : IntKind.i64.wrap ((k : Int) + 1) = (k : Int) + 1 := by rw [IntKind.wrap_i64]; omega
  have hw1 : (k : Int) ≤ (c2 : Int) := by omega
  have hw2 : (k : Int) + 1 ≤ (n : Int) := by omega
  have hw3 : (0 : Int) ≤ (k : Int) + 1 := by omega
  have hw4 : ((k : Int) + 1).toNat = k + 1 := by omega
  replace B2 := Lib.hid B2
  by_cases hc2 : c2 = k + 1
  · subst hc2
    have hlt := Lib.hid (show (zs.take k).length + 0 < 1000000 by have := List.length_take_le k zs; omega)
    have T2 : Hid (RowK .u8 w2 (some ⟨g, 0, none⟩) 0 (zs.drop (k + 1))) := by
      have e2 : zs.drop (k + 1) = [] := by rw [List.drop_eq_nil_iff]; have := hlen.out; omega
      rw [e2]; exact Lib.hid (RowK.empty _ _ _)
    have hw5 : (k : Int) ≤ (k : Int) + 1 := by omega
    go_region_law (first
      | (with_reducible refine step_push_row (w := w2.drew) ?_ (.tmp 38) (.tmp 42) 22 ?_ Tryz.underlying22 u8_infoB (base := w.heap.size) (v := .slice (some ⟨g, 0, none⟩) k (k + 1)) (zs := zs.take k) (ys := zs.drop (k + 1)) (A := some ⟨g, 0, none⟩) (m := 0) (c := 0) ?_ ?_ ?_ ?_ ?_ (by decide) ?_ ?_
         · rfl
         · rfl
         · kernel_rfl
         · kernel_rfl
         · exact Own.drew O3.out
         · exact RowK.drew T2.out
         · exact hlt.out
         · exact B2.out.drew.size
         intro v4 w4 O4 hg4 _
         have B4 : Below w.heap.size w w4 := Own.grown B2.out.drew (Own.drew O3.out) hg4
         obtain ⟨A4, c4, rfl, hs4, hf4⟩ := O4.slN (n := n - 1) hby.out hl1.out
         clear hg4)
      | fail)
    all_goals
      go_wp2_with (fail)
      go_ret
      exact ⟨A4, n - 1, c4, _, rfl, hs4, by omega, B4, hf4⟩
  · have T2 := Lib.hid (hs2.row.rest (k + 1) (by omega) (a' := some ⟨g, k + 1, none⟩) (fun b' off' e _ => by cases e; simp))
    go_region_law (first
      | (with_reducible refine step_push_row (w := w2.drew) ?_ (.tmp 38) (.tmp 42) 22 ?_ Tryz.underlying22 u8_infoB (base := w.heap.size) (v := .slice (some ⟨g, 0, none⟩) k c2) (zs := zs.take k) (ys := zs.drop (k + 1)) (A := some ⟨g, k + 1, none⟩) (m := n - (k + 1)) (c := c2 - (k + 1)) ?_ ?_ ?_ ?_ ?_ (by decide) ?_ ?_
         · rfl
         · rfl
         · kernel_rfl
         · kernel_rfl
         · exact Own.drew O3.out
         · exact RowK.drew T2.out
         · exact hlt.out
         · exact B2.out.drew.size
         intro v4 w4 O4 hg4 _
         have B4 : Below w.heap.size w w4 := Own.grown B2.out.drew (Own.drew O3.out) hg4
         obtain ⟨A4, c4, rfl, hs4, hf4⟩ := O4.slN (n := n - 1) hby.out hl1.out
         clear hg4)
      | fail)
    all_goals
      go_wp2_with (fail)
      go_ret
      exact ⟨A4, n - 1, c4, _, rfl, hs4, by omega, B4, hf4⟩

set_option maxHeartbeats 1600000 in
theorem spoil_2 (A : Option Addr) (n cap : Nat) (zs : List Int) (s : Int) (w : World) (h : Sl w A n cap zs) (hn : n ≤ 10000) (s0 : 0 ≤ s) (s1 : s ≤ 65535) (h0 : 0 < n) (h4 : s % 4 = 2) : Calls Tryz.prog 13 #[.slice A n cap, .int .u16 s] w (SomeB (n + 1) w) := by
  have hlen := Lib.hid h.len
  have hrg := Lib.hid h.range
  have Ba := Lib.hid (fun (x : World) (o : Obj) => (Below.refl x.heap.size x).alloc (Nat.le_refl _) o)
  have hR := Lib.hid (h.keep (Ba.out w (.cells #[] 5))).row
  have hO := Lib.hid (Own.new .u8 5 (w := w) (Nat.le_refl _) [] (by decide))
  have i0 : 0 ≤ s / 8 % (n : Int) := Int.emod_nonneg _ (by omega)
  have i1 : s / 8 % (n : Int) < (n : Int) := Int.emod_lt_of_pos _ (by omega)
  have hn0 : ¬ (n : Int) = 0 := by omega
  obtain ⟨k, hk⟩ := Int.eq_ofNat_of_zero_le i0
  have hkn : k < n := by omega
  have hq : (wrap64 (IntKind.u16.wrap (s.tdiv 8))).tmod (n : Int) = (k : Int) := by
    have e1 : s.tdiv 8 = s / 8 := Int.tdiv_eq_ediv_of_nonneg s0
    have e2 : IntKind.u16.wrap (s / 8) = s / 8 := by rw [IntKind.wrap_u16]; omega
    have e3 : wrap64 (s / 8) = s / 8 := by unfold wrap64; omega
    rw [e1, e2, e3, Int.tmod_eq_emod_of_nonneg (by omega)]; exact hk
  have k0 : (0 : Int) ≤ (k : Int) := by omega
  have k1 : (k : Int) < (n : Int) := by omega
  clear i0 i1 hk
  have hby := Lib.hid (show ∀ z ∈ [s % 256], IntKind.u8.min ≤ z ∧ z ≤ IntKind.u8.max by
    intro z hz
    rw [List.mem_singleton] at hz; subst hz
    exact ⟨by show 0 ≤ _; omega, by show _ ≤ 255; omega⟩)
  go_enter Tryz.func13, Tryz.ntmps13
  go_wp2_with (at_builtin; first
    | (refine wpList_push_row rfl (.tmp 7) (.tmp 8) 22 rfl Tryz.underlying22 u8_infoB (base := w.heap.size) (v := .slice (some ⟨w.heap.size, 0, none⟩) 0 0) (zs := []) (ys := zs) (A := A) (m := n) (c := cap) rfl rfl hO.out hR.out (by simp; omega) (by decide) (by simp) ?_; intro v2 w2 O2 hg2 _; have B2 := Own.grown (Ba.out w _) hO.out hg2; clear hg2; rw [List.nil_append] at O2; obtain ⟨g, c2, rfl, hs2, hg⟩ := O2.slG hrg.out hlen.out h0; replace O2 := Lib.hid O2; replace B2 := Lib.hid B2; clear hs2)
    | (refine wpList_push_row rfl (.tmp 46) (.tmp 49) 22 rfl Tryz.underlying22 u8_infoB (base := w.heap.size) (v := .slice (some ⟨g, 0, none⟩) n c2) (zs := zs) (ys := [s % 256]) (A := some ⟨w2.heap.size, 0, none⟩) (m := 1) (c := 1) rfl rfl (O2.out.alloc _) (RowK.new .u8 w2 _ _ hby.out) (by rw [hlen.out]; omega) (by decide) (B2.out.alloc B2.out.size _).size ?_; intro v3 w3 O3 hg3 _; have B3 := Own.grown (B2.out.alloc B2.out.size _) (O2.out.alloc _) hg3; clear hg3; obtain ⟨A3, c3, rfl, hs3, hf3⟩ := O3.slN (n := n + 1) (by
        intro z hz
        rcases List.mem_append.1 hz with hz | hz
        · exact hrg.out z hz
        · exact hby.out z hz) (by simp [hlen.out])))
  go_ret
  exact ⟨A3, n + 1, c3, _, rfl, hs3, Nat.le_refl _, B3, hf3⟩

set_option maxHeartbeats 1600000 in
theorem spoil_3 (A : Option Addr) (n cap : Nat) (zs : List Int) (s : Int) (w : World) (h : Sl w A n cap zs) (hn : n ≤ 10000) (s0 : 0 ≤ s) (s1 : s ≤ 65535) (h0 : 0 < n) (h4 : s % 4 = 3) : Calls Tryz.prog 13 #[.slice A n cap, .int .u16 s] w (SomeB (n + 1) w) := by
  have hlen := Lib.hid h.len
  have hrg := Lib.hid h.range
  have Ba := Lib.hid (fun (x : World) (o : Obj) => (Below.refl x.heap.size x).alloc (Nat.le_refl _) o)
  have hR := Lib.hid (h.keep (Ba.out w (.cells #[] 5))).row
  have hO := Lib.hid (Own.new .u8 5 (w := w) (Nat.le_refl _) [] (by decide))
  have i0 : 0 ≤ s / 8 % (n : Int) := Int.emod_nonneg _ (by omega)
  have i1 : s / 8 % (n : Int) < (n : Int) := Int.emod_lt_of_pos _ (by omega)
  have hn0 : ¬ (n : Int) = 0 := by omega
  obtain ⟨k, hk⟩ := Int.eq_ofNat_of_zero_le i0
  have hkn : k < n := by omega
  have hq : (wrap64 (IntKind.u16.wrap (s.tdiv 8))).tmod (n : Int) = (k : Int) := by
    have e1 : s.tdiv 8 = s / 8 := Int.tdiv_eq_ediv_of_nonneg s0
    have e2 : IntKind.u16.wrap (s / 8) = s / 8 := by rw [IntKind.wrap_u16]; omega
    have e3 : wrap64 (s / 8) = s / 8 := by unfold wrap64; omega
    rw [e1, e2, e3, Int.tmod_eq_emod_of_nonneg (by omega)]; exact hk
  have k0 : (0 : Int) ≤ (k : Int) := by omega
  have k1 : (k : Int) < (n : Int) := by omega
  clear i0 i1 hk
  go_enter Tryz.func13, Tryz.ntmps13
  go_wp2_with (at_builtin; (refine wpList_push_row rfl (.tmp 7) (.tmp 8) 22 rfl Tryz.underlying22 u8_infoB (base := w.heap.size) (v := .slice (some ⟨w.heap.size, 0, none⟩) 0 0) (zs := []) (ys := zs) (A := A) (m := n) (c := cap) rfl rfl hO.out hR.out (by simp; omega) (by decide) (by simp) ?_; intro v2 w2 O2 hg2 _; have B2 := Own.grown (Ba.out w _) hO.out hg2; clear hg2; rw [List.nil_append] at O2; obtain ⟨g, c2, rfl, hs2, hg⟩ := O2.slG hrg.out hlen.out h0))
  go_ret
  exact ⟨_, n, c2, _, rfl, hs2, by omega, B2, fun b off e => by cases e; exact hg⟩

set_option maxHeartbeats 1600000 in
theorem spoil_any (A : Option Addr) (n cap : Nat) (zs : List Int) (s : Int) (w : World) (h : Sl w A n cap zs) (hn : n ≤ 10000) (s0 : 0 ≤ s) (s1 : s ≤ 65535) : Calls Tryz.prog 13 #[.slice A n cap, .int .u16 s] w (SomeB (n + 1) w) := by
  have hlen := Lib.hid h.len
  have hrg := Lib.hid h.range
  have Ba := Lib.hid (fun (x : World) (o : Obj) => (Below.refl x.heap.size x).alloc (Nat.le_refl _) o)
  have hR := Lib.hid (h.keep (Ba.out w (.cells #[] 5))).row
  have hO := Lib.hid (Own.new .u8 5 (w := w) (Nat.le_refl _) [] (by decide))
  rcases Nat.eq_zero_or_pos n with h0 | h0
  · subst h0
    go_enter Tryz.func13, Tryz.ntmps13
    go_wp2_with (at_builtin; refine wpList_push_row rfl (.tmp 7) (.tmp 8) 22 rfl Tryz.underlying22 u8_infoB (base := w.heap.size) (v := .slice (some ⟨w.heap.size, 0, none⟩) 0 0) (zs := []) (ys := zs) (A := A) (m := 0) (c := cap) rfl rfl hO.out hR.out (by simp) (by decide) (by simp) ?_; intro v2 w2 O2 hg2 _; have B2 := Own.grown (Ba.out w _) hO.out hg2; clear hg2; rw [List.nil_append] at O2; obtain ⟨A2, c2, rfl, hs2, hf2⟩ := O2.slN hrg.out hlen.out)
    go_ret
    exact ⟨A2, 0, c2, _, rfl, hs2, by omega, B2, hf2⟩
  · have h4 : s % 4 = 0 ∨ s % 4 = 1 ∨ s % 4 = 2 ∨ s % 4 = 3 := by omega
    rcases h4 with h4 | h4 | h4 | h4
    · exact spoil_0 A n cap zs s w h hn s0 s1 h0 h4
    · exact spoil_1 A n cap zs s w h hn s0 s1 h0 h4
    · exact spoil_2 A n cap zs s w h hn s0 s1 h0 h4
    · exact spoil_3 A n cap zs s w h hn s0 s1 h0 h4

end Go.Proofs.YtkhkmgblgonfoaaGreat
