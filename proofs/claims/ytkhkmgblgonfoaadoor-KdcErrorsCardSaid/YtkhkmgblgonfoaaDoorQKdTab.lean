/-
  The table of the codes' texts in memory, as the program's own initialiser lays it; what Message of package kdcmessage returns where it lies so.
-/
import Derived.Test.YtkhkmgblgonfoaaDoorQMsgR
import Derived.Test.YtkhkmgblgonfoaaDoorRows
import Derived.Lib.LaidU8
namespace Go.Proofs.YtkhkmgblgonfoaaDoor
open Go.RowKit
set_option maxRecDepth 100000

def tabOf (s0 s1 s2 s3 s4 s5 s6 s7 s8 s9 : ByteArray) : Array Value := #[.int .i64 1, .string s0, .int .i64 2, .string s1, .int .i64 3, .string s2, .int .i64 4, .string s3, .int .i64 5, .string s4, .int .i64 6, .string s5, .int .i64 7, .string s6, .int .i64 8, .string s7, .int .i64 9, .string s8, .int .i64 10, .string s9]
/-- The table's block: ten codes, each with its text. -/
def TabAt (w : World) : Prop := ∃ t fr, w.heap[0]? = some (.cells (tabOf (msgS 1) (msgS 2) (msgS 3) (msgS 4) (msgS 5) (msgS 6) (msgS 7) (msgS 8) (msgS 9) (msgS 10)) t fr)
theorem TabAt.keep {w w' : World} (hb : Below w.heap.size w w') (h : TabAt w) : TabAt w' := by
  obtain ⟨t, fr, hg⟩ := h
  exact ⟨t, fr, (hb.block _ (by rcases Nat.lt_or_ge 0 w.heap.size with h | h; exact h; rw [Array.getElem?_eq_none h] at hg; cases hg)).trans hg⟩

/-- One element of the table: its two cells. -/
theorem tab_elem {H : Type} {enc : TypeId × Value → H} {w : World} {base : Nat} {sp : Nat → Bool} {held : Bool} {fuel : Nat} {cs : List Value} {q : List MemPlace} {c : Int} {s : List UInt8}
    (h : DataW.trod enc Tryd.prog w base sp held fuel 44 cs = some (.agg [.lit (.int .i64 c), .lit (.string s)], q)) : cs = [.int .i64 c, .string ⟨s.toArray⟩] := by
  obtain ⟨xs, n, rfl, hx, hl, hxl, hall⟩ := DataW.trod_struct Tryd.underlying44 h
  have hc2 : Tryd.prog.cellsOf 44 = 2 := by kernel_rfl
  have hcE : Tryd.prog.cellsOf 24 = 1 := by kernel_rfl
  have hcS : Tryd.prog.cellsOf 9 = 1 := by kernel_rfl
  rw [hc2] at hl
  have hxs : xs.map (·.1) = [.lit (.int .i64 c), .lit (.string s)] := by
    have := congrArg Prod.fst hx
    simpa using this.symm
  match xs, hxs with
  | [(d0, p0), (d1, p1)], hxs =>
    simp only [List.map_cons, List.map_nil, List.cons.injEq, and_true] at hxs
    obtain ⟨rfl, rfl⟩ := hxs
    match cs, hl with
    | [a, b], _ =>
      have h0 := hall 0 _ rfl
      have h1 := hall 1 _ rfl
      change DataW.trod enc Tryd.prog w base sp held n 24 ((List.drop 0 [a, b]).take (Tryd.prog.cellsOf 24)) = _ at h0
      change DataW.trod enc Tryd.prog w base sp held n 9 ((List.drop 1 [a, b]).take (Tryd.prog.cellsOf 9)) = _ at h1
      rw [hcE] at h0
      rw [hcS] at h1
      obtain ⟨z, hz, hz2, _⟩ := DataW.trod_int Tryd.underlying24 h0
      obtain ⟨t, ht, ht2, _⟩ := DataW.trod_string Tryd.underlying9 h1
      simp at hz hz2 ht ht2
      obtain ⟨rfl, _⟩ := hz2
      obtain ⟨rfl, _⟩ := ht2
      rw [hz, ht]

set_option maxHeartbeats 1600000 in
theorem tab_of_laid {W : World} (h : laidMetH Tryd.prog Rows.kdcErrorsRow.laid W) : TabAt W := by
  have h' : laidMet Tryd.prog [("kerbsuite/kdcmessage.codeTexts", Rows.laid_kerbsuite_kdcmessage_codeTexts)] W := h
  obtain ⟨g, t, cs, fuel, p, hg, ht, hvar, hd⟩ := Lib.laidMet.reads h' (.head _)
  have gN : Tryd.prog.globalNamed "kerbsuite/kdcmessage.codeTexts" = some 0 := by kernel_rfl
  have gT : (Tryd.prog.globals[0]?).map (·.type) = some 45 := by kernel_rfl
  have hc2 : Tryd.prog.cellsOf 44 = 2 := by kernel_rfl
  have hcA : Tryd.prog.cellsOf 45 = 20 := by kernel_rfl
  obtain rfl := Option.some.inj (gN.symm.trans hg)
  obtain rfl := Option.some.inj (gT.symm.trans ht)
  have E : ∀ (i : Nat) (c : Int) (s : List UInt8) (m : ByteArray), i < 10 → (∀ ds : List (DataW Unit), Rows.laid_kerbsuite_kdcmessage_codeTexts = .agg ds → ds[i]? = some (.agg [.lit (.int .i64 c), .lit (.string s)])) → m = ⟨s.toArray⟩ →
      cs[i * 2]? = some (.int .i64 c) ∧ cs[i * 2 + 1]? = some (.string m) := by
    intro i c s m hi hds hm
    have hd' := hd
    unfold Rows.laid_kerbsuite_kdcmessage_codeTexts at hd'
    obtain ⟨fuel', d, q, h1, h2⟩ := Lib.array_elem Tryd.underlying45 hd' i hi
    rw [hds _ (by unfold Rows.laid_kerbsuite_kdcmessage_codeTexts; rfl)] at h1
    cases h1
    rw [hc2] at h2
    have h3 := tab_elem h2
    rw [hm]
    constructor
    · rw [← Array.getElem?_toList]
      have := congrArg (·[0]?) h3
      simpa [List.getElem?_take, List.getElem?_drop] using this
    · rw [← Array.getElem?_toList]
      have := congrArg (·[1]?) h3
      simpa [List.getElem?_take, List.getElem?_drop] using this
  have e0 := E 0 1 _ (msgS 1) (by decide) (fun ds e => by unfold Rows.laid_kerbsuite_kdcmessage_codeTexts at e; cases e; rfl) (by kernel_rfl)
  have e1 := E 1 2 _ (msgS 2) (by decide) (fun ds e => by unfold Rows.laid_kerbsuite_kdcmessage_codeTexts at e; cases e; rfl) (by kernel_rfl)
  have e2 := E 2 3 _ (msgS 3) (by decide) (fun ds e => by unfold Rows.laid_kerbsuite_kdcmessage_codeTexts at e; cases e; rfl) (by kernel_rfl)
  have e3 := E 3 4 _ (msgS 4) (by decide) (fun ds e => by unfold Rows.laid_kerbsuite_kdcmessage_codeTexts at e; cases e; rfl) (by kernel_rfl)
  have e4 := E 4 5 _ (msgS 5) (by decide) (fun ds e => by unfold Rows.laid_kerbsuite_kdcmessage_codeTexts at e; cases e; rfl) (by kernel_rfl)
  have e5 := E 5 6 _ (msgS 6) (by decide) (fun ds e => by unfold Rows.laid_kerbsuite_kdcmessage_codeTexts at e; cases e; rfl) (by kernel_rfl)
  have e6 := E 6 7 _ (msgS 7) (by decide) (fun ds e => by unfold Rows.laid_kerbsuite_kdcmessage_codeTexts at e; cases e; rfl) (by kernel_rfl)
  have e7 := E 7 8 _ (msgS 8) (by decide) (fun ds e => by unfold Rows.laid_kerbsuite_kdcmessage_codeTexts at e; cases e; rfl) (by kernel_rfl)
  have e8 := E 8 9 _ (msgS 9) (by decide) (fun ds e => by unfold Rows.laid_kerbsuite_kdcmessage_codeTexts at e; cases e; rfl) (by kernel_rfl)
  have e9 := E 9 10 _ (msgS 10) (by decide) (fun ds e => by unfold Rows.laid_kerbsuite_kdcmessage_codeTexts at e; cases e; rfl) (by kernel_rfl)
  have hsz : cs.size = 20 := by
    cases fuel with
    | zero => simp [DataW.trod] at hd
    | succ fuel =>
      simp only [DataW.trod, Tryd.underlying45, hcA] at hd
      split at hd
      · simp_all
      · cases hd
  have hcs : cs = tabOf (msgS 1) (msgS 2) (msgS 3) (msgS 4) (msgS 5) (msgS 6) (msgS 7) (msgS 8) (msgS 9) (msgS 10) := by
    apply Array.ext_getElem?
    intro j
    by_cases hj : j < 20
    · have hj' : j = 0 ∨ j = 1 ∨ j = 2 ∨ j = 3 ∨ j = 4 ∨ j = 5 ∨ j = 6 ∨ j = 7 ∨ j = 8 ∨ j = 9 ∨ j = 10 ∨ j = 11 ∨ j = 12 ∨ j = 13 ∨ j = 14 ∨ j = 15 ∨ j = 16 ∨ j = 17 ∨ j = 18 ∨ j = 19 := by omega
      rcases hj' with rfl | rfl | rfl | rfl | rfl | rfl | rfl | rfl | rfl | rfl | rfl | rfl | rfl | rfl | rfl | rfl | rfl | rfl | rfl | rfl
      · exact e0.1
      · exact e0.2
      · exact e1.1
      · exact e1.2
      · exact e2.1
      · exact e2.2
      · exact e3.1
      · exact e3.2
      · exact e4.1
      · exact e4.2
      · exact e5.1
      · exact e5.2
      · exact e6.1
      · exact e6.2
      · exact e7.1
      · exact e7.2
      · exact e8.1
      · exact e8.2
      · exact e9.1
      · exact e9.2
    · rw [Array.getElem?_eq_none (by omega), Array.getElem?_eq_none (by unfold tabOf; simp; omega)]
  subst hcs
  simp only [World.var?, gN, Option.bind_some] at hvar
  split at hvar
  · rename_i c2 t2 f2 hh
    exact ⟨t2, f2, by rw [hh, Option.some.inj hvar]⟩
  · cases hvar

set_option maxHeartbeats 6400000 in
theorem kmsg_gen (w : World) (T : Array Value) (t : TypeId) (fr : Nat × Nat) (n : Int) (m : ByteArray) (s0 s1 s2 s3 s4 s5 s6 s7 s8 s9 : ByteArray)
  (hg : w.heap[0]? = some (.cells T t fr)) (hi : (Tryd.prog.info? 45).map (·.size) = some T.size)
  (i0 : ∀ W, (Instr.index 45 (.agg T) (.int .i64 0)).run Tryd.prog W = .ok (.agg #[.int .i64 1, .string s0]) W)
  (i1 : ∀ W, (Instr.index 45 (.agg T) (.int .i64 1)).run Tryd.prog W = .ok (.agg #[.int .i64 2, .string s1]) W)
  (i2 : ∀ W, (Instr.index 45 (.agg T) (.int .i64 2)).run Tryd.prog W = .ok (.agg #[.int .i64 3, .string s2]) W)
  (i3 : ∀ W, (Instr.index 45 (.agg T) (.int .i64 3)).run Tryd.prog W = .ok (.agg #[.int .i64 4, .string s3]) W)
  (i4 : ∀ W, (Instr.index 45 (.agg T) (.int .i64 4)).run Tryd.prog W = .ok (.agg #[.int .i64 5, .string s4]) W)
  (i5 : ∀ W, (Instr.index 45 (.agg T) (.int .i64 5)).run Tryd.prog W = .ok (.agg #[.int .i64 6, .string s5]) W)
  (i6 : ∀ W, (Instr.index 45 (.agg T) (.int .i64 6)).run Tryd.prog W = .ok (.agg #[.int .i64 7, .string s6]) W)
  (i7 : ∀ W, (Instr.index 45 (.agg T) (.int .i64 7)).run Tryd.prog W = .ok (.agg #[.int .i64 8, .string s7]) W)
  (i8 : ∀ W, (Instr.index 45 (.agg T) (.int .i64 8)).run Tryd.prog W = .ok (.agg #[.int .i64 9, .string s8]) W)
  (i9 : ∀ W, (Instr.index 45 (.agg T) (.int .i64 9)).run Tryd.prog W = .ok (.agg #[.int .i64 10, .string s9]) W)
  (m1 : n = 1 → m = s0)
  (m2 : n = 2 → m = s1)
  (m3 : n = 3 → m = s2)
  (m4 : n = 4 → m = s3)
  (m5 : n = 5 → m = s4)
  (m6 : n = 6 → m = s5)
  (m7 : n = 7 → m = s6)
  (m8 : n = 8 → m = s7)
  (m9 : n = 9 → m = s8)
  (m10 : n = 10 → m = s9)
  (mx : n < 1 ∨ 10 < n → m = ⟨#[114, 101, 113, 117, 101, 115, 116, 32, 114, 101, 102, 117, 115, 101, 100]⟩)
  : Calls Tryd.prog 7 #[.int .i64 n] w fun e w' => e = .returned (.string m) ∧ Below w.heap.size w w' := by
  have hways : n < 1 ∨ 10 < n ∨ n = 1 ∨ n = 2 ∨ n = 3 ∨ n = 4 ∨ n = 5 ∨ n = 6 ∨ n = 7 ∨ n = 8 ∨ n = 9 ∨ n = 10 := by omega
  rcases hways with h | h | h | h | h | h | h | h | h | h | h | h
  · have hm := Lib.hid (mx (.inl h))
    clear m1 m2 m3 m4 m5 m6 m7 m8 m9 m10 mx
    go_enter Tryd.func7, Tryd.ntmps7
    go_wp2_with (refine wpList_load_row rfl 45 _ rfl 0 rfl t _ fr _ hg Tryd.underlying45 rfl hi ?_)
    refine wp_loop_rounds 11 ?_
    rw [rounds_succ]
    go_wp2_with (fail)
    rw [rounds_succ]
    go_wp2_with (fail)
    rw [rounds_succ]
    go_wp2_with (fail)
    rw [rounds_succ]
    go_wp2_with (fail)
    rw [rounds_succ]
    go_wp2_with (fail)
    rw [rounds_succ]
    go_wp2_with (fail)
    rw [rounds_succ]
    go_wp2_with (fail)
    rw [rounds_succ]
    go_wp2_with (fail)
    rw [rounds_succ]
    go_wp2_with (fail)
    rw [rounds_succ]
    go_wp2_with (fail)
    rw [rounds_succ]
    go_wp2_with (fail)
    go_ret
    exact ⟨by rw [hm.out]; rfl, by repeat (first | exact Below.refl _ _ | refine Below.alloc ?_ (by first | exact Nat.le_refl _ | (simp; omega) | simp) _)⟩
  · have hm := Lib.hid (mx (.inr h))
    clear m1 m2 m3 m4 m5 m6 m7 m8 m9 m10 mx
    have h2 : 1 ≤ n := by omega
    go_enter Tryd.func7, Tryd.ntmps7
    go_wp2_with (refine wpList_load_row rfl 45 _ rfl 0 rfl t _ fr _ hg Tryd.underlying45 rfl hi ?_)
    refine wp_loop_rounds 11 ?_
    rw [rounds_succ]
    go_wp2_with (fail)
    rw [rounds_succ]
    go_wp2_with (fail)
    rw [rounds_succ]
    go_wp2_with (fail)
    rw [rounds_succ]
    go_wp2_with (fail)
    rw [rounds_succ]
    go_wp2_with (fail)
    rw [rounds_succ]
    go_wp2_with (fail)
    rw [rounds_succ]
    go_wp2_with (fail)
    rw [rounds_succ]
    go_wp2_with (fail)
    rw [rounds_succ]
    go_wp2_with (fail)
    rw [rounds_succ]
    go_wp2_with (fail)
    rw [rounds_succ]
    go_wp2_with (fail)
    go_ret
    exact ⟨by rw [hm.out]; rfl, by repeat (first | exact Below.refl _ _ | refine Below.alloc ?_ (by first | exact Nat.le_refl _ | (simp; omega) | simp) _)⟩
  · have hm := Lib.hid (m1 h)
    clear m1 m2 m3 m4 m5 m6 m7 m8 m9 m10 mx
    subst h
    go_enter Tryd.func7, Tryd.ntmps7
    go_wp2_with (refine wpList_load_row rfl 45 _ rfl 0 rfl t _ fr _ hg Tryd.underlying45 rfl hi ?_)
    refine wp_loop_rounds 11 ?_
    rw [rounds_succ]
    go_wp2_with (fail)
    go_ret
    exact ⟨by rw [hm.out]; rfl, by repeat (first | exact Below.refl _ _ | refine Below.alloc ?_ (by first | exact Nat.le_refl _ | (simp; omega) | simp) _)⟩
  · have hm := Lib.hid (m2 h)
    clear m1 m2 m3 m4 m5 m6 m7 m8 m9 m10 mx
    subst h
    go_enter Tryd.func7, Tryd.ntmps7
    go_wp2_with (refine wpList_load_row rfl 45 _ rfl 0 rfl t _ fr _ hg Tryd.underlying45 rfl hi ?_)
    refine wp_loop_rounds 11 ?_
    rw [rounds_succ]
    go_wp2_with (fail)
    rw [rounds_succ]
    go_wp2_with (fail)
    go_ret
    exact ⟨by rw [hm.out]; rfl, by repeat (first | exact Below.refl _ _ | refine Below.alloc ?_ (by first | exact Nat.le_refl _ | (simp; omega) | simp) _)⟩
  · have hm := Lib.hid (m3 h)
    clear m1 m2 m3 m4 m5 m6 m7 m8 m9 m10 mx
    subst h
    go_enter Tryd.func7, Tryd.ntmps7
    go_wp2_with (refine wpList_load_row rfl 45 _ rfl 0 rfl t _ fr _ hg Tryd.underlying45 rfl hi ?_)
    refine wp_loop_rounds 11 ?_
    rw [rounds_succ]
    go_wp2_with (fail)
    rw [rounds_succ]
    go_wp2_with (fail)
    rw [rounds_succ]
    go_wp2_with (fail)
    go_ret
    exact ⟨by rw [hm.out]; rfl, by repeat (first | exact Below.refl _ _ | refine Below.alloc ?_ (by first | exact Nat.le_refl _ | (simp; omega) | simp) _)⟩
  · have hm := Lib.hid (m4 h)
    clear m1 m2 m3 m4 m5 m6 m7 m8 m9 m10 mx
    subst h
    go_enter Tryd.func7, Tryd.ntmps7
    go_wp2_with (refine wpList_load_row rfl 45 _ rfl 0 rfl t _ fr _ hg Tryd.underlying45 rfl hi ?_)
    refine wp_loop_rounds 11 ?_
    rw [rounds_succ]
    go_wp2_with (fail)
    rw [rounds_succ]
    go_wp2_with (fail)
    rw [rounds_succ]
    go_wp2_with (fail)
    rw [rounds_succ]
    go_wp2_with (fail)
    go_ret
    exact ⟨by rw [hm.out]; rfl, by repeat (first | exact Below.refl _ _ | refine Below.alloc ?_ (by first | exact Nat.le_refl _ | (simp; omega) | simp) _)⟩
  · have hm := Lib.hid (m5 h)
    clear m1 m2 m3 m4 m5 m6 m7 m8 m9 m10 mx
    subst h
    go_enter Tryd.func7, Tryd.ntmps7
    go_wp2_with (refine wpList_load_row rfl 45 _ rfl 0 rfl t _ fr _ hg Tryd.underlying45 rfl hi ?_)
    refine wp_loop_rounds 11 ?_
    rw [rounds_succ]
    go_wp2_with (fail)
    rw [rounds_succ]
    go_wp2_with (fail)
    rw [rounds_succ]
    go_wp2_with (fail)
    rw [rounds_succ]
    go_wp2_with (fail)
    rw [rounds_succ]
    go_wp2_with (fail)
    go_ret
    exact ⟨by rw [hm.out]; rfl, by repeat (first | exact Below.refl _ _ | refine Below.alloc ?_ (by first | exact Nat.le_refl _ | (simp; omega) | simp) _)⟩
  · have hm := Lib.hid (m6 h)
    clear m1 m2 m3 m4 m5 m6 m7 m8 m9 m10 mx
    subst h
    go_enter Tryd.func7, Tryd.ntmps7
    go_wp2_with (refine wpList_load_row rfl 45 _ rfl 0 rfl t _ fr _ hg Tryd.underlying45 rfl hi ?_)
    refine wp_loop_rounds 11 ?_
    rw [rounds_succ]
    go_wp2_with (fail)
    rw [rounds_succ]
    go_wp2_with (fail)
    rw [rounds_succ]
    go_wp2_with (fail)
    rw [rounds_succ]
    go_wp2_with (fail)
    rw [rounds_succ]
    go_wp2_with (fail)
    rw [rounds_succ]
    go_wp2_with (fail)
    go_ret
    exact ⟨by rw [hm.out]; rfl, by repeat (first | exact Below.refl _ _ | refine Below.alloc ?_ (by first | exact Nat.le_refl _ | (simp; omega) | simp) _)⟩
  · have hm := Lib.hid (m7 h)
    clear m1 m2 m3 m4 m5 m6 m7 m8 m9 m10 mx
    subst h
    go_enter Tryd.func7, Tryd.ntmps7
    go_wp2_with (refine wpList_load_row rfl 45 _ rfl 0 rfl t _ fr _ hg Tryd.underlying45 rfl hi ?_)
    refine wp_loop_rounds 11 ?_
    rw [rounds_succ]
    go_wp2_with (fail)
    rw [rounds_succ]
    go_wp2_with (fail)
    rw [rounds_succ]
    go_wp2_with (fail)
    rw [rounds_succ]
    go_wp2_with (fail)
    rw [rounds_succ]
    go_wp2_with (fail)
    rw [rounds_succ]
    go_wp2_with (fail)
    rw [rounds_succ]
    go_wp2_with (fail)
    go_ret
    exact ⟨by rw [hm.out]; rfl, by repeat (first | exact Below.refl _ _ | refine Below.alloc ?_ (by first | exact Nat.le_refl _ | (simp; omega) | simp) _)⟩
  · have hm := Lib.hid (m8 h)
    clear m1 m2 m3 m4 m5 m6 m7 m8 m9 m10 mx
    subst h
    go_enter Tryd.func7, Tryd.ntmps7
    go_wp2_with (refine wpList_load_row rfl 45 _ rfl 0 rfl t _ fr _ hg Tryd.underlying45 rfl hi ?_)
    refine wp_loop_rounds 11 ?_
    rw [rounds_succ]
    go_wp2_with (fail)
    rw [rounds_succ]
    go_wp2_with (fail)
    rw [rounds_succ]
    go_wp2_with (fail)
    rw [rounds_succ]
    go_wp2_with (fail)
    rw [rounds_succ]
    go_wp2_with (fail)
    rw [rounds_succ]
    go_wp2_with (fail)
    rw [rounds_succ]
    go_wp2_with (fail)
    rw [rounds_succ]
    go_wp2_with (fail)
    go_ret
    exact ⟨by rw [hm.out]; rfl, by repeat (first | exact Below.refl _ _ | refine Below.alloc ?_ (by first | exact Nat.le_refl _ | (simp; omega) | simp) _)⟩
  · have hm := Lib.hid (m9 h)
    clear m1 m2 m3 m4 m5 m6 m7 m8 m9 m10 mx
    subst h
    go_enter Tryd.func7, Tryd.ntmps7
    go_wp2_with (refine wpList_load_row rfl 45 _ rfl 0 rfl t _ fr _ hg Tryd.underlying45 rfl hi ?_)
    refine wp_loop_rounds 11 ?_
    rw [rounds_succ]
    go_wp2_with (fail)
    rw [rounds_succ]
    go_wp2_with (fail)
    rw [rounds_succ]
    go_wp2_with (fail)
    rw [rounds_succ]
    go_wp2_with (fail)
    rw [rounds_succ]
    go_wp2_with (fail)
    rw [rounds_succ]
    go_wp2_with (fail)
    rw [rounds_succ]
    go_wp2_with (fail)
    rw [rounds_succ]
    go_wp2_with (fail)
    rw [rounds_succ]
    go_wp2_with (fail)
    go_ret
    exact ⟨by rw [hm.out]; rfl, by repeat (first | exact Below.refl _ _ | refine Below.alloc ?_ (by first | exact Nat.le_refl _ | (simp; omega) | simp) _)⟩
  · have hm := Lib.hid (m10 h)
    clear m1 m2 m3 m4 m5 m6 m7 m8 m9 m10 mx
    subst h
    go_enter Tryd.func7, Tryd.ntmps7
    go_wp2_with (refine wpList_load_row rfl 45 _ rfl 0 rfl t _ fr _ hg Tryd.underlying45 rfl hi ?_)
    refine wp_loop_rounds 11 ?_
    rw [rounds_succ]
    go_wp2_with (fail)
    rw [rounds_succ]
    go_wp2_with (fail)
    rw [rounds_succ]
    go_wp2_with (fail)
    rw [rounds_succ]
    go_wp2_with (fail)
    rw [rounds_succ]
    go_wp2_with (fail)
    rw [rounds_succ]
    go_wp2_with (fail)
    rw [rounds_succ]
    go_wp2_with (fail)
    rw [rounds_succ]
    go_wp2_with (fail)
    rw [rounds_succ]
    go_wp2_with (fail)
    rw [rounds_succ]
    go_wp2_with (fail)
    go_ret
    exact ⟨by rw [hm.out]; rfl, by repeat (first | exact Below.refl _ _ | refine Below.alloc ?_ (by first | exact Nat.le_refl _ | (simp; omega) | simp) _)⟩

theorem kmsg_tab (w : World) (t : TypeId) (fr : Nat × Nat) (n : Int) (m : ByteArray) (s0 s1 s2 s3 s4 s5 s6 s7 s8 s9 : ByteArray)
  (hg : w.heap[0]? = some (.cells (tabOf s0 s1 s2 s3 s4 s5 s6 s7 s8 s9) t fr))
  (m1 : n = 1 → m = s0)
  (m2 : n = 2 → m = s1)
  (m3 : n = 3 → m = s2)
  (m4 : n = 4 → m = s3)
  (m5 : n = 5 → m = s4)
  (m6 : n = 6 → m = s5)
  (m7 : n = 7 → m = s6)
  (m8 : n = 8 → m = s7)
  (m9 : n = 9 → m = s8)
  (m10 : n = 10 → m = s9)
  (mx : n < 1 ∨ 10 < n → m = ⟨#[114, 101, 113, 117, 101, 115, 116, 32, 114, 101, 102, 117, 115, 101, 100]⟩)
  : Calls Tryd.prog 7 #[.int .i64 n] w fun e w' => e = .returned (.string m) ∧ Below w.heap.size w w' :=
  kmsg_gen w _ t fr n m s0 s1 s2 s3 s4 s5 s6 s7 s8 s9 hg (by kernel_rfl) (fun _ => by kernel_rfl) (fun _ => by kernel_rfl) (fun _ => by kernel_rfl) (fun _ => by kernel_rfl) (fun _ => by kernel_rfl) (fun _ => by kernel_rfl) (fun _ => by kernel_rfl) (fun _ => by kernel_rfl) (fun _ => by kernel_rfl) (fun _ => by kernel_rfl) m1 m2 m3 m4 m5 m6 m7 m8 m9 m10 mx

theorem kmsg_any (n : Int) (w : World) (hT : TabAt w) : Calls Tryd.prog 7 #[.int .i64 n] w fun e w' => e = .returned (.string (msgS n)) ∧ Below w.heap.size w w' := by
  obtain ⟨t, fr, hg⟩ := hT
  exact kmsg_tab w t fr n (msgS n) _ _ _ _ _ _ _ _ _ _ hg (fun h => by rw [h]) (fun h => by rw [h]) (fun h => by rw [h]) (fun h => by rw [h]) (fun h => by rw [h]) (fun h => by rw [h]) (fun h => by rw [h]) (fun h => by rw [h]) (fun h => by rw [h]) (fun h => by rw [h]) (fun h => by unfold msgS; rw [if_pos h]; kernel_rfl)

end Go.Proofs.YtkhkmgblgonfoaaDoor
