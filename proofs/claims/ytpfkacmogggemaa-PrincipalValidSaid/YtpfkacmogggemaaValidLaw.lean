/-
  The law PrincipalValid: which texts are valid names, instances and realms.
-/
import Derived.Test.YtpfkacmogggemaaOrderLaw
import Derived.Test.YtpfkacmogggemaaOpen
namespace Go.Proofs.Ytpfkacmogggemaa
open Go.RowKit

theorem quiet_w {P : Program} {f : FuncId} {args : Array Value} {w : World} {n : Nat} {v : Value}
    (h : Calls P f args (w.drewN n) fun e w' => e = .returned v ∧ w.drewN n = w') : Calls P f args (w.drewN n) fun e w'' => e = .returned v ∧ ∃ m, w'' = w.drewN m :=
  h.mono fun _ _ ⟨he, hm⟩ => ⟨he, n, hm.symm⟩

/-- Some short text. -/
def SomeText (w : World) (e : Ending) (w' : World) : Prop := ∃ x : ByteArray, x.size ≤ 100 ∧ e = .returned (.string x) ∧ Below w.heap.size w w'

/-- A slice of one new byte, made a text. -/
theorem conv_one (W : World) (c : Int) : (convert 30 9 (.slice (some ⟨W.heap.size, 0, none⟩) 1 1)).run Try.prog (W.alloc (.cells #[.int .u8 c] 5)) =
    .ok (.string (ByteArray.empty.push (UInt8.ofNat c.toNat))) (W.alloc (.cells #[.int .u8 c] 5)) := by
  rw [run_convert_bytes_string _ _ _ _ _ _ _ Try.underlying30 Try.underlying5 Try.underlying9]
  rw [run_bytesToString _ _ 1 1 [c] (run_loadCells_list _ _ [.int .u8 c] (fun j v hv => by
    match j, hv with
    | 0, hv => simp at hv; subst hv; simp [go_sem, Addr.add]
    | j + 1, hv => simp at hv))]
  rfl

set_option maxHeartbeats 400000 in
theorem stretched_any (n i c : Int) (w : World) (h0 : 0 ≤ n) (h1 : n ≤ 45) (_ : 0 ≤ i ∧ i ≤ 100) (_ : 0 ≤ c ∧ c ≤ 255) :
    Calls Try.prog 10 #[.int .i64 n, .int .i64 i, .int .u8 c] w (SomeText w) := by
  go_enter Try.func10, Try.ntmps10
  go_wp2
  go_loopw [7, 8] (fun m j wr => ∃ (mb : ByteArray) (k : Nat), k ≤ n ∧ j = .int .i64 k ∧ m = .string mb ∧ mb.size = k ∧ Below w.heap.size w wr) (fun _ j _ => n.toNat - (intOf j).toNat)
  case atStart => exact ⟨⟨#[]⟩, 0, by omega, rfl, rfl, rfl, Below.refl _ _⟩
  case round =>
    obtain ⟨mb, k, hk, rfl, rfl, hmb, B0⟩ := hrel
    have HM := Lib.hid hmb
    clear hmb
    have hm2 : mb.size ≤ 45 := by have := HM.out; omega
    by_cases hlt : (k : Int) < n
    · by_cases he : (k : Int) = i
      · have hcv := conv_one wr c
        go_wp2
        go_roundw
        case rel => exact ⟨_, k + 1, by omega, by go_num, rfl, by rw [ByteArray.size_append, HM.out]; rfl, B0.alloc B0.size _⟩
        case measure => simp [intOf]; omega
      · go_wp2
        go_roundw
        case rel => exact ⟨_, k + 1, by omega, by go_num, rfl, by rw [ByteArray.size_append, HM.out]; rfl, B0⟩
        case measure => simp [intOf]; omega
    · go_wp2
      go_ret
      exact ⟨mb, by omega, rfl, B0⟩


set_option maxRecDepth 100000 in
set_option maxHeartbeats 3200000 in
theorem validLaw_walk (s : ByteArray) (n i c : Int) (a b d : ByteArray) (w : World) (hm : MaxOk w) (hs : s.size ≤ maxLen) (hn : 0 ≤ n ∧ n ≤ 255) (hi : 0 ≤ i ∧ i ≤ 255) (hc : 0 ≤ c ∧ c ≤ 255)
    (ha : a.size ≤ maxLen) (hb : b.size ≤ maxLen) (hd : d.size ≤ maxLen) :
    Calls Try.prog 3 #[.string s, .int .u8 n, .int .u8 i, .int .u8 c, .agg #[.string a, .string b, .string d]] w fun e w' => e = .returned (.bool true) ∧ Below w.heap.size w w' := by
  have hp := hm.pos
  obtain ⟨hn1, hn2⟩ := hn
  obtain ⟨hi1, hi2⟩ := hi
  obtain ⟨hc1, hc2⟩ := hc
  unfold maxLen at hs
  by_cases h1 : 100 < (s.size : Int) <;> rcases h2 : lg a b d
  all_goals
    have B0 : Below w.heap.size w (w.alloc (Obj.cells #[.string a, .string b, .string d] 23)) := (Below.refl _ _).alloc (Nat.le_refl _) _
    have x0 : (w.alloc (Obj.cells #[.string a, .string b, .string d] 23)).cell? ⟨w.heap.size, 0, none⟩ = some (.string a) := by simp [go_sem]
    have x1 : (w.alloc (Obj.cells #[.string a, .string b, .string d] 23)).cell? ⟨w.heap.size, 1, none⟩ = some (.string b) := by simp [go_sem]
    have x2 : (w.alloc (Obj.cells #[.string a, .string b, .string d] 23)).cell? ⟨w.heap.size, 2, none⟩ = some (.string d) := by simp [go_sem]
    go_enter Try.func3, Try.ntmps3
    go_wp2_with (fail)
    refine (awake_any _ (hm.below B0)).mono ?_
    rintro e w1 ⟨rfl, hb1⟩
    replace B0 := below_keep hb1 B0
    replace x0 := cell_keep hb1 x0
    replace x1 := cell_keep hb1 x1
    replace x2 := cell_keep hb1 x2
    clear hb1
    go_wp2_with (go_at_call 9; refine (long_any _ _ _ _).mono ?_; rintro e w1 ⟨rfl, hb1⟩; replace B0 := below_keep hb1 B0; replace x0 := cell_keep hb1 x0; replace x1 := cell_keep hb1 x1; replace x2 := cell_keep hb1 x2; clear hb1)
    try (go_ret; exact ⟨rfl, B0⟩)
  refine (stretched_any _ _ _ _ (by omega) (by omega) (by omega) (by omega)).mono ?_
  rintro e w1 ⟨t1, ht1, rfl, hb1⟩
  replace B0 := below_keep hb1 B0
  replace x0 := cell_keep hb1 x0
  replace x1 := cell_keep hb1 x1
  replace x2 := cell_keep hb1 x2
  clear hb1
  go_wp2_with (fail)
  refine (stretched_any _ _ _ _ (by omega) (by omega) (by omega) (by omega)).mono ?_
  rintro e w2 ⟨t2, ht2, rfl, hb1⟩
  replace B0 := below_keep hb1 B0
  replace x0 := cell_keep hb1 x0
  replace x1 := cell_keep hb1 x1
  replace x2 := cell_keep hb1 x2
  clear hb1
  have hl : ∀ i, i < 3 → ∃ x : ByteArray, (w2.alloc (Obj.cells #[.string s, .string t1, .string t2] 9)).cell? ⟨w2.heap.size, i, none⟩ = some (.string x) ∧ x.size ≤ 1000 := by
    intro i hi
    match i, hi with
    | 0, _ => exact ⟨s, by simp [go_sem], by omega⟩
    | 1, _ => exact ⟨t1, by simp [go_sem], by omega⟩
    | 2, _ => exact ⟨t2, by simp [go_sem], by omega⟩
  have X0 := Lib.hid x0
  have X1 := Lib.hid x1
  have X2 := Lib.hid x2
  have HL := Lib.hid hl
  have HB : Hid (Below w.heap.size w (w2.alloc (Obj.cells #[.string s, .string t1, .string t2] 9))) := B0.alloc B0.size _
  clear hl x0 x1 x2
  go_wp2_with (fail)
  go_loopw [12] (fun i wx => ∃ n : Nat, n ≤ 3 ∧ i = .int .i64 n ∧ Below (w2.alloc (Obj.cells #[.string s, .string t1, .string t2] 9)).heap.size (w2.alloc (Obj.cells #[.string s, .string t1, .string t2] 9)) wx) (fun i _ => 3 - (intOf i).toNat)
  case atStart => exact ⟨0, by omega, rfl, Below.refl _ _⟩
  case round =>
    obtain ⟨k, hk, rfl, B2⟩ := hrel
    by_cases hk3 : k < 3
    · obtain ⟨x, hx, hxs⟩ := HL.out k hk3
      have hy := cell_keep B2 hx
      have hyl := cell_lt hy
      have xs' : x.size ≤ maxLen := by unfold maxLen; omega
      clear hx
      have i1 : (0 : Int) ≤ (k : Int) := by omega
      have i2 : (k : Int) < (3 : Int) := by omega
      go_wp2_with (fail)
      go_quiet (first
        | (go_at_call 11; exact quiet_w (validName_any x _ xs'))
        | (go_at_call 13; exact quiet_w (validInstance_any x _ xs'))
        | (go_at_call 15; exact quiet_w (validRealm_any x _ xs'))
        | (go_at_call 12; exact Calls.quiet_of (refName_any x _ xs'))
        | (go_at_call 14; exact Calls.quiet_of (refInst_any x _ xs'))
        | (go_at_call 16; exact Calls.quiet_of (refRealm_any x _ xs')))
      go_wp2_with (fail)
      go_roundw
      case rel => exact ⟨k + 1, by omega, by go_num, below_drewN' B2 _⟩
      case measure => simp [intOf]; omega
    · have B3 := below_keep B2 HB.out
      have z0 := World.cell?_alloc_lt w2 (Obj.cells #[.string s, .string t1, .string t2] 9) ⟨w.heap.size, 0, none⟩ (cell_lt X0.out)
      have z1 := World.cell?_alloc_lt w2 (Obj.cells #[.string s, .string t1, .string t2] 9) ⟨w.heap.size, 1, none⟩ (cell_lt X0.out)
      have z2 := World.cell?_alloc_lt w2 (Obj.cells #[.string s, .string t1, .string t2] 9) ⟨w.heap.size, 2, none⟩ (cell_lt X0.out)
      have x0 := cell_keep B2 (z0.trans X0.out)
      have x1 := cell_keep B2 (z1.trans X1.out)
      have x2 := cell_keep B2 (z2.trans X2.out)
      clear z0 z1 z2
      go_wp2_with (fail)
      go_region_held3 (fun W => Below w.heap.size w W ∧ W.cell? ⟨w.heap.size, 0, none⟩ = some (.string a) ∧ W.cell? ⟨w.heap.size, 1, none⟩ = some (.string b) ∧ W.cell? ⟨w.heap.size, 2, none⟩ = some (.string d))
        (first | (go_keep; done) | ((repeat' apply And.intro) <;> first | (go_keep; done) | exact B3.drew | exact cell_keep hb4 (by go_keep) | exact below_keep hb4 (by go_keep)))
        (first
          | (go_at_call 17; refine (valid_any _ _ _ _ ha hb hd).mono ?_; rintro e w4 ⟨rfl, hb4⟩)
          | (go_at_call 18; refine (refValid_any _ _ _ _ ha hb hd).mono ?_; rintro e w4 ⟨rfl, hb4⟩))
      all_goals
        have hS := ‹Below w.heap.size w _ ∧ _›
        go_wp2_with (fail)
        go_ret
        exact ⟨ret_bool (by simp), hS.1⟩

end Go.Proofs.Ytpfkacmogggemaa
