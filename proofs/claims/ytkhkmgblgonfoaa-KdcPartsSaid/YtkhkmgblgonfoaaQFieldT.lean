/-
  What bytes.IndexByte returns for a zero byte; what Text of package field returns.
-/
import Derived.Test.YtkhkmgblgonfoaaQFieldB
import Derived.Lib.BytesEntry
import Derived.Lib.IndexLaws
namespace Go.Proofs.Ytkhkmgblgonfoaa
open Go.RowKit
set_option maxRecDepth 100000

theorem ofInt_zero {z : Int} (h0 : 0 ≤ z) (h1 : z ≤ 255) : UInt8.ofNat z.toNat = 0 ↔ z = 0 := by
  constructor
  · intro h
    have h2 := congrArg UInt8.toNat h
    rw [UInt8.toNat_ofNat', Nat.mod_eq_of_lt (by omega)] at h2
    have : z.toNat = 0 := h2
    omega
  · rintro rfl; rfl
theorem bytesOf_at (xs : List Int) (k : Nat) : (Lib.bytesOf xs)[k]? = xs[k]?.map fun z => UInt8.ofNat z.toNat := by
  unfold Lib.bytesOf; rw [List.getElem?_map]
/-- The place of the first zero. -/
def zeroAt (xs : List Int) : Int := Lib.indexByte (Lib.bytesOf xs) 0
theorem zero_none {xs : List Int} (h : zeroAt xs = -1) : ∀ i, i < xs.length → ∃ z, xs[i]? = some z ∧ z ≠ 0 := by
  intro i hi
  refine ⟨xs[i], List.getElem?_eq_getElem hi, fun e => ?_⟩
  have := Lib.indexByte_none h i
  rw [bytesOf_at, List.getElem?_eq_getElem hi] at this
  apply this
  rw [e]; rfl
theorem zero_some {xs : List Int} (hx : ∀ z ∈ xs, 0 ≤ z ∧ z ≤ 255) {o : Nat} (h : zeroAt xs = o) : o < xs.length ∧ xs[o]? = some 0 ∧ ∀ i, i < o → ∃ z, xs[i]? = some z ∧ z ≠ 0 := by
  obtain ⟨h1, h2⟩ := Lib.indexByte_some h
  have ho : o < xs.length := by
    rcases Nat.lt_or_ge o xs.length with q | q
    · exact q
    · rw [bytesOf_at, List.getElem?_eq_none q] at h1; cases h1
  refine ⟨ho, ?_, fun i hi => ⟨xs[i], List.getElem?_eq_getElem (by omega), fun e => ?_⟩⟩
  · rw [bytesOf_at, List.getElem?_eq_getElem ho] at h1
    have h3 : UInt8.ofNat (xs[o]).toNat = 0 := by simpa using h1
    obtain ⟨q0, q1⟩ := hx _ (List.getElem_mem ho)
    rw [List.getElem?_eq_getElem ho, (ofInt_zero q0 q1).1 h3]
  · have h3 := h2 i hi
    rw [bytesOf_at, List.getElem?_eq_getElem (by omega)] at h3
    apply h3
    rw [e]; rfl
theorem zeroAt_cases (xs : List Int) : zeroAt xs = -1 ∨ ∃ o : Nat, zeroAt xs = o := by
  have := Lib.indexByte_ge (Lib.bytesOf xs) 0
  unfold zeroAt
  by_cases h : Lib.indexByte (Lib.bytesOf xs) 0 = -1
  · exact .inl h
  · exact .inr ⟨(Lib.indexByte (Lib.bytesOf xs) 0).toNat, by omega⟩

theorem run_index_empty {P : Program} (w : World) (A : Option Addr) (c : Nat) : (Extern.BytealgIndexByte.indexByte #[.slice A 0 c, .int .u8 0]).run P w = .ok (.int .i64 (-1)) w := by
  rcases A with _ | a
  · exact Lib.run_indexByteNil w 0 c 0
  · have hl := Lib.run_loadBytesX (P := P) w [] a .empty (fun j x hj => by simp at hj)
    have hs := Lib.run_indexByteString (P := P) .empty 0 w
    have he : (⟨ByteArray.empty.data ++ (Lib.bytesOf []).toArray⟩ : ByteArray) = .empty := by
      apply ByteArray.ext
      show (#[] : Array UInt8) ++ (Lib.bytesOf []).toArray = #[]
      simp [Lib.bytesOf]
    rw [he] at hl
    change Sem.run P (do
      let b ← Extern.Bytes.bytesOf (.slice (some a) 0 c)
      let c ← Extern.Bytes.asByte (.int .u8 0)
      match (List.range b.size).find? fun i => b[i]! == c with
      | some i => pure (goInt i)
      | none => pure (goInt (-1))) w = _
    change Sem.run P (do
      let b ← Extern.Bytes.bytesOf (.string .empty)
      let c ← Extern.Bytes.asByte (.int .u8 0)
      match (List.range b.size).find? fun i => b[i]! == c with
      | some i => pure (goInt i)
      | none => pure (goInt (-1))) w = _ at hs
    simp only [Extern.Bytes.bytesOf, Sem.run_bind, Sem.run_pure, Result.andThen] at hs ⊢
    rw [show (0 : Nat) = ([] : List Int).length from rfl, hl]
    exact hs

theorem bindex_empty (A : Option Addr) (c : Nat) (w : World) : Calls Try.prog 95 #[.slice A 0 c, .int .u8 0] w fun e w' => e = .returned (.int .i64 (-1)) ∧ w = w' := by
  go_enter Try.func95, Try.ntmps95
  go_wp2
  rw [run_callFunc_extern Try.func101 (by kernel_rfl) (by kernel_rfl) (by kernel_rfl) (e := Extern.BytealgIndexByte.indexByte) (by kernel_rfl), run_index_empty]
  simp only [Result.andThen]
  rw [Oper.upon_value]
  go_wp2
  go_ret
  exact ⟨rfl, rfl⟩

theorem bindex_any (b off n c : Nat) (xs : List Int) (w : World) (h : RowK .u8 w (some ⟨b, off, none⟩) n xs) : Calls Try.prog 95 #[.slice (some ⟨b, off, none⟩) n c, .int .u8 0] w fun e w' => e = .returned (.int .i64 (zeroAt xs)) ∧ w = w' := by
  have hx := h.len
  have hc : ∀ i, i < n → w.cell? ⟨b, off + i, none⟩ = some (.int .u8 (xs.getD i 0)) := by
    intro i hi
    obtain ⟨b', off', z, ha, hz, _, _, hc⟩ := h.at hi
    cases ha
    rw [List.getD, hz]; exact hc
  have HR := Lib.hid (Lib.run_indexByteSlice (P := Try.prog) w b off n c xs hx hc 0)
  clear hx hc h
  go_enter Try.func95, Try.ntmps95
  go_wp2
  rw [run_callFunc_extern Try.func101 (by kernel_rfl) (by kernel_rfl) (by kernel_rfl) (e := Extern.BytealgIndexByte.indexByte) (by kernel_rfl), HR.out]
  simp only [Result.andThen]
  rw [Oper.upon_value]
  go_wp2
  go_ret
  exact ⟨rfl, rfl⟩

theorem free_of {zs : List Int} {k q m : Nat} (hm : m ≤ q) (h : ∀ i, i < m → ∃ z, ((zs.drop k).take q)[i]? = some z ∧ z ≠ 0) : S5.Free zs (k : Int) m := by
  intro i hi
  obtain ⟨z, h1, h2⟩ := h i hi
  rw [List.getElem?_take, if_pos (by omega), List.getElem?_drop] at h1
  exact ⟨z, h1, h2⟩

def TextOut (zs : List Int) (at' : Int) (w : World) (e : Ending) (w' : World) : Prop :=
  e = .returned (.tuple #[.string (strOfNums (S5.txS zs at')), .int .i64 (S5.txN zs at'), .int .i64 (S5.txE zs at')]) ∧ w = w'

set_option maxHeartbeats 1600000 in
theorem ftextQ_any (A : Option Addr) (bn cap : Nat) (zs : List Int) (at' : Int) (w : World) (h : Sl w A bn cap zs) (hn : bn ≤ 100000) : Calls Try.prog 77 #[.slice A bn cap, .int .i64 at'] w (TextOut zs at' w) := by
  have hl := Lib.hid h.len
  have hcap := h.2.1
  have hcm := h.2.2.1
  unfold maxLen at hcm
  by_cases hr : at' < 0 ∨ (bn : Int) < at'
  · have HT := Lib.hid (S5.tx_range (zs := zs) (at' := at') (by rw [hl.out]; exact hr))
    have N := Lib.hid (fisIndex_no A bn cap at' w hr)
    clear hr
    go_enter Try.func77, Try.ntmps77
    go_wp2_with (go_at_call 94; refine N.out.mono ?_; rintro e w' ⟨rfl, rfl⟩)
    go_ret3
    exact ⟨by rw [HT.out.1, HT.out.2.1, HT.out.2.2]; rfl, rfl⟩
  · obtain ⟨k, rfl⟩ := Int.eq_ofNat_of_zero_le (show 0 ≤ at' by omega)
    have hk : k ≤ bn := by omega
    have hrz : ¬ ((k : Int) < 0 ∨ (zs.length : Int) < (k : Int)) := by rw [hl.out]; exact hr
    have Y := Lib.hid (fisIndex_yes A bn cap k w hk)
    replace hrz := Lib.hid hrz
    clear hr
    rcases Nat.eq_or_lt_of_le hk with hkb | hkb
    · have HT := Lib.hid (S5.tx_end (m := 0) hrz.out (by decide) (S5.Free.zero zs (k : Int)) (by rw [hl.out]; omega))
      have hd : bn - k = 0 := by omega
      by_cases hck : cap = k
      · subst hck
        subst hkb
        go_enter Try.func77, Try.ntmps77
        go_wp2_with (first | (go_at_call 94; refine Y.out.mono ?_; rintro e w' ⟨rfl, rfl⟩) | (go_at_call 95; refine (bindex_empty _ _ _).mono ?_; rintro e w' ⟨rfl, rfl⟩))
        go_ret3
        exact ⟨by rw [HT.out.1, HT.out.2.1, HT.out.2.2]; rfl, rfl⟩
      · obtain ⟨b, off, rfl⟩ : ∃ b off, A = some ⟨b, off, none⟩ := by
          rcases h.2.2.2 with ⟨h1, h2⟩ | h1
          · omega
          · exact h1
        subst hkb
        go_enter Try.func77, Try.ntmps77
        go_wp2_with (first | (go_at_call 94; refine Y.out.mono ?_; rintro e w' ⟨rfl, rfl⟩) | (go_at_call 95; refine (bindex_empty _ _ _).mono ?_; rintro e w' ⟨rfl, rfl⟩))
        go_ret3
        exact ⟨by rw [HT.out.1, HT.out.2.1, HT.out.2.2]; rfl, rfl⟩
    · have hck : ¬ cap = k := by omega
      obtain ⟨b, off, rfl⟩ : ∃ b off, A = some ⟨b, off, none⟩ := by
        obtain ⟨b, off, _, e, _⟩ := h.row.at (i := 0) (by omega)
        exact ⟨b, off, e⟩
      by_cases hq : bn - k < 40
      · have hqi : (bn : Int) - (k : Int) < 40 := by omega
        have hR := Lib.hid (h.row.part k (bn - k) (by omega))
        rcases zeroAt_cases ((zs.drop k).take (bn - k)) with hz | ⟨o, hz⟩
        · have hfr := zero_none hz
          have HF := free_of (zs := zs) (Nat.le_refl _) (fun i hi => hfr i (by rw [hR.out.len]; exact hi))
          have HT := Lib.hid (S5.tx_end (m := bn - k) hrz.out (by omega) HF (by rw [hl.out]; omega))
          have hY := bindex_any b (off + k) (bn - k) (cap - k) _ w hR.out
          rw [hz] at hY
          replace hY := Lib.hid hY
          clear hfr hz HF
          go_enter Try.func77, Try.ntmps77
          go_wp2_with (first | (go_at_call 94; refine Y.out.mono ?_; rintro e w' ⟨rfl, rfl⟩) | (go_at_call 95; refine hY.out.mono ?_; rintro e w' ⟨rfl, rfl⟩))
          go_ret3
          exact ⟨by rw [HT.out.1, HT.out.2.1, HT.out.2.2]; rfl, rfl⟩
        · have hzs := zero_some (fun z hz => h.range z (List.mem_of_mem_drop (List.mem_of_mem_take hz))) hz
          have hoq : o < bn - k := by have := hzs.1; rw [hR.out.len] at this; exact this
          have hz0 : zs[(k : Int).toNat + o]? = some 0 := by
            have h2 := hzs.2.1
            rw [List.getElem?_take, if_pos hoq, List.getElem?_drop] at h2
            exact h2
          have HF := free_of (zs := zs) (Nat.le_of_lt hoq) hzs.2.2
          have HT := Lib.hid (S5.tx_hit hrz.out (by omega) HF hz0)
          have hY := bindex_any b (off + k) (bn - k) (cap - k) _ w hR.out
          rw [hz] at hY
          replace hY := Lib.hid hY
          have hcv := conv_at (cap := cap - k) (h.row.part k o (by omega))
          have hok : k + o ≤ cap := by omega
          clear hzs hz HF hz0
          go_enter Try.func77, Try.ntmps77
          go_wp2_with (first | (go_at_call 94; refine Y.out.mono ?_; rintro e w' ⟨rfl, rfl⟩) | (go_at_call 95; refine hY.out.mono ?_; rintro e w' ⟨rfl, rfl⟩))
          go_ret3
          exact ⟨by rw [HT.out.1, HT.out.2.1, HT.out.2.2]; rfl, rfl⟩
      · rcases Nat.eq_or_lt_of_le (show 40 ≤ bn - k by omega) with hq2 | hq2
        · obtain rfl : bn = k + 40 := by omega
          clear hq2
          have hS : k + 40 - k = 40 := by omega
          have hR := Lib.hid (h.row.part k (40) (by omega))
          rcases zeroAt_cases ((zs.drop k).take (40)) with hz | ⟨o, hz⟩
          · have hfr := zero_none hz
            have HF := free_of (zs := zs) (Nat.le_refl _) (fun i hi => hfr i (by rw [hR.out.len]; exact hi))
            have HT := Lib.hid (S5.tx_long hrz.out HF)
            have hY := bindex_any b (off + k) (40) (cap - k) _ w hR.out
            rw [hz] at hY
            replace hY := Lib.hid hY
            clear hfr hz HF
            go_enter Try.func77, Try.ntmps77
            go_wp2_with (first | (go_at_call 94; refine Y.out.mono ?_; rintro e w' ⟨rfl, rfl⟩) | (go_at_call 95; refine hY.out.mono ?_; rintro e w' ⟨rfl, rfl⟩))
            go_ret3
            exact ⟨by rw [HT.out.1, HT.out.2.1, HT.out.2.2]; rfl, rfl⟩
          · have hzs := zero_some (fun z hz => h.range z (List.mem_of_mem_drop (List.mem_of_mem_take hz))) hz
            have hoq : o < 40 := by have := hzs.1; rw [hR.out.len] at this; exact this
            have hz0 : zs[(k : Int).toNat + o]? = some 0 := by
              have h2 := hzs.2.1
              rw [List.getElem?_take, if_pos hoq, List.getElem?_drop] at h2
              exact h2
            have HF := free_of (zs := zs) (Nat.le_of_lt hoq) hzs.2.2
            have HT := Lib.hid (S5.tx_hit hrz.out (by omega) HF hz0)
            have hY := bindex_any b (off + k) (40) (cap - k) _ w hR.out
            rw [hz] at hY
            replace hY := Lib.hid hY
            have hcv := conv_at (cap := cap - k) (h.row.part k o (by omega))
            have hok : k + o ≤ cap := by omega
            clear hzs hz HF hz0
            go_enter Try.func77, Try.ntmps77
            go_wp2_with (first | (go_at_call 94; refine Y.out.mono ?_; rintro e w' ⟨rfl, rfl⟩) | (go_at_call 95; refine hY.out.mono ?_; rintro e w' ⟨rfl, rfl⟩))
            go_ret3
            exact ⟨by rw [HT.out.1, HT.out.2.1, HT.out.2.2]; rfl, rfl⟩
        · have hqi : 40 < (bn : Int) - (k : Int) := by omega
          have hR := Lib.hid (h.row.part k (40) (by omega))
          rcases zeroAt_cases ((zs.drop k).take (40)) with hz | ⟨o, hz⟩
          · have hfr := zero_none hz
            have HF := free_of (zs := zs) (Nat.le_refl _) (fun i hi => hfr i (by rw [hR.out.len]; exact hi))
            have HT := Lib.hid (S5.tx_long hrz.out HF)
            have hY := bindex_any b (off + k) (40) (cap - k) _ w hR.out
            rw [hz] at hY
            replace hY := Lib.hid hY
            clear hfr hz HF
            go_enter Try.func77, Try.ntmps77
            go_wp2_with (first | (go_at_call 94; refine Y.out.mono ?_; rintro e w' ⟨rfl, rfl⟩) | (go_at_call 95; refine hY.out.mono ?_; rintro e w' ⟨rfl, rfl⟩))
            go_ret3
            exact ⟨by rw [HT.out.1, HT.out.2.1, HT.out.2.2]; rfl, rfl⟩
          · have hzs := zero_some (fun z hz => h.range z (List.mem_of_mem_drop (List.mem_of_mem_take hz))) hz
            have hoq : o < 40 := by have := hzs.1; rw [hR.out.len] at this; exact this
            have hz0 : zs[(k : Int).toNat + o]? = some 0 := by
              have h2 := hzs.2.1
              rw [List.getElem?_take, if_pos hoq, List.getElem?_drop] at h2
              exact h2
            have HF := free_of (zs := zs) (Nat.le_of_lt hoq) hzs.2.2
            have HT := Lib.hid (S5.tx_hit hrz.out (by omega) HF hz0)
            have hY := bindex_any b (off + k) (40) (cap - k) _ w hR.out
            rw [hz] at hY
            replace hY := Lib.hid hY
            have hcv := conv_at (cap := cap - k) (h.row.part k o (by omega))
            have hok : k + o ≤ cap := by omega
            clear hzs hz HF hz0
            go_enter Try.func77, Try.ntmps77
            go_wp2_with (first | (go_at_call 94; refine Y.out.mono ?_; rintro e w' ⟨rfl, rfl⟩) | (go_at_call 95; refine hY.out.mono ?_; rintro e w' ⟨rfl, rfl⟩))
            go_ret3
            exact ⟨by rw [HT.out.1, HT.out.2.1, HT.out.2.2]; rfl, rfl⟩

theorem ftext_any (A : Option Addr) (bn cap : Nat) (zs : List Int) (at' : Int) (w : World) (h : Sl w A bn cap zs) (hn : bn ≤ 100000) :
    Calls Try.prog 77 #[.slice A bn cap, .int .i64 at'] w fun e w' => e = .returned (.tuple #[.string (strOfNums (S5.txS zs at')), .int .i64 (S5.txN zs at'), .int .i64 (S5.txE zs at')]) ∧ Below w.heap.size w w' :=
  (ftextQ_any A bn cap zs at' w h hn).mono fun e w' ⟨he, hw⟩ => ⟨he, by subst hw; exact Below.refl _ _⟩

end Go.Proofs.Ytkhkmgblgonfoaa
