/-
  Slices of bytes with their room; made texts.
-/
import Derived.Test.YtcbneeckbpgmgaaPush
import Derived.Laws.BytesArg
namespace Go.Proofs.Ytcbneeckbpgmgaa
open Go.RowKit

/-- A slice of bytes: its elements, its room, and what is known of its address. -/
def Sl (w : World) (A : Option Addr) (n cap : Nat) (zs : List Int) : Prop := RowK .u8 w A n zs ∧ n ≤ cap ∧ cap ≤ maxLen ∧ (n = 0 ∧ cap = 0 ∨ ∃ b off, A = some ⟨b, off, none⟩)

theorem Sl.row {w : World} {A : Option Addr} {n cap : Nat} {zs : List Int} (h : Sl w A n cap zs) : RowK .u8 w A n zs := h.1
theorem Sl.keep {w w' : World} {A : Option Addr} {n cap : Nat} {zs : List Int} (hb : Below w.heap.size w w') (h : Sl w A n cap zs) : Sl w' A n cap zs := ⟨h.1.keep hb, h.2⟩
theorem Sl.len {w : World} {A : Option Addr} {n cap : Nat} {zs : List Int} (h : Sl w A n cap zs) : zs.length = n := h.1.len
theorem Sl.max {w : World} {A : Option Addr} {n cap : Nat} {zs : List Int} (h : Sl w A n cap zs) : n ≤ maxLen := Nat.le_trans h.2.1 h.2.2.1
theorem Sl.range {w : World} {A : Option Addr} {n cap : Nat} {zs : List Int} (h : Sl w A n cap zs) : ∀ z ∈ zs, 0 ≤ z ∧ z ≤ 255 := h.1.2.1
theorem Sl.nil (w : World) : Sl w none 0 0 [] := ⟨RowK.empty _ _ _, Nat.le_refl _, by decide, .inl ⟨rfl, rfl⟩⟩
theorem Sl.drew {w : World} {A : Option Addr} {n cap : Nat} {zs : List Int} (h : Sl w A n cap zs) : Sl w.drew A n cap zs := h

/-- A row of the call's own as such a slice. -/
theorem Own.sl {e : TypeId} {w : World} {base : Nat} {v : Value} {zs : List Int} (h : Own .u8 e w base v zs) (hz : ∀ n ∈ zs, 0 ≤ n ∧ n ≤ 255) : ∃ A n cap, v = .slice A n cap ∧ Sl w A n cap zs := by
  obtain ⟨a, n, cap, hv, h1, h2, h3, _, h4⟩ := h.reads hz
  exact ⟨a, n, cap, hv, h1, h2, h3, h4.imp (fun h => h.2) id⟩

/-- A new row written out. -/
theorem Sl.new (w : World) (zs : List Int) (t : TypeId) (h : ∀ n ∈ zs, 0 ≤ n ∧ n ≤ 255) (hm : zs.length ≤ maxLen) : Sl (w.alloc (.cells (zs.map (Value.int .u8)).toArray t)) (some ⟨w.heap.size, 0, none⟩) zs.length zs.length zs :=
  ⟨RowK.new .u8 w zs t h, Nat.le_refl _, hm, .inr ⟨_, _, rfl⟩⟩

/-- The text of such a slice. -/
theorem conv_sl {w : World} {A : Option Addr} {n cap : Nat} {zs : List Int} (h : Sl w A n cap zs) : (convert 24 9 (.slice A n cap)).run Try.prog w = .ok (.string (strOfNums zs)) w := by
  obtain ⟨h1, _, _, h2⟩ := h
  rcases h2 with ⟨rfl, rfl⟩ | ⟨b, off, rfl⟩
  · have : zs = [] := List.eq_nil_of_length_eq_zero h1.len
    subst this
    rcases A with _ | x
    · exact run_convert_bytes_nil w _ _ Try.underlying24 Try.underlying5 0 0 _ Try.underlying9
    · have hl : (loadCells x 0).run Try.prog w = .ok #[] w := by simp [loadCells, loadCellsFrom]
      rw [run_convert_bytes_string w _ _ 5 _ 0 0 Try.underlying24 Try.underlying5 Try.underlying9, run_bytesToString w _ 0 0 [] (by simpa using hl)]
      rfl
  · refine run_convert_bytes_arg _ _ _ Try.underlying24 Try.underlying5 b off n cap zs h1.len (fun i hi => ?_) _ Try.underlying9
    obtain ⟨b', off', z, ha, hz, _, _, hc⟩ := h1.at hi
    cases ha
    rw [List.getD, hz]
    exact hc

theorem strOfNums_inj {xs ys : List Int} (hx : ∀ n ∈ xs, 0 ≤ n ∧ n ≤ 255) (hy : ∀ n ∈ ys, 0 ≤ n ∧ n ≤ 255) (h : strOfNums xs = strOfNums ys) : xs = ys := by
  have h' : xs.map (fun n => UInt8.ofNat n.toNat) = ys.map (fun n => UInt8.ofNat n.toNat) := by rw [← strOfNums_data, ← strOfNums_data, h]
  have back : ∀ l : List Int, (∀ n ∈ l, 0 ≤ n ∧ n ≤ 255) → (l.map fun n => UInt8.ofNat n.toNat).map (fun c => (c.toNat : Int)) = l := by
    intro l hl
    rw [List.map_map]
    refine (List.map_congr_left (g := id) fun n hn => ?_).trans (List.map_id l)
    obtain ⟨h0, h1⟩ := hl n hn
    show (((UInt8.ofNat n.toNat).toNat : Nat) : Int) = n
    rw [UInt8.toNat_ofNat', Nat.mod_eq_of_lt (by omega)]; omega
  rw [← back xs hx, ← back ys hy, h']

theorem or16 (a b : Int) (a0 : 0 ≤ a) (a1 : a ≤ 255) (b0 : 0 ≤ b) (b1 : b ≤ 255) : bits .or .i64 (a * 256) b = a * 256 + b := by
  obtain ⟨m, rfl⟩ := Int.eq_ofNat_of_zero_le a0
  obtain ⟨n, rfl⟩ := Int.eq_ofNat_of_zero_le b0
  have e : ((m : Int) * 256) = ((m * 256 : Nat) : Int) := by omega
  rw [e]
  have hor : m * 256 ||| n = m * 256 + n := by
    have := Nat.two_pow_add_eq_or_of_lt (i := 8) (b := n) (by omega) m
    rw [Nat.mul_comm m 256]
    exact this.symm
  have h1 : (BitVec.ofInt 64 ((m * 256 : Nat) : Int)).toNat = m * 256 := by
    rw [BitVec.ofInt_natCast, BitVec.toNat_ofNat]; exact Nat.mod_eq_of_lt (by omega)
  have h2 : (BitVec.ofInt 64 (n : Int)).toNat = n := by
    rw [BitVec.ofInt_natCast, BitVec.toNat_ofNat]; exact Nat.mod_eq_of_lt (by omega)
  show IntKind.i64.wrap ((BitVec.ofInt 64 ((m * 256 : Nat) : Int) ||| BitVec.ofInt 64 (n : Int)).toNat : Int) = _
  rw [BitVec.toNat_or, h1, h2, hor, IntKind.wrap_i64]
  omega
theorem xor8_range (a b : Int) : 0 ≤ bits .xor .u8 a b ∧ bits .xor .u8 a b ≤ 255 := by
  show 0 ≤ IntKind.u8.wrap _ ∧ IntKind.u8.wrap _ ≤ 255
  rw [IntKind.wrap_u8]; omega

end Go.Proofs.Ytcbneeckbpgmgaa
