/-
  Slices of bytes with their room; made texts.
-/
import Derived.Test.YtdhjhpmbgfefbaaPush
import Derived.Laws.BytesArg
namespace Go.Proofs.Ytdhjhpmbgfefbaa
open Go.RowKit

/-- A slice of bytes: its elements, its room, and what is known of its address. -/
def Sl (w : World) (A : Option Addr) (n cap : Nat) (zs : List Int) : Prop := RowK .u8 w A n zs ∧ n ≤ cap ∧ cap ≤ maxLen ∧ (n = 0 ∧ cap = 0 ∨ ∃ b off, A = some ⟨b, off, none⟩)

theorem Sl.row {w : World} {A : Option Addr} {n cap : Nat} {zs : List Int} (h : Sl w A n cap zs) : RowK .u8 w A n zs := h.1
theorem Sl.keep {w w' : World} {A : Option Addr} {n cap : Nat} {zs : List Int} (hb : Below w.heap.size w w') (h : Sl w A n cap zs) : Sl w' A n cap zs := ⟨h.1.keep hb, h.2⟩
theorem Sl.len {w : World} {A : Option Addr} {n cap : Nat} {zs : List Int} (h : Sl w A n cap zs) : zs.length = n := h.1.len
theorem Sl.max {w : World} {A : Option Addr} {n cap : Nat} {zs : List Int} (h : Sl w A n cap zs) : n ≤ maxLen := Nat.le_trans h.2.1 h.2.2.1
theorem Sl.range {w : World} {A : Option Addr} {n cap : Nat} {zs : List Int} (h : Sl w A n cap zs) : ∀ z ∈ zs, 0 ≤ z ∧ z ≤ 255 := h.1.2.1
theorem Sl.nil (w : World) : Sl w none 0 0 [] := ⟨RowK.empty _ _ _, Nat.le_refl _, by decide, .inl ⟨rfl, rfl⟩⟩
theorem Sl.drew {w : World} {A : Option Addr} {n cap : Nat} {zs : List Int} (h : Sl w A n cap zs) : Sl w.drew A n cap zs := h

/-- A row of the call's own as such a slice. -/
theorem Own.sl {e : TypeId} {w : World} {base : Nat} {v : Value} {zs : List Int} (h : Own .u8 e w base v zs) (hz : ∀ n ∈ zs, 0 ≤ n ∧ n ≤ 255) : ∃ A n cap, v = .slice A n cap ∧ Sl w A n cap zs := by
  obtain ⟨a, n, cap, hv, h1, h2, h3, _, h4⟩ := h.reads hz
  exact ⟨a, n, cap, hv, h1, h2, h3, h4.imp (fun h => h.2) id⟩

/-- A new row written out. -/
theorem Sl.new (w : World) (zs : List Int) (t : TypeId) (h : ∀ n ∈ zs, 0 ≤ n ∧ n ≤ 255) (hm : zs.length ≤ maxLen) : Sl (w.alloc (.cells (zs.map (Value.int .u8)).toArray t)) (some ⟨w.heap.size, 0, none⟩) zs.length zs.length zs :=
  ⟨RowK.new .u8 w zs t h, Nat.le_refl _, hm, .inr ⟨_, _, rfl⟩⟩

/-- The text of such a slice. -/
theorem conv_sl {w : World} {A : Option Addr} {n cap : Nat} {zs : List Int} (h : Sl w A n cap zs) : (convert 22 9 (.slice A n cap)).run Try.prog w = .ok (.string (strOfNums zs)) w := by
  obtain ⟨h1, _, _, h2⟩ := h
  rcases h2 with ⟨rfl, rfl⟩ | ⟨b, off, rfl⟩
  · have : zs = [] := List.eq_nil_of_length_eq_zero h1.len
    subst this
    rcases A with _ | x
    · exact run_convert_bytes_nil w _ _ Try.underlying22 Try.underlying5 0 0 _ Try.underlying9
    · have hl : (loadCells x 0).run Try.prog w = .ok #[] w := by simp [loadCells, loadCellsFrom]
      rw [run_convert_bytes_string w _ _ 5 _ 0 0 Try.underlying22 Try.underlying5 Try.underlying9, run_bytesToString w _ 0 0 [] (by simpa using hl)]
      rfl
  · refine run_convert_bytes_arg _ _ _ Try.underlying22 Try.underlying5 b off n cap zs h1.len (fun i hi => ?_) _ Try.underlying9
    obtain ⟨b', off', z, ha, hz, _, _, hc⟩ := h1.at hi
    cases ha
    rw [List.getD, hz]
    exact hc

theorem strOfNums_inj {xs ys : List Int} (hx : ∀ n ∈ xs, 0 ≤ n ∧ n ≤ 255) (hy : ∀ n ∈ ys, 0 ≤ n ∧ n ≤ 255) (h : strOfNums xs = strOfNums ys) : xs = ys := by
  have h' : xs.map (fun n => UInt8.ofNat n.toNat) = ys.map (fun n => UInt8.ofNat n.toNat) := by rw [← strOfNums_data, ← strOfNums_data, h]
  have back : ∀ l : List Int, (∀ n ∈ l, 0 ≤ n ∧ n ≤ 255) → (l.map fun n => UInt8.ofNat n.toNat).map (fun c => (c.toNat : Int)) = l := by
    intro l hl
    rw [List.map_map]
    refine (List.map_congr_left (g := id) fun n hn => ?_).trans (List.map_id l)
    obtain ⟨h0, h1⟩ := hl n hn
    show (((UInt8.ofNat n.toNat).toNat : Nat) : Int) = n
    rw [UInt8.toNat_ofNat', Nat.mod_eq_of_lt (by omega)]; omega
  rw [← back xs hx, ← back ys hy, h']

theorem or16 (a b : Int) (a0 : 0 ≤ a) (a1 : a ≤ 255) (b0 : 0 ≤ b) (b1 : b ≤ 255) : bits .or .i64 (a * 256) b = a * 256 + b := by
  obtain ⟨m, rfl⟩ := Int.eq_ofNat_of_zero_le a0
  obtain ⟨n, rfl⟩ := Int.eq_ofNat_of_zero_le b0
  have e : ((m : Int) * 256) = ((m * 256 : Nat) : Int) := by omega
  rw [e]
  have hor : m * 256 ||| n = m * 256 + n := by
    have := Nat.two_pow_add_eq_or_of_lt (i := 8) (b := n) (by omega) m
    rw [Nat.mul_comm m 256]
    exact this.symm
  have h1 : (BitVec.ofInt 64 ((m * 256 : Nat) : Int)).toNat = m * 256 := by
    rw [BitVec.ofInt_natCast, BitVec.toNat_ofNat]; exact Nat.mod_eq_of_lt (by omega)
  have h2 : (BitVec.ofInt 64 (n : Int)).toNat = n := by
    rw [BitVec.ofInt_natCast, BitVec.toNat_ofNat]; exact Nat.mod_eq_of_lt (by omega)
  show IntKind.i64.wrap ((BitVec.ofInt 64 ((m * 256 : Nat) : Int) ||| BitVec.ofInt 64 (n : Int)).toNat : Int) = _
  rw [BitVec.toNat_or, h1, h2, hor, IntKind.wrap_i64]
  omega
theorem xor8_range (a b : Int) : 0 ≤ bits .xor .u8 a b ∧ bits .xor .u8 a b ≤ 255 := by
  show 0 ≤ IntKind.u8.wrap _ ∧ IntKind.u8.wrap _ ≤ 255
  rw [IntKind.wrap_u8]; omega

theorem u8_infoB : (Try.prog.info? 5).map (fun i => (i.zero, i.size, i.bytes)) = some (some (.int .u8 0), 1, 1) := by kernel_rfl

/-- A slice in a block from base on, or in none. -/
def Fresh (base : Nat) (A : Option Addr) : Prop := ∀ b off, A = some ⟨b, off, none⟩ → base ≤ b
theorem Fresh.nil (base : Nat) : Fresh base none := fun _ _ h => by cases h
theorem Fresh.le {base base' : Nat} {A : Option Addr} (h : Fresh base A) (hb : base' ≤ base) : Fresh base' A := fun b off e => Nat.le_trans hb (h b off e)

theorem Own.slf {e : TypeId} {w : World} {base : Nat} {v : Value} {zs : List Int} (h : Own .u8 e w base v zs) (hz : ∀ n ∈ zs, 0 ≤ n ∧ n ≤ 255) : ∃ A n cap, v = .slice A n cap ∧ Sl w A n cap zs ∧ Fresh base A := by
  obtain ⟨A, n, cap, hv, hs⟩ := h.sl hz
  refine ⟨A, n, cap, hv, hs, fun b off e => ?_⟩
  subst e
  have hl := h.lt
  rcases h.2 with ⟨h', _⟩ | ⟨g, cap', cur, h', _⟩
  · rw [hv] at h'; cases h'
  · rw [h'] at hl; rw [hv] at h'; cases h'
    exact (hl _ rfl).1

theorem RowK.part {k : IntKind} {w : World} {b off n : Nat} {zs : List Int} (h : RowK k w (some ⟨b, off, none⟩) n zs) (lo m : Nat) (hm : lo + m ≤ n) : RowK k w (some ⟨b, off + lo, none⟩) m ((zs.drop lo).take m) :=
  (h.rest lo (by omega) (a' := some ⟨b, off + lo, none⟩) (fun b' off' e _ => by cases e; rfl)).cut m (by omega)

theorem grown_set (w : World) (p : Addr) (x : Value) : w.grownBy (w.setCell p x) (some p.block) :=
  ⟨rfl, rfl, rfl, by simp [World.setCell], fun i _ hne => Below.heap_setCell _ _ _ _ (by intro e; exact hne (by rw [e]))⟩
theorem Own.outside {k : IntKind} {e : TypeId} {w : World} {base : Nat} {v : Value} {zs : List Int} (h : Own k e w base v zs) {p : Addr} (hp : p.block < base) (x : Value) : Own k e (w.setCell p x) base v zs := by
  refine h.kept (grown_set w p x) ?_
  rcases hv : v.ownBlock with _ | b
  · exact .inl rfl
  · refine .inr fun e => ?_
    have := (h.lt b hv).1
    have e2 : b = p.block := by simpa using e
    omega

theorem Sl.outside {w : World} {A : Option Addr} {n cap : Nat} {zs : List Int} (h : Sl w A n cap zs) {base : Nat} (hf : Fresh base A) {p : Addr} (hp : p.block < base) (x : Value) : Sl (w.setCell p x) A n cap zs :=
  ⟨h.1.beside (grown_set w p x) (fun b off e => by have := hf b off e; intro e'; cases e'; omega), h.2⟩

/-- A part of a row of the call's own, from its beginning on. -/
theorem Own.part {k : IntKind} {e : TypeId} {w : World} {base g n cap : Nat} {zs : List Int} (h : Own k e w base (.slice (some ⟨g, 0, none⟩) n cap) zs) (m : Nat) (hm : m ≤ n) : Own k e w base (.slice (some ⟨g, 0, none⟩) m cap) (zs.take m) := by
  obtain ⟨h1, h2⟩ := h
  rcases h2 with ⟨h2, _⟩ | ⟨g', cap', cur, h2, hg, hh, hn, hc, hs, ht⟩
  · cases h2
  · cases h2
    simp only [Nat.mul_one, List.length_map] at h1 ht
    have hlen : (zs.take m).length = m := by simp; omega
    refine ⟨by simp, .inr ⟨g, cap, cur, by rw [hlen], hg, hh, by rw [hlen]; omega, hc, hs, ?_⟩⟩
    rw [hlen, Nat.mul_one, List.map_take, ← ht, List.take_take]
    congr 1; omega

theorem RowK.drew {k : IntKind} {w : World} {a : Option Addr} {n : Nat} {zs : List Int} (h : RowK k w a n zs) : RowK k w.drew a n zs := h

theorem Own.slN {e : TypeId} {w : World} {base n : Nat} {v : Value} {zs : List Int} (h : Own .u8 e w base v zs) (hz : ∀ n ∈ zs, 0 ≤ n ∧ n ≤ 255) (hl : zs.length = n) : ∃ A cap, v = .slice A n cap ∧ Sl w A n cap zs ∧ Fresh base A := by
  obtain ⟨A, m, cap, hv, hs, hf⟩ := h.slf hz
  have hm : m = n := hs.len.symm.trans hl
  subst hm
  exact ⟨A, cap, hv, hs, hf⟩
theorem Own.slG {e : TypeId} {w : World} {base n : Nat} {v : Value} {zs : List Int} (h : Own .u8 e w base v zs) (hz : ∀ n ∈ zs, 0 ≤ n ∧ n ≤ 255) (hl : zs.length = n) (hn : 0 < n) : ∃ g cap, v = .slice (some ⟨g, 0, none⟩) n cap ∧ Sl w (some ⟨g, 0, none⟩) n cap zs ∧ base ≤ g := by
  obtain ⟨A, cap, hv, hs, _⟩ := h.slN hz hl
  have hl' := h.lt
  rcases h.2 with ⟨h', _⟩ | ⟨g, cap', cur, h', _⟩
  · rw [hv] at h'; cases h'; omega
  · rw [h'] at hl'; rw [hv] at h'; cases h'
    exact ⟨g, cap, hv, hs, (hl' _ rfl).1⟩

/-- A slice of bytes of at most m. -/
def SomeB (m : Nat) (w : World) (e : Ending) (w' : World) : Prop :=
  ∃ A n cap ys, e = .returned (.slice A n cap) ∧ Sl w' A n cap ys ∧ n ≤ m ∧ Below w.heap.size w w' ∧ Fresh w.heap.size A

def sliceLen : Value → Nat
  | .slice _ n _ => n
  | _ => 0

/-- The beginning of a slice of bytes. -/
theorem Sl.cut {w : World} {A : Option Addr} {n cap : Nat} {zs : List Int} (h : Sl w A n cap zs) (m : Nat) (hm : m ≤ n) : Sl w A m cap (zs.take m) := by
  refine ⟨h.1.cut m hm, Nat.le_trans hm h.2.1, h.2.2.1, ?_⟩
  rcases h.2.2.2 with ⟨h1, h2⟩ | h1
  · exact .inl ⟨by omega, h2⟩
  · exact .inr h1

end Go.Proofs.Ytdhjhpmbgfefbaa
