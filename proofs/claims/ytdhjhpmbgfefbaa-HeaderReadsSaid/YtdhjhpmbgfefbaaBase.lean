/-
  Small words on worlds, memory and endings that every later text uses.
-/
import Derived.Test.YtdhjhpmbgfefbaaProg
import Derived.WalkKit
import Derived.ProofKit
import Derived.Deep.QuietTactic
import Derived.BigQuiet
import Derived.Lib.Hide
import Derived.Outline
namespace Go.Proofs.Ytdhjhpmbgfefbaa
open Go.RowKit

theorem qt {w : World} {m n : Nat} : ∃ k, (w.drewN m).drewN n = w.drewN k := ⟨m + n, World.drewN_drewN _ _ _⟩
theorem qb {w : World} {n : Nat} : Below w.heap.size w (w.drewN n) := ⟨rfl, rfl, rfl, Nat.le_refl _, fun _ _ => rfl⟩

/-- Closes 'Below' over the blocks and draws of a walk. -/
theorem below_drewN' {B : Nat} {a w : World} (h : Below B a w) (n : Nat) : Below B a (w.drewN n) := ⟨h.os, h.tape, h.output, h.size, h.block⟩

theorem ret_int {k : IntKind} {a b : Int} (h : a = b) : Ending.returned (.int k a) = .returned (.int k b) := by rw [h]
theorem ret_bool {a b : Bool} (h : a = b) : Ending.returned (.bool a) = .returned (.bool b) := by rw [h]

theorem ival {k : IntKind} {a b : Int} (h : a = b) : Value.int k a = .int k b := by rw [h]
theorem bval {a b : Bool} (h : a = b) : Value.bool a = .bool b := by rw [h]
theorem ret_two {a b c d : Value} (h : a = c) (g : b = d) : Ending.returned (.tuple #[a, b]) = .returned (.tuple #[c, d]) := by rw [h, g]
theorem ret_three {a b c d x y : Value} (h : a = c) (g : b = d) (k : x = y) : Ending.returned (.tuple #[a, b, x]) = .returned (.tuple #[c, d, y]) := by rw [h, g, k]

theorem bcell {W w1 : World} (hb : Below W.heap.size W w1) : (∀ b o, b < W.heap.size → w1.cell? ⟨b, o, none⟩ = W.cell? ⟨b, o, none⟩) ∧ (∀ b o, b < W.heap.size → w1.frozen? ⟨b, o, none⟩ = W.frozen? ⟨b, o, none⟩) :=
  ⟨fun b o h => hb.cell (p := ⟨b, o, none⟩) h, fun b o h => hb.frozen (p := ⟨b, o, none⟩) h⟩

theorem cell_lt {w : World} {b o : Nat} {v : Value} (h : w.cell? ⟨b, o, none⟩ = some v) : b < w.heap.size := by
  rcases Nat.lt_or_ge b w.heap.size with h' | h'
  · exact h'
  · simp [World.cell?, Array.getElem?_eq_none h'] at h

theorem cell_keep {W W' : World} {b o : Nat} {v : Value} (hb : Below W.heap.size W W') (h : W.cell? ⟨b, o, none⟩ = some v) : W'.cell? ⟨b, o, none⟩ = some v := by
  rw [hb.cell (p := ⟨b, o, none⟩) (cell_lt h)]; exact h

theorem size_keep {W W' : World} {n : Nat} (hb : Below W.heap.size W W') (h : n < W.heap.size) : n < W'.heap.size := Nat.lt_of_lt_of_le h hb.size

theorem below_keep {w W W' : World} (hb : Below W.heap.size W W') (h : Below w.heap.size w W) : Below w.heap.size w W' := h.trans (hb.mono h.size)

theorem mk_list (b : ByteArray) : (⟨b.data.toList.toArray⟩ : ByteArray) = b := by obtain ⟨⟨l⟩⟩ := b; rfl

theorem size_mk (l : List UInt8) : (ByteArray.mk l.toArray).size = l.length := rfl

theorem quiet_w {P : Program} {f : FuncId} {args : Array Value} {w : World} {n : Nat} {v : Value}
    (h : Calls P f args (w.drewN n) fun e w' => e = .returned v ∧ w.drewN n = w') : Calls P f args (w.drewN n) fun e w'' => e = .returned v ∧ ∃ m, w'' = w.drewN m :=
  h.mono fun _ _ ⟨he, hm⟩ => ⟨he, n, hm.symm⟩

/-- A slice of numbers as it lies in memory: zs are its elements. -/
def RowK (k : IntKind) (w : World) (a : Option Addr) (len : Nat) (zs : List Int) : Prop :=
  zs.length = len ∧ (∀ n ∈ zs, k.min ≤ n ∧ n ≤ k.max) ∧ (0 < len → ∃ b off, a = some ⟨b, off, none⟩ ∧ ∀ i (_ : i < zs.length), w.cell? ⟨b, off + i, none⟩ = some (.int k zs[i]))

theorem RowK.keep {k : IntKind} {w w' : World} {a : Option Addr} {len : Nat} {zs : List Int} (hb : Below w.heap.size w w') (h : RowK k w a len zs) : RowK k w' a len zs := by
  obtain ⟨h1, h2, h3⟩ := h
  refine ⟨h1, h2, fun hl => ?_⟩
  obtain ⟨b, off, ha, hc⟩ := h3 hl
  exact ⟨b, off, ha, fun i hi => cell_keep hb (hc i hi)⟩

theorem RowK.drewN {k : IntKind} {w : World} {a : Option Addr} {len : Nat} {zs : List Int} (h : RowK k w a len zs) (n : Nat) : RowK k (w.drewN n) a len zs := h

theorem RowK.len {k : IntKind} {w : World} {a : Option Addr} {len : Nat} {zs : List Int} (h : RowK k w a len zs) : zs.length = len := h.1

theorem RowK.at {k : IntKind} {w : World} {a : Option Addr} {len : Nat} {zs : List Int} (h : RowK k w a len zs) {i : Nat} (hi : i < len) :
    ∃ b off, ∃ z : Int, a = some ⟨b, off, none⟩ ∧ zs[i]? = some z ∧ k.min ≤ z ∧ z ≤ k.max ∧ w.cell? ⟨b, off + i, none⟩ = some (.int k z) := by
  obtain ⟨h1, h2, h3⟩ := h
  obtain ⟨b, off, ha, hc⟩ := h3 (by omega)
  have hi' : i < zs.length := by omega
  obtain ⟨h4, h5⟩ := h2 _ (List.getElem_mem hi')
  exact ⟨b, off, zs[i], ha, List.getElem?_eq_getElem hi', h4, h5, hc i hi'⟩

theorem RowK.at0 {k : IntKind} {w : World} {g len : Nat} {zs : List Int} (h : RowK k w (some ⟨g, 0, none⟩) len zs) {i : Nat} (hi : i < len) :
    ∃ z : Int, zs[i]? = some z ∧ k.min ≤ z ∧ z ≤ k.max ∧ w.cell? ⟨g, i, none⟩ = some (.int k z) := by
  obtain ⟨b, off, z, ha, h1, h2, h3, h4⟩ := h.at hi
  obtain ⟨rfl, rfl⟩ : g = b ∧ 0 = off := by simpa using ha
  rw [Nat.zero_add] at h4
  exact ⟨z, h1, h2, h3, h4⟩

/-- A slice that was just written out. -/
theorem RowK.new (k : IntKind) (w : World) (zs : List Int) (t : TypeId) (h : ∀ n ∈ zs, k.min ≤ n ∧ n ≤ k.max) : RowK k (w.alloc (.cells (zs.map (Value.int k)).toArray t)) (some ⟨w.heap.size, 0, none⟩) zs.length zs :=
  ⟨rfl, h, fun _ => ⟨_, _, rfl, fun i hi => by simp [go_sem, hi]⟩⟩

end Go.Proofs.Ytdhjhpmbgfefbaa
