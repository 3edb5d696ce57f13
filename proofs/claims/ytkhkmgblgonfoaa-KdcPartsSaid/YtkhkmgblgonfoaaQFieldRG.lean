/-
  What Bytes, Number, Short and Octet of the document's answer for fields return.
-/
import Derived.Test.YtkhkmgblgonfoaaQFieldR
namespace Go.Proofs.Ytkhkmgblgonfoaa
open Go.RowKit

theorem ori (a b : Int) (a0 : 0 ≤ a) (a1 : a ≤ 16777215) (b0 : 0 ≤ b) (b1 : b ≤ 255) : bits .or .i64 (a * 256) b = a * 256 + b := by
  obtain ⟨m, rfl⟩ := Int.eq_ofNat_of_zero_le a0
  obtain ⟨n, rfl⟩ := Int.eq_ofNat_of_zero_le b0
  have e : ((m : Int) * 256) = ((m * 256 : Nat) : Int) := by omega
  rw [e]
  have hor : m * 256 ||| n = m * 256 + n := by
    have := Nat.two_pow_add_eq_or_of_lt (i := 8) (b := n) (by omega) m
    rw [Nat.mul_comm m 256]
    exact this.symm
  have h1 : (BitVec.ofInt 64 ((m * 256 : Nat) : Int)).toNat = m * 256 := by
    rw [BitVec.ofInt_natCast, BitVec.toNat_ofNat]; exact Nat.mod_eq_of_lt (by omega)
  have h2 : (BitVec.ofInt 64 (n : Int)).toNat = n := by
    rw [BitVec.ofInt_natCast, BitVec.toNat_ofNat]; exact Nat.mod_eq_of_lt (by omega)
  show IntKind.i64.wrap ((BitVec.ofInt 64 ((m * 256 : Nat) : Int) ||| BitVec.ofInt 64 (n : Int)).toNat : Int) = _
  rw [BitVec.toNat_or, h1, h2, hor, IntKind.wrap_i64]
  omega
theorem ori0 (b : Int) (b0 : 0 ≤ b) (b1 : b ≤ 255) : bits .or .i64 0 b = b := by
  have := ori 0 b (by decide) (by decide) b0 b1
  simpa using this

/-- What Bytes returns. -/
def BytesAt (zs : List Int) (at' n : Int) (w : World) (e : Ending) (w' : World) : Prop :=
  ∃ A m cap, e = .returned (.tuple #[.slice A m cap, .int .i64 (S5.byN zs at' n), .int .i64 (S5.byE zs at' n)]) ∧ Sl w' A m cap (S5.byS zs at' n) ∧ Below w.heap.size w w' ∧ Fresh w.heap.size A


/-- The bytes that are read, one by one. -/
theorem getR {w : World} {b off k cap : Nat} {xs : List Int} (h : Sl w (some ⟨b, off, none⟩) k cap xs) {i : Nat} (hi : i < k) : ∃ z, xs[i]? = some z ∧ 0 ≤ z ∧ z ≤ 255 ∧ w.cell? ⟨b, off + i, none⟩ = some (.int .u8 z) := by
  obtain ⟨b', off', z, ha, hz, h1, h2, hc⟩ := h.row.at hi
  cases ha
  exact ⟨z, hz, h1, h2, hc⟩

/-- What a number's reading returns. -/
def NumOut (zs : List Int) (at' : Int) (k : Nat) (l : Bool) (w : World) (e : Ending) (w' : World) : Prop :=
  e = .returned (.tuple #[.int .i64 (S5.getV zs at' k l), .int .i64 (S5.getN zs at' k), .int .i64 (S5.getE zs at' k)]) ∧ Below w.heap.size w w'


end Go.Proofs.Ytkhkmgblgonfoaa
