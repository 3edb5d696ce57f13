/-
  Arguments that are slices of bytes, with their room; arrays of two bytes.
-/
import Derived.Test.YtcbneeckbpgmgaaOpen
import Derived.Test.YtcbneeckbpgmgaaSl
namespace Go.Proofs.Ytcbneeckbpgmgaa
open Go.ChangeShapes Go.WideShapes Go.ChangeAt Go.RowKit

/-- A slice of bytes that came in. -/
theorem isSl_of {H : Type} {enc : TypeId × Value → H} {P : Program} {w : World} {n0 : Nat} {h : Bool} {t e : TypeId} {d : DataW H} {p : List MemPlace} {a : Option Addr} {len cap : Nat}
    (ht : P.underlying t = some (.slice e)) (he : P.underlying e = some (.int .u8)) (hc : P.cellsOf e = 1) (m : DataW.Trod enc P w n0 (fun _ => true) h t (.slice a len cap) d p) : ∃ zs, Sl w a len cap zs := by
  have m' := m
  obtain ⟨zs, hr, _⟩ := isRowK_of ht he hc m
  obtain ⟨fuel, hf⟩ := m'
  rcases open_ints ht he hc hf with ⟨hcs, _⟩ | ⟨x, l, c, ys, hcs, _, hl, hm, hz, _, hcell, _⟩
  · simp [Value.cells] at hcs
    obtain ⟨rfl, rfl, rfl⟩ := hcs
    exact ⟨zs, hr, Nat.le_refl _, by decide, .inl ⟨rfl, rfl⟩⟩
  · simp [Value.cells] at hcs
    obtain ⟨rfl, rfl, rfl⟩ := hcs
    rcases Nat.eq_zero_or_pos cap with h0 | h0
    · subst h0
      have hl0 : len = 0 := by omega
      exact ⟨zs, hr, hl, hm, .inl ⟨hl0, rfl⟩⟩
    · have hz' : ys.length = cap := by simpa using hz
      obtain ⟨b, off, spot⟩ := x
      have h0 := hcell 0 (by omega)
      have hs : spot = none := by simpa [Addr.add] using World.cell?_spot h0
      subst hs
      exact ⟨zs, hr, hl, hm, .inr ⟨b, off, rfl⟩⟩

theorem arr2 {cs : Array Value} {a b : Value} (h : cs.size = 2) (h0 : cs[0]? = some a) (h1 : cs[1]? = some b) : cs = #[a, b] := by
  obtain ⟨l⟩ := cs
  match l, h with
  | [x, y], _ => simp at h0 h1; subst h0 h1; rfl

/-- An array of two bytes. -/
theorem okw_arr2 {w : World} {r : Reach} {b : Nat} {v : Value} (h : Value.okWide Try.prog w r b 46 v) :
    ∃ x y : Int, v = .agg #[.int .u8 x, .int .u8 y] ∧ 0 ≤ x ∧ x ≤ 255 ∧ 0 ≤ y ∧ y ≤ 255 := by
  obtain ⟨cs, rfl, hn, hi⟩ := okw_agg (ts := [5, 5]) (.inr ⟨_, _, Try.underlying46⟩) (by kernel_rfl) (by kernel_rfl) h
  obtain ⟨x0, e0, k0⟩ := hi 0 _ rfl
  obtain ⟨x1, e1, k1⟩ := hi 1 _ rfl
  obtain ⟨a, rfl, ha⟩ := cellw_int Try.underlying5 k0
  obtain ⟨c, rfl, hc⟩ := cellw_int Try.underlying5 k1
  exact ⟨a, c, by rw [arr2 hn e0 e1], ha.1, ha.2, hc.1, hc.2⟩

end Go.Proofs.Ytcbneeckbpgmgaa
