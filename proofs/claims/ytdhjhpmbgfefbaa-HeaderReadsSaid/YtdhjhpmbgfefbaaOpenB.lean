/-
  Arguments that are slices of bytes, with their room; arrays of two bytes.
-/
import Derived.Test.YtdhjhpmbgfefbaaOpen
import Derived.Test.YtdhjhpmbgfefbaaSl
namespace Go.Proofs.Ytdhjhpmbgfefbaa
set_option maxRecDepth 100000
open Go.ChangeShapes Go.WideShapes Go.ChangeAt Go.RowKit

/-- A slice of bytes that came in. -/
theorem isSl_of {H : Type} {enc : TypeId × Value → H} {P : Program} {w : World} {n0 : Nat} {h : Bool} {t e : TypeId} {d : DataW H} {p : List MemPlace} {a : Option Addr} {len cap : Nat}
    (ht : P.underlying t = some (.slice e)) (he : P.underlying e = some (.int .u8)) (hc : P.cellsOf e = 1) (m : DataW.Trod enc P w n0 (fun _ => true) h t (.slice a len cap) d p) : ∃ zs, Sl w a len cap zs := by
  have m' := m
  obtain ⟨zs, hr, _⟩ := isRowK_of ht he hc m
  obtain ⟨fuel, hf⟩ := m'
  rcases open_ints ht he hc hf with ⟨hcs, _⟩ | ⟨x, l, c, ys, hcs, _, hl, hm, hz, _, hcell, _⟩
  · simp [Value.cells] at hcs
    obtain ⟨rfl, rfl, rfl⟩ := hcs
    exact ⟨zs, hr, Nat.le_refl _, by decide, .inl ⟨rfl, rfl⟩⟩
  · simp [Value.cells] at hcs
    obtain ⟨rfl, rfl, rfl⟩ := hcs
    rcases Nat.eq_zero_or_pos cap with h0 | h0
    · subst h0
      have hl0 : len = 0 := by omega
      exact ⟨zs, hr, hl, hm, .inl ⟨hl0, rfl⟩⟩
    · have hz' : ys.length = cap := by simpa using hz
      obtain ⟨b, off, spot⟩ := x
      have h0 := hcell 0 (by omega)
      have hs : spot = none := by simpa [Addr.add] using World.cell?_spot h0
      subst hs
      exact ⟨zs, hr, hl, hm, .inr ⟨b, off, rfl⟩⟩



end Go.Proofs.Ytdhjhpmbgfefbaa
