/-
  What Bytes and Read of the document's answer for keys return.
-/
import Derived.Test.YtkhkmgblgonfoaaDoorQKeyR
import Derived.Test.YtkhkmgblgonfoaaDoorQKeyPlain
import Derived.Test.YtkhkmgblgonfoaaDoorQBase
namespace Go.Proofs.YtkhkmgblgonfoaaDoor
open Go.RowKit

theorem u8_info : (Tryd.prog.info? 5).map (fun i => (i.zero, i.size, i.bytes)) = some (some (.int .u8 0), 1, 1) := by kernel_rfl

/-- The bytes of a key, in a row of their own. -/
def BytesRowR (k : Int) (w : World) (e : Ending) (w' : World) : Prop := ∃ g cap, e = .returned (.slice (some ⟨g, 0, none⟩) 8 cap) ∧ w.heap.size ≤ g ∧ RowK .u8 w' (some ⟨g, 0, none⟩) 8 (S3.bytes8 k) ∧ Below w.heap.size w w'

theorem Own.at8 {W : World} {base : Nat} {v : Value} {zs : List Int} {e : TypeId} (h : Own .u8 e W base v zs) (hz : ∀ n ∈ zs, IntKind.u8.min ≤ n ∧ n ≤ IntKind.u8.max) (h8 : zs.length = 8) :
    ∃ g cap, v = .slice (some ⟨g, 0, none⟩) 8 cap ∧ base ≤ g ∧ RowK .u8 W (some ⟨g, 0, none⟩) 8 zs := by
  obtain ⟨a, n, cap, hv, hr, _⟩ := h.row hz
  have hn : n = 8 := hr.len.symm.trans h8
  subst hn
  have hl := h.lt
  rcases h.2 with ⟨h', _⟩ | ⟨g', cap', cur, h', _⟩
  · rw [hv] at h'; injection h' with _ h' _; omega
  · rw [h'] at hv hl
    injection hv with e1 e2 e3
    subst e1
    exact ⟨g', cap', by rw [h', e2], (hl g' rfl).1, hr⟩



end Go.Proofs.YtkhkmgblgonfoaaDoor
