/-
  Arguments: KdcRequest.
-/
import Derived.Test.YtkhkmgblgonfoaaQOpen
import Derived.Test.YtkhkmgblgonfoaaQFieldPlain
namespace Go.Proofs.Ytkhkmgblgonfoaa
set_option maxRecDepth 100000
open Go.ChangeShapes Go.WideShapes Go.ChangeAt Go.RowKit

theorem arr_request {cs : Array Value} {a b c d e f g h : Value} (hn : cs.size = 8) (h0 : cs[0]? = some a) (h1 : cs[1]? = some b) (h2 : cs[2]? = some c) (h3 : cs[3]? = some d) (h4 : cs[4]? = some e) (h5 : cs[5]? = some f) (h6 : cs[6]? = some g) (h7 : cs[7]? = some h) :
    cs = #[a, b, c, d, e, f, g, h] := by
  obtain ⟨l⟩ := cs
  match l, hn with
  | [_, _, _, _, _, _, _, _], _ => simp at h0 h1 h2 h3 h4 h5 h6 h7; subst h0 h1 h2 h3 h4 h5 h6 h7; rfl

theorem okw_request {w : World} {r : Reach} {b : Nat} {v : Value} (h : Value.okWide Try.prog w r b 25 v) : ∃ t : S9q.Rq, v = t.val ∧ t.Fit := by
  obtain ⟨cs, rfl, hn, hi⟩ := okw_agg (ts := [4, 9, 9, 9, 3, 3, 9, 9]) (.inl ⟨_, Try.underlying25⟩) (by kernel_rfl) (by kernel_rfl) h
  obtain ⟨x0, e0, k0⟩ := hi 0 _ rfl
  obtain ⟨x1, e1, k1⟩ := hi 1 _ rfl
  obtain ⟨x2, e2, k2⟩ := hi 2 _ rfl
  obtain ⟨x3, e3, k3⟩ := hi 3 _ rfl
  obtain ⟨x4, e4, k4⟩ := hi 4 _ rfl
  obtain ⟨x5, e5, k5⟩ := hi 5 _ rfl
  obtain ⟨x6, e6, k6⟩ := hi 6 _ rfl
  obtain ⟨x7, e7, k7⟩ := hi 7 _ rfl
  obtain ⟨f0, rfl⟩ := cellw_bool Try.underlying4 k0
  obtain ⟨f1, rfl, g1⟩ := cellw_string Try.underlying9 k1
  obtain ⟨f2, rfl, g2⟩ := cellw_string Try.underlying9 k2
  obtain ⟨f3, rfl, g3⟩ := cellw_string Try.underlying9 k3
  obtain ⟨f4, rfl, l4, u4⟩ := cellw_int Try.underlying3 k4
  obtain ⟨f5, rfl, l5, u5⟩ := cellw_int Try.underlying3 k5
  obtain ⟨f6, rfl, g6⟩ := cellw_string Try.underlying9 k6
  obtain ⟨f7, rfl, g7⟩ := cellw_string Try.underlying9 k7
  refine ⟨⟨f0, f1, f2, f3, f4, f5, f6, f7⟩, ?_, ⟨g1, g2, g3, ⟨l4, u4⟩, ⟨l5, u5⟩, g6, g7⟩⟩
  rw [arr_request hn e0 e1 e2 e3 e4 e5 e6 e7]; rfl

end Go.Proofs.Ytkhkmgblgonfoaa
