/-
  A set of numbers that a call keeps in a map of its own from numbers to bools: made, put into, asked.
-/
import Derived.Test.YtlmifbbmppenoaaBase
import Derived.Maps.Own
import Derived.Maps.OwnSet
import Derived.Maps.OwnOps
namespace Go.Proofs.Ytlmifbbmppenoaa
open Go.RowKit Go.Maps

/-- Block b of w is a map with at most n entries that says true at the numbers of S and false, or nothing, at the others. -/
def Bag (P : Program) (q : IntKind) (k e : TypeId) (w : World) (b n : Nat) (S : List Int) : Prop :=
  ∃ D : DataW Unit, w.ownsMap P k (plainElem P e) b n D ∧ ∀ x, q.min ≤ x → x ≤ q.max → D.atKey (.int q x) (.lit (.bool false)) = .lit (.bool (decide (x ∈ S)))

theorem run_makeMap_hint {P : Program} {t k e : TypeId} (ht : P.underlying t = some (.map k e)) (w : World) (n : Int) : (Instr.makeMap t (some (.int .i64 n))).run P w = .ok (.map (some w.heap.size)) (w.alloc (.map #[] 0)) := by
  simp [Instr.makeMap, run_underlying ht, asInt, asIntOf, Result.andThen]

theorem Bag.made (P : Program) (q : IntKind) (k e : TypeId) (w : World) : Bag P q k e (w.alloc (.map #[] 0)) w.heap.size 0 [] :=
  ⟨.map [], World.ownsMap_made _ _ _ _, fun _ _ _ => by simp [DataW.atKey]⟩

theorem Bag.lt {P : Program} {q : IntKind} {k e : TypeId} {w : World} {b n : Nat} {S : List Int} (h : Bag P q k e w b n S) : b < w.heap.size := by
  obtain ⟨D, h, _⟩ := h; exact h.lt

theorem Bag.keep {P : Program} {q : IntKind} {k e : TypeId} {w w' : World} {b n : Nat} {S : List Int} (hb : Below w.heap.size w w') (h : Bag P q k e w b n S) : Bag P q k e w' b n S := by
  have hl := h.lt
  obtain ⟨D, ⟨es, clock, h1, h2⟩, h3⟩ := h
  exact ⟨D, ⟨es, clock, by rw [hb.block b hl]; exact h1, h2⟩, h3⟩

theorem boolElem_inv {P : Program} {e : TypeId} (he : P.underlying e = some .bool) {v : Value} {z : DataW Unit × List MemPlace} (h : plainElem P e v = some z) : ∃ x, v = .bool x ∧ z.1 = .lit (.bool x) := by
  unfold plainElem at h
  rw [he] at h
  cases v <;> simp at h
  subst h
  exact ⟨_, rfl, rfl⟩

theorem Bag.run_look {P : Program} {q : IntKind} {t k e : TypeId} {w : World} {b n : Nat} {S : List Int} (h : Bag P q k e w b n S) (hk : P.underlying k = some (.int q)) (he : P.underlying e = some .bool) (ht : P.underlying t = some (.map k e))
    (hz : (zeroValue e).run P w = .ok (.bool false) w) (x : Int) (h0 : q.min ≤ x) (h1 : x ≤ q.max) :
    (Instr.lookup t (.map (some b)) (.int q x) false).run P w = .ok (.bool (decide (x ∈ S))) w := by
  obtain ⟨D, hown, hD⟩ := h
  have hwf : (Lit.int q x).wf = true := by simp [Lit.wf, h0, h1]
  obtain ⟨v, ps, hrun, hv⟩ := hown.lookup (int_keyed hk) ht hz (plainElem_bool he false) (keyOf_int_mk hk hwf)
  obtain ⟨y, rfl, hy⟩ := boolElem_inv he hv
  rw [hD x h0 h1] at hy
  have : decide (x ∈ S) = y := by simpa using hy
  rw [this]; exact hrun

/-- 'm[k]', the number x: whether it is in the set. -/
theorem wpList_bag_look {P : Program} {w : World} {ops : Array Oper} {rest : List Oper} {o : Oper} {a : Act} {Q : Exit → Act → World → Prop}
    (hg : o.guard = none) (m x : Operand) (t : TypeId) (hop : o.op = Op.lookup t m x false) {q : IntKind} {k e : TypeId} (hk : P.underlying k = some (.int q)) (he : P.underlying e = some .bool) (ht : P.underlying t = some (.map k e))
    (hz : (zeroValue e).run P w = .ok (.bool false) w) {b n : Nat} {S : List Int} (h : Bag P q k e w b n S) (hm : a.eval m = .map (some b)) {z : Int} (hx : a.eval x = .int q z) (h0 : q.min ≤ z) (h1 : z ≤ q.max)
    (hK : wpList P ops Q rest (a.put o.dst (.bool (decide (z ∈ S)))) w) : wpList P ops Q (o :: rest) a w := by
  refine wpList_plain hg fun K' hK' => ?_
  have hrun := h.run_look hk he ht hz z h0 h1
  unfold Oper.wp
  simp [execOp, hop, hm, hx, hrun, Result.andThen]
  exact hK' _ _ hK

/-- 'm[k] = true', the number x: the set with x. -/
theorem wpList_bag_put {P : Program} {w : World} {ops : Array Oper} {rest : List Oper} {o : Oper} {a : Act} {Q : Exit → Act → World → Prop}
    (hg : o.guard = none) (m x v : Operand) (t : TypeId) (hop : o.op = Op.mapUpdate t m x v) {q : IntKind} {k e : TypeId} (hk : P.underlying k = some (.int q)) (he : P.underlying e = some .bool) (ht : P.underlying t = some (.map k e))
    {b n : Nat} {S : List Int} (h : Bag P q k e w b n S) (hn : n < maxLen) (hm : a.eval m = .map (some b)) {z : Int} (hx : a.eval x = .int q z) (hv : a.eval v = .bool true) (h0 : q.min ≤ z) (h1 : z ≤ q.max)
    (hK : ∀ w', Bag P q k e w' b (n + 1) (S ++ [z]) → w.grownBy w' (some b) → wpList P ops Q rest (a.put o.dst undef) w') : wpList P ops Q (o :: rest) a w := by
  obtain ⟨D, hown, hD⟩ := h
  have hwf : (Lit.int q z).wf = true := by simp [Lit.wf, h0, h1]
  refine wpList_mapUpdate_own w hg m x v t hop k e (int_keyed hk) ht (plainElem P e) b n D hm hown hn _ _ (.int q z) hx hv (keyOf_int_mk hk hwf) (.lit (.bool true)) [] (plainElem_bool he true) ?_
  intro w' h1' h2'
  refine hK w' ⟨_, h1', fun y y0 y1 => ?_⟩ h2'
  by_cases e1 : y = z
  · subst e1
    rw [atKey_put_same hown.isMap (show WideAt.IsKeyLit (.int q y) from trivial)]; simp
  · rw [atKey_put_other (by intro e2; injection e2; contradiction), hD y y0 y1]
    simp [e1]

end Go.Proofs.Ytlmifbbmppenoaa
