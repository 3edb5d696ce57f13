/-
  Slices of texts that a call makes and appends to, one text a time.
-/
import Derived.Test.YtkhkmgblgonfoaaQBase
import Derived.OwnWalk
import Derived.Maps.AppendAt
namespace Go.Proofs.Ytkhkmgblgonfoaa
open Go.RowKit

/-- The call's own slice v of texts. -/
def OwnS (e : TypeId) (w : World) (base : Nat) (v : Value) (ss : List ByteArray) : Prop := w.ownsRow base e 1 v ss.length (ss.map Value.string)

theorem OwnS.nil (e : TypeId) (w : World) (base : Nat) : OwnS e w base (.slice none 0 0) [] := World.ownsRow_nil w base e 1
theorem OwnS.lt {e : TypeId} {w : World} {base : Nat} {v : Value} {ss : List ByteArray} (h : OwnS e w base v ss) : ∀ b, v.ownBlock = some b → base ≤ b ∧ b < w.heap.size := World.ownsRow.lt h

/-- Where the texts lie. -/
theorem OwnS.cells {e : TypeId} {w : World} {base : Nat} {v : Value} {ss : List ByteArray} (h : OwnS e w base v ss) (hn : 0 < ss.length) :
    ∃ g cap, v = .slice (some ⟨g, 0, none⟩) ss.length cap ∧ base ≤ g ∧ ∀ i (_ : i < ss.length), w.cell? ⟨g, i, none⟩ = some (.string ss[i]) := by
  have hc := fun g hg => World.ownsRow.cells (g := g) h hg
  have hl := h.lt
  rcases h.2 with ⟨rfl, h2⟩ | ⟨g, cap, cur, rfl, hg, _⟩
  · omega
  · refine ⟨g, cap, rfl, hg, fun i hi => ?_⟩
    have h := hc g rfl i (.string ss[i]) (by simp [hi])
    unfold Addr.add at h
    by_cases e0 : i = 0
    · subst e0; simpa using h
    · simpa [e0] using h

/-- 'append(v, s)', s laid in a block of its own first (W: the world before). -/
theorem wpList_pushS {P : Program} {w : World} {ops : Array Oper} {rest : List Oper} {o : Oper} {a : Act} {Q : Exit → Act → World → Prop} (hgd : o.guard = none) (s x : Operand) (t : TypeId)
    (ho : o.op = .call { callee := .builtin .append, args := #[s, x], argTypes := #[t, t] })
    (e : TypeId) (ht : P.underlying t = some (.slice e)) (hi : (P.info? e).map (fun i => (i.zero, i.size, i.bytes)) = some (some (.string ⟨#[]⟩), 1, 16))
    (base : Nat) (v : Value) (ss : List ByteArray) (n : ByteArray) (hs : a.eval s = v) {W : World} {T : TypeId} (hw : w = W.alloc (.cells #[.string n] T)) (hx : a.eval x = .slice (some ⟨W.heap.size, 0, none⟩) 1 1)
    (hown : OwnS e W base v ss) (h63 : ss.length < 1000000) (hbase : base ≤ W.heap.size)
    (h : ∀ v' w', OwnS e w' base v' (ss ++ [n]) → w.grownBy w' v.ownBlock → wpList P ops Q rest (a.put o.dst v') w') :
    wpList P ops Q (o :: rest) a w := by
  subst hw
  obtain ⟨i, hi, hz0, hz1, hz2⟩ := info_parts hi
  refine wpList_append_own_at (W.alloc (.cells #[.string n] T)) hgd s x t ho base e i (.string ⟨#[]⟩) 1 16 ht hi hz0 hz1 hz2 rfl (by decide) v ss.length (ss.map Value.string) hs (World.ownsRow.alloc hown _) ⟨W.heap.size, 0, none⟩ 1 1 [.string n] hx rfl (cell_one_new _ _ _)
    (by intro u hu; simp at hu; subst hu; rfl) (by unfold maxLen; omega) (by omega) (by simp; omega) ?_
  intro v' w' h1 h2 _ _
  exact h v' w' (by unfold OwnS; simpa using h1) h2

theorem OwnS.pushed {e : TypeId} {w0 W w' : World} {T : TypeId} {n : ByteArray} {v : Value} {ss : List ByteArray} (h : Below w0.heap.size w0 W) (hown : OwnS e W w0.heap.size v ss) (hg : (W.alloc (.cells #[.string n] T)).grownBy w' v.ownBlock) : Below w0.heap.size w0 w' :=
  (h.alloc h.size _).grown hg (by have := h.size; simp; omega) (fun b hb => (hown.lt b hb).1)
theorem OwnS.base {e : TypeId} {w : World} {base base' : Nat} {v : Value} {ss : List ByteArray} (h : OwnS e w base v ss) (hb : base' ≤ base) : OwnS e w base' v ss := by
  obtain ⟨h1, h2⟩ := h
  refine ⟨h1, ?_⟩
  rcases h2 with h2 | ⟨g, cap, cur, rfl, hg, r⟩
  · exact .inl h2
  · exact .inr ⟨g, cap, cur, rfl, Nat.le_trans hb hg, r⟩

end Go.Proofs.Ytkhkmgblgonfoaa
