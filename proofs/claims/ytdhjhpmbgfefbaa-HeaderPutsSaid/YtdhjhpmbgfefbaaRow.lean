/-
  Slices of numbers that a call makes and appends to, one element a time.
-/
import Derived.Test.YtdhjhpmbgfefbaaBase
import Derived.OwnWalk
import Derived.Maps.AppendAt
namespace Go.Proofs.Ytdhjhpmbgfefbaa
open Go.RowKit

/-- The call's own slice v of numbers zs, in a block from base on. -/
def Own (k : IntKind) (e : TypeId) (w : World) (base : Nat) (v : Value) (zs : List Int) : Prop := w.ownsRow base e 1 v zs.length (zs.map (Value.int k))

theorem Own.nil (k : IntKind) (e : TypeId) (w : World) (base : Nat) : Own k e w base (.slice none 0 0) [] := World.ownsRow_nil w base e 1

theorem Own.lt {k : IntKind} {e : TypeId} {w : World} {base : Nat} {v : Value} {zs : List Int} (h : Own k e w base v zs) : ∀ b, v.ownBlock = some b → base ≤ b ∧ b < w.heap.size := World.ownsRow.lt h

theorem Own.kept {k : IntKind} {e : TypeId} {w w' : World} {base : Nat} {v : Value} {zs : List Int} {row : Option Nat} (h : Own k e w base v zs) (hg : w.grownBy w' row) (hne : v.ownBlock = none ∨ v.ownBlock ≠ row) : Own k e w' base v zs :=
  World.ownsRow.kept h hg hne

theorem Own.below {k : IntKind} {e : TypeId} {w w' : World} {base : Nat} {v : Value} {zs : List Int} (hb : Below w.heap.size w w') (h : Own k e w base v zs) : Own k e w' base v zs := by
  have hl := h.lt
  obtain ⟨h1, h2⟩ := h
  refine ⟨h1, ?_⟩
  rcases h2 with h2 | ⟨g, cap, cur, rfl, hg, hh, r⟩
  · exact .inl h2
  · refine .inr ⟨g, cap, cur, rfl, hg, ?_, r⟩
    rw [hb.block g (hl g rfl).2]; exact hh

/-- As a slice that is read. -/
theorem Own.row {k : IntKind} {e : TypeId} {w : World} {base : Nat} {v : Value} {zs : List Int} (h : Own k e w base v zs) (hz : ∀ n ∈ zs, k.min ≤ n ∧ n ≤ k.max) :
    ∃ a n cap, v = .slice a n cap ∧ RowK k w a n zs ∧ n ≤ maxLen := by
  have hc := fun g hg => World.ownsRow.cells (g := g) h hg
  obtain ⟨h1, h2⟩ := h
  rcases h2 with ⟨rfl, h2⟩ | ⟨g, cap, cur, rfl, hg, hh, hn, hm, r⟩
  · have : zs = [] := List.eq_nil_of_length_eq_zero h2
    subst this
    exact ⟨none, 0, 0, rfl, ⟨rfl, hz, fun h => absurd h (by decide)⟩, by decide⟩
  · refine ⟨_, _, _, rfl, ⟨rfl, hz, fun _ => ⟨g, 0, rfl, fun i hi => ?_⟩⟩, by omega⟩
    have h := hc g rfl i (.int k zs[i]) (by simp [hi])
    unfold Addr.add at h
    by_cases e0 : i = 0
    · subst e0; simpa using h
    · simpa [e0] using h

/-- 'append(v, n)', n laid in a block of its own first (W: the world before). -/
theorem wpList_push {P : Program} {w : World} {ops : Array Oper} {rest : List Oper} {o : Oper} {a : Act} {Q : Exit → Act → World → Prop} (hgd : o.guard = none) (s x : Operand) (t : TypeId)
    (ho : o.op = .call { callee := .builtin .append, args := #[s, x], argTypes := #[t, t] })
    (k : IntKind) (e : TypeId) (bytes : Nat) (ht : P.underlying t = some (.slice e)) (hi : (P.info? e).map (fun i => (i.zero, i.size, i.bytes)) = some (some (.int k 0), 1, bytes))
    (base : Nat) (v : Value) (zs : List Int) (n : Int) (hs : a.eval s = v) {W : World} {T : TypeId} (hw : w = W.alloc (.cells #[.int k n] T)) (hx : a.eval x = .slice (some ⟨W.heap.size, 0, none⟩) 1 1)
    (hown : Own k e W base v zs) (h63 : zs.length < 1000000) (hb8 : bytes ≤ 8) (hbase : base ≤ W.heap.size)
    (h : ∀ v' w', Own k e w' base v' (zs ++ [n]) → w.grownBy w' v.ownBlock → (v'.ownBlock = v.ownBlock ∨ v'.ownBlock = some w.heap.size) → wpList P ops Q rest (a.put o.dst v') w') :
    wpList P ops Q (o :: rest) a w := by
  subst hw
  obtain ⟨i, hi, hz0, hz1, hz2⟩ := info_parts hi
  refine wpList_append_own_at (W.alloc (.cells #[.int k n] T)) hgd s x t ho base e i (.int k 0) 1 bytes ht hi hz0 hz1 hz2 rfl (by decide) v zs.length (zs.map (Value.int k)) hs (World.ownsRow.alloc hown _) ⟨W.heap.size, 0, none⟩ 1 1 [.int k n] hx rfl (cell_one_new _ _ _)
    (by intro u hu; simp at hu; subst hu; rfl) (by unfold maxLen; omega) (by have : (zs.length + 1) * bytes ≤ 1000001 * 8 := Nat.mul_le_mul (by omega) hb8; omega) (by simp; omega) ?_
  intro v' w' h1 h2 _ h3
  exact h v' w' (by unfold Own; simpa using h1) h2 h3

/-- Behind a push: 'Below'. -/
theorem Own.pushed {k : IntKind} {e : TypeId} {w0 W w' : World} {T : TypeId} {n : Int} {v : Value} {zs : List Int} (h : Below w0.heap.size w0 W) (hown : Own k e W w0.heap.size v zs) (hg : (W.alloc (.cells #[.int k n] T)).grownBy w' v.ownBlock) : Below w0.heap.size w0 w' :=
  (h.alloc h.size _).grown hg (by have := h.size; simp; omega) (fun b hb => (hown.lt b hb).1)

/-- A slice of the call's own that is not the one that grows. -/
theorem Own.beside {k k' : IntKind} {e : TypeId} {W w' : World} {T : TypeId} {n : Int} {base : Nat} {u v : Value} {zs : List Int} (h : Own k e W base u zs) (hg : (W.alloc (.cells #[.int k' n] T)).grownBy w' v.ownBlock) (hne : u.ownBlock = none ∨ u.ownBlock ≠ v.ownBlock) : Own k e w' base u zs :=
  Own.kept (w := W.alloc (.cells #[.int k' n] T)) (World.ownsRow.alloc h _) hg hne

/-- Two slices that do not lie in one block of the call's own. -/
def Apart (u v : Value) : Prop := ∀ b, u.ownBlock = some b → v.ownBlock ≠ some b

theorem Apart.symm {u v : Value} (h : Apart u v) : Apart v u := fun b h1 h2 => h b h2 h1
theorem Apart.out {u v : Value} (h : Apart u v) : u.ownBlock = none ∨ u.ownBlock ≠ v.ownBlock := by
  rcases e : u.ownBlock with _ | b
  · exact .inl rfl
  · exact .inr fun h' => h b e h'.symm
theorem Apart.nil (v : Value) (a b : Nat) : Apart (.slice none a b) v := fun _ h => by cases h
theorem Apart.step {u v v' : Value} {n m : Nat} (h : Apart u v) (hv : v'.ownBlock = v.ownBlock ∨ v'.ownBlock = some n) (hu : ∀ b, u.ownBlock = some b → m ≤ b ∧ b < n) : Apart u v' := by
  intro b hb
  rcases hv with e | e
  · rw [e]; exact h b hb
  · intro h'; rw [e] at h'; have e2 : n = b := by simpa using h'
    have := (hu b hb).2; omega

theorem take_map_snoc (f : Int → Int) (l : List Int) (k : Nat) (z : Int) (h : l[k]? = some z) : (l.take (k + 1)).map f = (l.take k).map f ++ [f z] := by
  rw [List.take_add_one, h]; simp

theorem len_take_map (f : Int → Int) (l : List Int) (k n : Nat) (h : l.length = n) (hk : k ≤ n) : ((l.take k).map f).length = k := by simp; omega

end Go.Proofs.Ytdhjhpmbgfefbaa
