/-
  append of a whole slice of numbers, nil or not, onto a slice that the call owns; parts of slices.
-/
import Derived.Test.YtdhjhpmbgfefbaaRow
import Derived.Lib.AppendZeros
import Derived.RegionTactic
namespace Go.Proofs.Ytdhjhpmbgfefbaa
open Go.RowKit

theorem Own.cap {k : IntKind} {e : TypeId} {w : World} {base : Nat} {v : Value} {zs : List Int} (h : Own k e w base v zs) : ∃ a n c, v = .slice a n c ∧ n = zs.length ∧ n ≤ c ∧ c ≤ maxLen := by
  rcases h.2 with ⟨rfl, h2⟩ | ⟨g, cap, cur, rfl, _, _, h3, h4, _⟩
  · exact ⟨none, 0, 0, rfl, h2.symm, Nat.le_refl _, by decide⟩
  · exact ⟨_, _, _, rfl, rfl, h3, h4⟩

/-- A slice that was just written out belongs to the call. -/
theorem Own.new (k : IntKind) (e : TypeId) {w : World} {base : Nat} (hb : base ≤ w.heap.size) (zs : List Int) (hm : zs.length ≤ maxLen) : Own k e (w.alloc (.cells (zs.map (Value.int k)).toArray e)) base (.slice (some ⟨w.heap.size, 0, none⟩) zs.length zs.length) zs :=
  ⟨by simp, .inr ⟨w.heap.size, zs.length, _, rfl, hb, heap_alloc_new w _, Nat.le_refl _, hm, by simp, by simp [List.take_of_length_le]⟩⟩

theorem Own.drew {k : IntKind} {e : TypeId} {w : World} {base : Nat} {v : Value} {zs : List Int} (h : Own k e w base v zs) : Own k e w.drew base v zs := h
theorem Own.alloc {k : IntKind} {e : TypeId} {w : World} {base : Nat} {v : Value} {zs : List Int} (h : Own k e w base v zs) (o : Obj) : Own k e (w.alloc o) base v zs := World.ownsRow.alloc h o
theorem Own.base {k : IntKind} {e : TypeId} {w : World} {base base' : Nat} {v : Value} {zs : List Int} (h : Own k e w base v zs) (hb : base' ≤ base) : Own k e w base' v zs := by
  obtain ⟨h1, h2⟩ := h
  refine ⟨h1, ?_⟩
  rcases h2 with h2 | ⟨g, cap, cur, rfl, hg, r⟩
  · exact .inl h2
  · exact .inr ⟨g, cap, cur, rfl, Nat.le_trans hb hg, r⟩

/-- As a slice that is read, with its room. -/
theorem Own.read {k : IntKind} {e : TypeId} {w : World} {base : Nat} {v : Value} {zs : List Int} (h : Own k e w base v zs) (hz : ∀ n ∈ zs, k.min ≤ n ∧ n ≤ k.max) :
    ∃ a n cap, v = .slice a n cap ∧ RowK k w a n zs ∧ n ≤ cap ∧ cap ≤ maxLen ∧ n = zs.length := by
  obtain ⟨a, n, c, hv, hr, _⟩ := h.row hz
  obtain ⟨a', n', c', hv', h1, h2, h3⟩ := h.cap
  rw [hv] at hv'
  cases hv'
  exact ⟨a, n, c, hv, hr, h2, h3, h1⟩

theorem run_push_row {P : Program} {w : World} {t ty : TypeId} {k : IntKind} {e : TypeId} {bytes : Nat} (ht : P.underlying t = some (.slice e)) (hi : (P.info? e).map (fun i => (i.zero, i.size, i.bytes)) = some (some (.int k 0), 1, bytes))
    {base : Nat} {v : Value} {zs ys : List Int} {A : Option Addr} {m : Nat} (c : Nat) (hown : Own k e w base v zs) (hr : RowK k w A m ys) (h63 : zs.length + m < 1000000) (hb8 : bytes ≤ 8) (hbase : base ≤ w.heap.size) :
    ∃ v' w', (Builtin.append_ #[t, t] ty #[v, .slice A m c]).run P w = .ok v' w' ∧ Own k e w' base v' (zs ++ ys) ∧ w.grownBy w' v.ownBlock ∧ (v'.ownBlock = v.ownBlock ∨ v'.ownBlock = some w.heap.size) := by
  obtain ⟨i, hi, hz0, hz1, hz2⟩ := info_parts hi
  have hm := hr.len
  rcases Nat.eq_zero_or_pos m with h0 | h0
  · subst h0
    have hy : ys = [] := List.eq_nil_of_length_eq_zero hm
    subst hy
    refine ⟨v, w, ?_, by simpa using hown, ⟨rfl, rfl, rfl, Nat.le_refl _, fun _ _ _ => rfl⟩, .inl rfl⟩
    rcases hown.2 with ⟨rfl, h2⟩ | ⟨g, cap, cur, rfl, _, _, hnc, _⟩
    · cases A <;> simp [Builtin.append_, run_underlying ht, sizeOf, typeInfo, hi, Builtin.lenOf, Builtin.firstCells, loadCells, loadCellsFrom]
    · cases A <;> simp [Builtin.append_, run_underlying ht, sizeOf, typeInfo, hi, Builtin.lenOf, Builtin.firstCells, loadCells, loadCellsFrom, hnc, storeCells]
  · obtain ⟨b, off, rfl, hc⟩ := hr.2.2 h0
    have hb8' : (zs.length + m) * bytes ≤ 1000000 * 8 := Nat.mul_le_mul (by omega) hb8
    obtain ⟨v', w', h1, h2, h3, _, h5⟩ := run_append_own_at (P := P) w base t ty e i (.int k 0) 1 bytes ht hi hz0 hz1 hz2 rfl (by decide) v zs.length (zs.map (Value.int k)) hown ⟨b, off, none⟩ m c (ys.map (Value.int k)) (by simp [hm])
      (fun j u hu => by
        have hj : j < ys.length := by
          rcases Nat.lt_or_ge j ys.length with h | h
          · exact h
          · rw [List.getElem?_eq_none (by simpa using h)] at hu; cases hu
        rw [List.getElem?_map, List.getElem?_eq_getElem hj] at hu
        injection hu with hu
        rw [← hu, ← hc j hj]
        unfold Addr.add
        split <;> simp_all)
      (by intro u hu; obtain ⟨_, _, rfl⟩ := List.mem_map.1 hu; rfl) (by unfold maxLen; omega) (by omega) hbase
    exact ⟨v', w', h1, by unfold Own; rw [List.length_append, hm, List.map_append]; exact h2, h3, h5⟩

theorem wp_push_row {P : Program} {w : World} {o : Oper} {a : Act} {K : Act → World → Prop} {Q : Exit → Act → World → Prop} (s x : Operand) (t : TypeId)
    (ho : o.op = .call { callee := .builtin .append, args := #[s, x], argTypes := #[t, t] }) {k : IntKind} {e : TypeId} {bytes : Nat} (ht : P.underlying t = some (.slice e)) (hi : (P.info? e).map (fun i => (i.zero, i.size, i.bytes)) = some (some (.int k 0), 1, bytes))
    {base : Nat} {v : Value} {zs ys : List Int} {A : Option Addr} {m c : Nat} (hs : a.eval s = v) (hx : a.eval x = .slice A m c) (hown : Own k e w base v zs) (hr : RowK k w A m ys) (h63 : zs.length + m < 1000000) (hb8 : bytes ≤ 8) (hbase : base ≤ w.heap.size)
    (h : ∀ v' w', Own k e w' base v' (zs ++ ys) → w.grownBy w' v.ownBlock → (v'.ownBlock = v.ownBlock ∨ v'.ownBlock = some w.heap.size) → K (a.put o.dst v') w') : o.wp P a w K Q := by
  obtain ⟨v', w', hrun, h2, h3, h4⟩ := run_push_row (P := P) (ty := o.type) ht hi c hown hr h63 hb8 hbase
  exact Lib.wp_append_run w s x t t ho _ _ hs hx v' w' hrun (h v' w' h2 h3 h4)

/-- 'append(s, x...)' in a plain region. -/
theorem wpList_push_row {P : Program} {w : World} {ops : Array Oper} {rest : List Oper} {o : Oper} {a : Act} {Q : Exit → Act → World → Prop} (hgd : o.guard = none) (s x : Operand) (t : TypeId)
    (ho : o.op = .call { callee := .builtin .append, args := #[s, x], argTypes := #[t, t] }) {k : IntKind} {e : TypeId} {bytes : Nat} (ht : P.underlying t = some (.slice e)) (hi : (P.info? e).map (fun i => (i.zero, i.size, i.bytes)) = some (some (.int k 0), 1, bytes))
    {base : Nat} {v : Value} {zs ys : List Int} {A : Option Addr} {m c : Nat} (hs : a.eval s = v) (hx : a.eval x = .slice A m c) (hown : Own k e w base v zs) (hr : RowK k w A m ys) (h63 : zs.length + m < 1000000) (hb8 : bytes ≤ 8) (hbase : base ≤ w.heap.size)
    (h : ∀ v' w', Own k e w' base v' (zs ++ ys) → w.grownBy w' v.ownBlock → (v'.ownBlock = v.ownBlock ∨ v'.ownBlock = some w.heap.size) → wpList P ops Q rest (a.put o.dst v') w') : wpList P ops Q (o :: rest) a w :=
  wpList_plain hgd fun _ hK => wp_push_row s x t ho ht hi hs hx hown hr h63 hb8 hbase fun v' w' h2 h3 h4 => hK _ _ (h v' w' h2 h3 h4)

/-- .. in a region that draws its order. -/
theorem step_push_row {P : Program} {w : World} {ops : Array Oper} {o : Oper} {a : Act} {K : Act → World → Prop} {Q : Exit → Act → World → Prop} {E : Prop} (hgd : o.guard = none) (s x : Operand) (t : TypeId)
    (ho : o.op = .call { callee := .builtin .append, args := #[s, x], argTypes := #[t, t] }) {k : IntKind} {e : TypeId} {bytes : Nat} (ht : P.underlying t = some (.slice e)) (hi : (P.info? e).map (fun i => (i.zero, i.size, i.bytes)) = some (some (.int k 0), 1, bytes))
    {base : Nat} {v : Value} {zs ys : List Int} {A : Option Addr} {m c : Nat} (hs : a.eval s = v) (hx : a.eval x = .slice A m c) (hown : Own k e w base v zs) (hr : RowK k w A m ys) (h63 : zs.length + m < 1000000) (hb8 : bytes ≤ 8) (hbase : base ≤ w.heap.size)
    (h : ∀ v' w', Own k e w' base v' (zs ++ ys) → w.grownBy w' v.ownBlock → (v'.ownBlock = v.ownBlock ∨ v'.ownBlock = some w.heap.size) → K (a.put o.dst v') w') :
    if Region.wanted o (yielded ops a.tmps) = true then Oper.wp P o a w K Q else E := by
  have hw : Region.wanted o (yielded ops a.tmps) = true := by simp [Region.wanted, hgd]
  rw [if_pos hw]
  exact wp_push_row s x t ho ht hi hs hx hown hr h63 hb8 hbase h

/-- Behind a push: 'Below'. -/
theorem Own.grown {k : IntKind} {e : TypeId} {w0 W w' : World} {v : Value} {zs : List Int} (h : Below w0.heap.size w0 W) (hown : Own k e W w0.heap.size v zs) (hg : W.grownBy w' v.ownBlock) : Below w0.heap.size w0 w' :=
  h.grown hg h.size fun b hb => (hown.lt b hb).1

theorem RowK.cut {k : IntKind} {w : World} {a : Option Addr} {n : Nat} {zs : List Int} (h : RowK k w a n zs) (m : Nat) (hm : m ≤ n) : RowK k w a m (zs.take m) := by
  obtain ⟨h1, h2, h3⟩ := h
  refine ⟨by simp; omega, fun x hx => h2 x (List.mem_of_mem_take hx), fun hp => ?_⟩
  obtain ⟨b, off, ha, hc⟩ := h3 (by omega)
  exact ⟨b, off, ha, fun i hi => by
    have hi' : i < zs.length := by have := hi; simp at this; omega
    rw [List.getElem_take]; exact hc i hi'⟩

/-- The rest of a slice from m on; its address is told only where it has elements. -/
theorem RowK.rest {k : IntKind} {w : World} {a : Option Addr} {n : Nat} {zs : List Int} (h : RowK k w a n zs) (m : Nat) (hm : m ≤ n) {a' : Option Addr} (ha' : ∀ b off, a = some ⟨b, off, none⟩ → m < n → a' = some ⟨b, off + m, none⟩) : RowK k w a' (n - m) (zs.drop m) := by
  obtain ⟨h1, h2, h3⟩ := h
  refine ⟨by simp; omega, fun x hx => h2 x (List.mem_of_mem_drop hx), fun hp => ?_⟩
  obtain ⟨b, off, ha, hc⟩ := h3 (by omega)
  exact ⟨b, off + m, ha' b off ha (by omega), fun i hi => by
    have hi' : m + i < zs.length := by have := hi; simp at this; omega
    rw [List.getElem_drop, Nat.add_assoc]; exact hc (m + i) hi'⟩

/-- A slice in another block than the one that grew. -/
theorem RowK.beside {k : IntKind} {w w' : World} {a : Option Addr} {n : Nat} {zs : List Int} {row : Option Nat} (h : RowK k w a n zs) (hg : w.grownBy w' row) (hne : ∀ b off, a = some ⟨b, off, none⟩ → some b ≠ row) : RowK k w' a n zs := by
  obtain ⟨h1, h2, h3⟩ := h
  refine ⟨h1, h2, fun hp => ?_⟩
  obtain ⟨b, off, ha, hc⟩ := h3 hp
  exact ⟨b, off, ha, fun i hi => hg.cell (hc i hi) (hne b off ha)⟩

theorem RowK.empty (k : IntKind) (w : World) (a : Option Addr) : RowK k w a 0 [] := ⟨rfl, fun _ h => by simp at h, fun h => absurd h (by decide)⟩

/-- .. and with what is known of its address. -/
theorem Own.reads {k : IntKind} {e : TypeId} {w : World} {base : Nat} {v : Value} {zs : List Int} (h : Own k e w base v zs) (hz : ∀ n ∈ zs, k.min ≤ n ∧ n ≤ k.max) :
    ∃ a n cap, v = .slice a n cap ∧ RowK k w a n zs ∧ n ≤ cap ∧ cap ≤ maxLen ∧ n = zs.length ∧ (a = none ∧ n = 0 ∧ cap = 0 ∨ ∃ b off, a = some ⟨b, off, none⟩) := by
  obtain ⟨a, n, cap, hv, h1, h2, h3, h4⟩ := h.read hz
  refine ⟨a, n, cap, hv, h1, h2, h3, h4, ?_⟩
  rcases h.2 with ⟨h', _⟩ | ⟨g, cap', cur, h', _⟩
  · rw [hv] at h'; cases h'; exact .inl ⟨rfl, rfl, rfl⟩
  · rw [hv] at h'; cases h'; exact .inr ⟨_, _, rfl⟩

/-- A store into a row of the call's own. -/
theorem Own.store {k : IntKind} {e : TypeId} {w : World} {base g n cap : Nat} {zs : List Int} (h : Own k e w base (.slice (some ⟨g, 0, none⟩) n cap) zs) (i : Nat) (x : Int) :
    Own k e (w.setCell ⟨g, i, none⟩ (.int k x)) base (.slice (some ⟨g, 0, none⟩) n cap) (zs.set i x) ∧ w.grownBy (w.setCell ⟨g, i, none⟩ (.int k x)) (some g) := by
  have hl : n = zs.length := by
    obtain ⟨a, n', c, h1, h2, _⟩ := h.cap
    cases h1; exact h2
  subst hl
  obtain ⟨h1, h2⟩ := World.ownsRow.stored h i (.int k x)
  exact ⟨by unfold Own; rw [List.length_set, List.map_set]; exact h1, h2⟩
theorem Own.thawed {k : IntKind} {e : TypeId} {w : World} {base g n cap : Nat} {zs : List Int} (h : Own k e w base (.slice (some ⟨g, 0, none⟩) n cap) zs) (i : Nat) : w.frozen? ⟨g, i, none⟩ = false := by
  have hl : n = zs.length := by
    obtain ⟨a, n', c, h1, h2, _⟩ := h.cap
    cases h1; exact h2
  subst hl
  exact World.ownsRow.frozenAt h i

end Go.Proofs.Ytdhjhpmbgfefbaa
