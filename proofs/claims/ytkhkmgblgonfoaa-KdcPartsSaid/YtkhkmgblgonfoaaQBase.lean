/-
  What the proof wants: Base, Row, Push, Sl.
-/
import Derived.Test.YtkhkmgblgonfoaaProg
import Derived.WalkKit
import Derived.ProofKit
import Derived.Deep.QuietTactic
import Derived.BigQuiet
import Derived.Lib.Hide
import Derived.Outline
import Derived.OwnWalk
import Derived.Maps.AppendAt
import Derived.Lib.AppendZeros
import Derived.RegionTactic
import Derived.Laws.BytesArg

/-
  Small words on worlds, memory and endings that every later text uses.
-/
namespace Go.Proofs.Ytkhkmgblgonfoaa
open Go.RowKit

theorem qt {w : World} {m n : Nat} : ∃ k, (w.drewN m).drewN n = w.drewN k := ⟨m + n, World.drewN_drewN _ _ _⟩
theorem qb {w : World} {n : Nat} : Below w.heap.size w (w.drewN n) := ⟨rfl, rfl, rfl, Nat.le_refl _, fun _ _ => rfl⟩

/-- Closes 'Below' over the blocks and draws of a walk. -/
theorem below_drewN' {B : Nat} {a w : World} (h : Below B a w) (n : Nat) : Below B a (w.drewN n) := ⟨h.os, h.tape, h.output, h.size, h.block⟩

theorem ret_int {k : IntKind} {a b : Int} (h : a = b) : Ending.returned (.int k a) = .returned (.int k b) := by rw [h]
theorem ret_bool {a b : Bool} (h : a = b) : Ending.returned (.bool a) = .returned (.bool b) := by rw [h]

theorem ival {k : IntKind} {a b : Int} (h : a = b) : Value.int k a = .int k b := by rw [h]
theorem bval {a b : Bool} (h : a = b) : Value.bool a = .bool b := by rw [h]
theorem ret_two {a b c d : Value} (h : a = c) (g : b = d) : Ending.returned (.tuple #[a, b]) = .returned (.tuple #[c, d]) := by rw [h, g]
theorem ret_three {a b c d x y : Value} (h : a = c) (g : b = d) (k : x = y) : Ending.returned (.tuple #[a, b, x]) = .returned (.tuple #[c, d, y]) := by rw [h, g, k]

theorem bcell {W w1 : World} (hb : Below W.heap.size W w1) : (∀ b o, b < W.heap.size → w1.cell? ⟨b, o, none⟩ = W.cell? ⟨b, o, none⟩) ∧ (∀ b o, b < W.heap.size → w1.frozen? ⟨b, o, none⟩ = W.frozen? ⟨b, o, none⟩) :=
  ⟨fun b o h => hb.cell (p := ⟨b, o, none⟩) h, fun b o h => hb.frozen (p := ⟨b, o, none⟩) h⟩

theorem cell_lt {w : World} {b o : Nat} {v : Value} (h : w.cell? ⟨b, o, none⟩ = some v) : b < w.heap.size := by
  rcases Nat.lt_or_ge b w.heap.size with h' | h'
  · exact h'
  · simp [World.cell?, Array.getElem?_eq_none h'] at h

theorem cell_keep {W W' : World} {b o : Nat} {v : Value} (hb : Below W.heap.size W W') (h : W.cell? ⟨b, o, none⟩ = some v) : W'.cell? ⟨b, o, none⟩ = some v := by
  rw [hb.cell (p := ⟨b, o, none⟩) (cell_lt h)]; exact h

theorem size_keep {W W' : World} {n : Nat} (hb : Below W.heap.size W W') (h : n < W.heap.size) : n < W'.heap.size := Nat.lt_of_lt_of_le h hb.size

theorem below_keep {w W W' : World} (hb : Below W.heap.size W W') (h : Below w.heap.size w W) : Below w.heap.size w W' := h.trans (hb.mono h.size)

theorem mk_list (b : ByteArray) : (⟨b.data.toList.toArray⟩ : ByteArray) = b := by obtain ⟨⟨l⟩⟩ := b; rfl

theorem size_mk (l : List UInt8) : (ByteArray.mk l.toArray).size = l.length := rfl

theorem quiet_w {P : Program} {f : FuncId} {args : Array Value} {w : World} {n : Nat} {v : Value}
    (h : Calls P f args (w.drewN n) fun e w' => e = .returned v ∧ w.drewN n = w') : Calls P f args (w.drewN n) fun e w'' => e = .returned v ∧ ∃ m, w'' = w.drewN m :=
  h.mono fun _ _ ⟨he, hm⟩ => ⟨he, n, hm.symm⟩

/-- A slice of numbers as it lies in memory: zs are its elements. -/
def RowK (k : IntKind) (w : World) (a : Option Addr) (len : Nat) (zs : List Int) : Prop :=
  zs.length = len ∧ (∀ n ∈ zs, k.min ≤ n ∧ n ≤ k.max) ∧ (0 < len → ∃ b off, a = some ⟨b, off, none⟩ ∧ ∀ i (_ : i < zs.length), w.cell? ⟨b, off + i, none⟩ = some (.int k zs[i]))

theorem RowK.keep {k : IntKind} {w w' : World} {a : Option Addr} {len : Nat} {zs : List Int} (hb : Below w.heap.size w w') (h : RowK k w a len zs) : RowK k w' a len zs := by
  obtain ⟨h1, h2, h3⟩ := h
  refine ⟨h1, h2, fun hl => ?_⟩
  obtain ⟨b, off, ha, hc⟩ := h3 hl
  exact ⟨b, off, ha, fun i hi => cell_keep hb (hc i hi)⟩

theorem RowK.drewN {k : IntKind} {w : World} {a : Option Addr} {len : Nat} {zs : List Int} (h : RowK k w a len zs) (n : Nat) : RowK k (w.drewN n) a len zs := h

theorem RowK.len {k : IntKind} {w : World} {a : Option Addr} {len : Nat} {zs : List Int} (h : RowK k w a len zs) : zs.length = len := h.1

theorem RowK.at {k : IntKind} {w : World} {a : Option Addr} {len : Nat} {zs : List Int} (h : RowK k w a len zs) {i : Nat} (hi : i < len) :
    ∃ b off, ∃ z : Int, a = some ⟨b, off, none⟩ ∧ zs[i]? = some z ∧ k.min ≤ z ∧ z ≤ k.max ∧ w.cell? ⟨b, off + i, none⟩ = some (.int k z) := by
  obtain ⟨h1, h2, h3⟩ := h
  obtain ⟨b, off, ha, hc⟩ := h3 (by omega)
  have hi' : i < zs.length := by omega
  obtain ⟨h4, h5⟩ := h2 _ (List.getElem_mem hi')
  exact ⟨b, off, zs[i], ha, List.getElem?_eq_getElem hi', h4, h5, hc i hi'⟩

theorem RowK.at0 {k : IntKind} {w : World} {g len : Nat} {zs : List Int} (h : RowK k w (some ⟨g, 0, none⟩) len zs) {i : Nat} (hi : i < len) :
    ∃ z : Int, zs[i]? = some z ∧ k.min ≤ z ∧ z ≤ k.max ∧ w.cell? ⟨g, i, none⟩ = some (.int k z) := by
  obtain ⟨b, off, z, ha, h1, h2, h3, h4⟩ := h.at hi
  obtain ⟨rfl, rfl⟩ : g = b ∧ 0 = off := by simpa using ha
  rw [Nat.zero_add] at h4
  exact ⟨z, h1, h2, h3, h4⟩

/-- A slice that was just written out. -/
theorem RowK.new (k : IntKind) (w : World) (zs : List Int) (t : TypeId) (h : ∀ n ∈ zs, k.min ≤ n ∧ n ≤ k.max) : RowK k (w.alloc (.cells (zs.map (Value.int k)).toArray t)) (some ⟨w.heap.size, 0, none⟩) zs.length zs :=
  ⟨rfl, h, fun _ => ⟨_, _, rfl, fun i hi => by simp [go_sem, hi]⟩⟩

end Go.Proofs.Ytkhkmgblgonfoaa

/-
  Slices of numbers that a call makes and appends to, one element a time.
-/
namespace Go.Proofs.Ytkhkmgblgonfoaa
open Go.RowKit

/-- The call's own slice v of numbers zs, in a block from base on. -/
def Own (k : IntKind) (e : TypeId) (w : World) (base : Nat) (v : Value) (zs : List Int) : Prop := w.ownsRow base e 1 v zs.length (zs.map (Value.int k))

theorem Own.nil (k : IntKind) (e : TypeId) (w : World) (base : Nat) : Own k e w base (.slice none 0 0) [] := World.ownsRow_nil w base e 1

theorem Own.lt {k : IntKind} {e : TypeId} {w : World} {base : Nat} {v : Value} {zs : List Int} (h : Own k e w base v zs) : ∀ b, v.ownBlock = some b → base ≤ b ∧ b < w.heap.size := World.ownsRow.lt h

theorem Own.kept {k : IntKind} {e : TypeId} {w w' : World} {base : Nat} {v : Value} {zs : List Int} {row : Option Nat} (h : Own k e w base v zs) (hg : w.grownBy w' row) (hne : v.ownBlock = none ∨ v.ownBlock ≠ row) : Own k e w' base v zs :=
  World.ownsRow.kept h hg hne

theorem Own.below {k : IntKind} {e : TypeId} {w w' : World} {base : Nat} {v : Value} {zs : List Int} (hb : Below w.heap.size w w') (h : Own k e w base v zs) : Own k e w' base v zs := by
  have hl := h.lt
  obtain ⟨h1, h2⟩ := h
  refine ⟨h1, ?_⟩
  rcases h2 with h2 | ⟨g, cap, cur, rfl, hg, hh, r⟩
  · exact .inl h2
  · refine .inr ⟨g, cap, cur, rfl, hg, ?_, r⟩
    rw [hb.block g (hl g rfl).2]; exact hh

/-- As a slice that is read. -/
theorem Own.row {k : IntKind} {e : TypeId} {w : World} {base : Nat} {v : Value} {zs : List Int} (h : Own k e w base v zs) (hz : ∀ n ∈ zs, k.min ≤ n ∧ n ≤ k.max) :
    ∃ a n cap, v = .slice a n cap ∧ RowK k w a n zs ∧ n ≤ maxLen := by
  have hc := fun g hg => World.ownsRow.cells (g := g) h hg
  obtain ⟨h1, h2⟩ := h
  rcases h2 with ⟨rfl, h2⟩ | ⟨g, cap, cur, rfl, hg, hh, hn, hm, r⟩
  · have : zs = [] := List.eq_nil_of_length_eq_zero h2
    subst this
    exact ⟨none, 0, 0, rfl, ⟨rfl, hz, fun h => absurd h (by decide)⟩, by decide⟩
  · refine ⟨_, _, _, rfl, ⟨rfl, hz, fun _ => ⟨g, 0, rfl, fun i hi => ?_⟩⟩, by omega⟩
    have h := hc g rfl i (.int k zs[i]) (by simp [hi])
    unfold Addr.add at h
    by_cases e0 : i = 0
    · subst e0; simpa using h
    · simpa [e0] using h

/-- 'append(v, n)', n laid in a block of its own first (W: the world before). -/
theorem wpList_push {P : Program} {w : World} {ops : Array Oper} {rest : List Oper} {o : Oper} {a : Act} {Q : Exit → Act → World → Prop} (hgd : o.guard = none) (s x : Operand) (t : TypeId)
    (ho : o.op = .call { callee := .builtin .append, args := #[s, x], argTypes := #[t, t] })
    (k : IntKind) (e : TypeId) (bytes : Nat) (ht : P.underlying t = some (.slice e)) (hi : (P.info? e).map (fun i => (i.zero, i.size, i.bytes)) = some (some (.int k 0), 1, bytes))
    (base : Nat) (v : Value) (zs : List Int) (n : Int) (hs : a.eval s = v) {W : World} {T : TypeId} (hw : w = W.alloc (.cells #[.int k n] T)) (hx : a.eval x = .slice (some ⟨W.heap.size, 0, none⟩) 1 1)
    (hown : Own k e W base v zs) (h63 : zs.length < 1000000) (hb8 : bytes ≤ 8) (hbase : base ≤ W.heap.size)
    (h : ∀ v' w', Own k e w' base v' (zs ++ [n]) → w.grownBy w' v.ownBlock → (v'.ownBlock = v.ownBlock ∨ v'.ownBlock = some w.heap.size) → wpList P ops Q rest (a.put o.dst v') w') :
    wpList P ops Q (o :: rest) a w := by
  subst hw
  obtain ⟨i, hi, hz0, hz1, hz2⟩ := info_parts hi
  refine wpList_append_own_at (W.alloc (.cells #[.int k n] T)) hgd s x t ho base e i (.int k 0) 1 bytes ht hi hz0 hz1 hz2 rfl (by decide) v zs.length (zs.map (Value.int k)) hs (World.ownsRow.alloc hown _) ⟨W.heap.size, 0, none⟩ 1 1 [.int k n] hx rfl (cell_one_new _ _ _)
    (by intro u hu; simp at hu; subst hu; rfl) (by unfold maxLen; omega) (by have : (zs.length + 1) * bytes ≤ 1000001 * 8 := Nat.mul_le_mul (by omega) hb8; omega) (by simp; omega) ?_
  intro v' w' h1 h2 _ h3
  exact h v' w' (by unfold Own; simpa using h1) h2 h3

/-- Behind a push: 'Below'. -/
theorem Own.pushed {k : IntKind} {e : TypeId} {w0 W w' : World} {T : TypeId} {n : Int} {v : Value} {zs : List Int} (h : Below w0.heap.size w0 W) (hown : Own k e W w0.heap.size v zs) (hg : (W.alloc (.cells #[.int k n] T)).grownBy w' v.ownBlock) : Below w0.heap.size w0 w' :=
  (h.alloc h.size _).grown hg (by have := h.size; simp; omega) (fun b hb => (hown.lt b hb).1)

/-- A slice of the call's own that is not the one that grows. -/
theorem Own.beside {k k' : IntKind} {e : TypeId} {W w' : World} {T : TypeId} {n : Int} {base : Nat} {u v : Value} {zs : List Int} (h : Own k e W base u zs) (hg : (W.alloc (.cells #[.int k' n] T)).grownBy w' v.ownBlock) (hne : u.ownBlock = none ∨ u.ownBlock ≠ v.ownBlock) : Own k e w' base u zs :=
  Own.kept (w := W.alloc (.cells #[.int k' n] T)) (World.ownsRow.alloc h _) hg hne

/-- Two slices that do not lie in one block of the call's own. -/
def Apart (u v : Value) : Prop := ∀ b, u.ownBlock = some b → v.ownBlock ≠ some b

theorem Apart.symm {u v : Value} (h : Apart u v) : Apart v u := fun b h1 h2 => h b h2 h1
theorem Apart.out {u v : Value} (h : Apart u v) : u.ownBlock = none ∨ u.ownBlock ≠ v.ownBlock := by
  rcases e : u.ownBlock with _ | b
  · exact .inl rfl
  · exact .inr fun h' => h b e h'.symm
theorem Apart.nil (v : Value) (a b : Nat) : Apart (.slice none a b) v := fun _ h => by cases h
theorem Apart.step {u v v' : Value} {n m : Nat} (h : Apart u v) (hv : v'.ownBlock = v.ownBlock ∨ v'.ownBlock = some n) (hu : ∀ b, u.ownBlock = some b → m ≤ b ∧ b < n) : Apart u v' := by
  intro b hb
  rcases hv with e | e
  · rw [e]; exact h b hb
  · intro h'; rw [e] at h'; have e2 : n = b := by simpa using h'
    have := (hu b hb).2; omega

theorem take_map_snoc (f : Int → Int) (l : List Int) (k : Nat) (z : Int) (h : l[k]? = some z) : (l.take (k + 1)).map f = (l.take k).map f ++ [f z] := by
  rw [List.take_add_one, h]; simp

theorem len_take_map (f : Int → Int) (l : List Int) (k n : Nat) (h : l.length = n) (hk : k ≤ n) : ((l.take k).map f).length = k := by simp; omega

end Go.Proofs.Ytkhkmgblgonfoaa

/-
  append of a whole slice of numbers, nil or not, onto a slice that the call owns; parts of slices.
-/
namespace Go.Proofs.Ytkhkmgblgonfoaa
open Go.RowKit

theorem Own.cap {k : IntKind} {e : TypeId} {w : World} {base : Nat} {v : Value} {zs : List Int} (h : Own k e w base v zs) : ∃ a n c, v = .slice a n c ∧ n = zs.length ∧ n ≤ c ∧ c ≤ maxLen := by
  rcases h.2 with ⟨rfl, h2⟩ | ⟨g, cap, cur, rfl, _, _, h3, h4, _⟩
  · exact ⟨none, 0, 0, rfl, h2.symm, Nat.le_refl _, by decide⟩
  · exact ⟨_, _, _, rfl, rfl, h3, h4⟩

/-- A slice that was just written out belongs to the call. -/
theorem Own.new (k : IntKind) (e : TypeId) {w : World} {base : Nat} (hb : base ≤ w.heap.size) (zs : List Int) (hm : zs.length ≤ maxLen) : Own k e (w.alloc (.cells (zs.map (Value.int k)).toArray e)) base (.slice (some ⟨w.heap.size, 0, none⟩) zs.length zs.length) zs :=
  ⟨by simp, .inr ⟨w.heap.size, zs.length, _, rfl, hb, heap_alloc_new w _, Nat.le_refl _, hm, by simp, by simp [List.take_of_length_le]⟩⟩

theorem Own.drew {k : IntKind} {e : TypeId} {w : World} {base : Nat} {v : Value} {zs : List Int} (h : Own k e w base v zs) : Own k e w.drew base v zs := h
theorem Own.alloc {k : IntKind} {e : TypeId} {w : World} {base : Nat} {v : Value} {zs : List Int} (h : Own k e w base v zs) (o : Obj) : Own k e (w.alloc o) base v zs := World.ownsRow.alloc h o
theorem Own.base {k : IntKind} {e : TypeId} {w : World} {base base' : Nat} {v : Value} {zs : List Int} (h : Own k e w base v zs) (hb : base' ≤ base) : Own k e w base' v zs := by
  obtain ⟨h1, h2⟩ := h
  refine ⟨h1, ?_⟩
  rcases h2 with h2 | ⟨g, cap, cur, rfl, hg, r⟩
  · exact .inl h2
  · exact .inr ⟨g, cap, cur, rfl, Nat.le_trans hb hg, r⟩

/-- As a slice that is read, with its room. -/
theorem Own.read {k : IntKind} {e : TypeId} {w : World} {base : Nat} {v : Value} {zs : List Int} (h : Own k e w base v zs) (hz : ∀ n ∈ zs, k.min ≤ n ∧ n ≤ k.max) :
    ∃ a n cap, v = .slice a n cap ∧ RowK k w a n zs ∧ n ≤ cap ∧ cap ≤ maxLen ∧ n = zs.length := by
  obtain ⟨a, n, c, hv, hr, _⟩ := h.row hz
  obtain ⟨a', n', c', hv', h1, h2, h3⟩ := h.cap
  rw [hv] at hv'
  cases hv'
  exact ⟨a, n, c, hv, hr, h2, h3, h1⟩

theorem run_push_row {P : Program} {w : World} {t ty : TypeId} {k : IntKind} {e : TypeId} {bytes : Nat} (ht : P.underlying t = some (.slice e)) (hi : (P.info? e).map (fun i => (i.zero, i.size, i.bytes)) = some (some (.int k 0), 1, bytes))
    {base : Nat} {v : Value} {zs ys : List Int} {A : Option Addr} {m : Nat} (c : Nat) (hown : Own k e w base v zs) (hr : RowK k w A m ys) (h63 : zs.length + m < 1000000) (hb8 : bytes ≤ 8) (hbase : base ≤ w.heap.size) :
    ∃ v' w', (Builtin.append_ #[t, t] ty #[v, .slice A m c]).run P w = .ok v' w' ∧ Own k e w' base v' (zs ++ ys) ∧ w.grownBy w' v.ownBlock ∧ (v'.ownBlock = v.ownBlock ∨ v'.ownBlock = some w.heap.size) := by
  obtain ⟨i, hi, hz0, hz1, hz2⟩ := info_parts hi
  have hm := hr.len
  rcases Nat.eq_zero_or_pos m with h0 | h0
  · subst h0
    have hy : ys = [] := List.eq_nil_of_length_eq_zero hm
    subst hy
    refine ⟨v, w, ?_, by simpa using hown, ⟨rfl, rfl, rfl, Nat.le_refl _, fun _ _ _ => rfl⟩, .inl rfl⟩
    rcases hown.2 with ⟨rfl, h2⟩ | ⟨g, cap, cur, rfl, _, _, hnc, _⟩
    · cases A <;> simp [Builtin.append_, run_underlying ht, sizeOf, typeInfo, hi, Builtin.lenOf, Builtin.firstCells, loadCells, loadCellsFrom]
    · cases A <;> simp [Builtin.append_, run_underlying ht, sizeOf, typeInfo, hi, Builtin.lenOf, Builtin.firstCells, loadCells, loadCellsFrom, hnc, storeCells]
  · obtain ⟨b, off, rfl, hc⟩ := hr.2.2 h0
    have hb8' : (zs.length + m) * bytes ≤ 1000000 * 8 := Nat.mul_le_mul (by omega) hb8
    obtain ⟨v', w', h1, h2, h3, _, h5⟩ := run_append_own_at (P := P) w base t ty e i (.int k 0) 1 bytes ht hi hz0 hz1 hz2 rfl (by decide) v zs.length (zs.map (Value.int k)) hown ⟨b, off, none⟩ m c (ys.map (Value.int k)) (by simp [hm])
      (fun j u hu => by
        have hj : j < ys.length := by
          rcases Nat.lt_or_ge j ys.length with h | h
          · exact h
          · rw [List.getElem?_eq_none (by simpa using h)] at hu; cases hu
        rw [List.getElem?_map, List.getElem?_eq_getElem hj] at hu
        injection hu with hu
        rw [← hu, ← hc j hj]
        unfold Addr.add
        split <;> simp_all)
      (by intro u hu; obtain ⟨_, _, rfl⟩ := List.mem_map.1 hu; rfl) (by unfold maxLen; omega) (by omega) hbase
    exact ⟨v', w', h1, by unfold Own; rw [List.length_append, hm, List.map_append]; exact h2, h3, h5⟩

theorem wp_push_row {P : Program} {w : World} {o : Oper} {a : Act} {K : Act → World → Prop} {Q : Exit → Act → World → Prop} (s x : Operand) (t : TypeId)
    (ho : o.op = .call { callee := .builtin .append, args := #[s, x], argTypes := #[t, t] }) {k : IntKind} {e : TypeId} {bytes : Nat} (ht : P.underlying t = some (.slice e)) (hi : (P.info? e).map (fun i => (i.zero, i.size, i.bytes)) = some (some (.int k 0), 1, bytes))
    {base : Nat} {v : Value} {zs ys : List Int} {A : Option Addr} {m c : Nat} (hs : a.eval s = v) (hx : a.eval x = .slice A m c) (hown : Own k e w base v zs) (hr : RowK k w A m ys) (h63 : zs.length + m < 1000000) (hb8 : bytes ≤ 8) (hbase : base ≤ w.heap.size)
    (h : ∀ v' w', Own k e w' base v' (zs ++ ys) → w.grownBy w' v.ownBlock → (v'.ownBlock = v.ownBlock ∨ v'.ownBlock = some w.heap.size) → K (a.put o.dst v') w') : o.wp P a w K Q := by
  obtain ⟨v', w', hrun, h2, h3, h4⟩ := run_push_row (P := P) (ty := o.type) ht hi c hown hr h63 hb8 hbase
  exact Lib.wp_append_run w s x t t ho _ _ hs hx v' w' hrun (h v' w' h2 h3 h4)

/-- 'append(s, x...)' in a plain region. -/
theorem wpList_push_row {P : Program} {w : World} {ops : Array Oper} {rest : List Oper} {o : Oper} {a : Act} {Q : Exit → Act → World → Prop} (hgd : o.guard = none) (s x : Operand) (t : TypeId)
    (ho : o.op = .call { callee := .builtin .append, args := #[s, x], argTypes := #[t, t] }) {k : IntKind} {e : TypeId} {bytes : Nat} (ht : P.underlying t = some (.slice e)) (hi : (P.info? e).map (fun i => (i.zero, i.size, i.bytes)) = some (some (.int k 0), 1, bytes))
    {base : Nat} {v : Value} {zs ys : List Int} {A : Option Addr} {m c : Nat} (hs : a.eval s = v) (hx : a.eval x = .slice A m c) (hown : Own k e w base v zs) (hr : RowK k w A m ys) (h63 : zs.length + m < 1000000) (hb8 : bytes ≤ 8) (hbase : base ≤ w.heap.size)
    (h : ∀ v' w', Own k e w' base v' (zs ++ ys) → w.grownBy w' v.ownBlock → (v'.ownBlock = v.ownBlock ∨ v'.ownBlock = some w.heap.size) → wpList P ops Q rest (a.put o.dst v') w') : wpList P ops Q (o :: rest) a w :=
  wpList_plain hgd fun _ hK => wp_push_row s x t ho ht hi hs hx hown hr h63 hb8 hbase fun v' w' h2 h3 h4 => hK _ _ (h v' w' h2 h3 h4)

/-- .. in a region that draws its order. -/
theorem step_push_row {P : Program} {w : World} {ops : Array Oper} {o : Oper} {a : Act} {K : Act → World → Prop} {Q : Exit → Act → World → Prop} {E : Prop} (hgd : o.guard = none) (s x : Operand) (t : TypeId)
    (ho : o.op = .call { callee := .builtin .append, args := #[s, x], argTypes := #[t, t] }) {k : IntKind} {e : TypeId} {bytes : Nat} (ht : P.underlying t = some (.slice e)) (hi : (P.info? e).map (fun i => (i.zero, i.size, i.bytes)) = some (some (.int k 0), 1, bytes))
    {base : Nat} {v : Value} {zs ys : List Int} {A : Option Addr} {m c : Nat} (hs : a.eval s = v) (hx : a.eval x = .slice A m c) (hown : Own k e w base v zs) (hr : RowK k w A m ys) (h63 : zs.length + m < 1000000) (hb8 : bytes ≤ 8) (hbase : base ≤ w.heap.size)
    (h : ∀ v' w', Own k e w' base v' (zs ++ ys) → w.grownBy w' v.ownBlock → (v'.ownBlock = v.ownBlock ∨ v'.ownBlock = some w.heap.size) → K (a.put o.dst v') w') :
    if Region.wanted o (yielded ops a.tmps) = true then Oper.wp P o a w K Q else E := by
  have hw : Region.wanted o (yielded ops a.tmps) = true := by simp [Region.wanted, hgd]
  rw [if_pos hw]
  exact wp_push_row s x t ho ht hi hs hx hown hr h63 hb8 hbase h

/-- Behind a push: 'Below'. -/
theorem Own.grown {k : IntKind} {e : TypeId} {w0 W w' : World} {v : Value} {zs : List Int} (h : Below w0.heap.size w0 W) (hown : Own k e W w0.heap.size v zs) (hg : W.grownBy w' v.ownBlock) : Below w0.heap.size w0 w' :=
  h.grown hg h.size fun b hb => (hown.lt b hb).1

theorem RowK.cut {k : IntKind} {w : World} {a : Option Addr} {n : Nat} {zs : List Int} (h : RowK k w a n zs) (m : Nat) (hm : m ≤ n) : RowK k w a m (zs.take m) := by
  obtain ⟨h1, h2, h3⟩ := h
  refine ⟨by simp; omega, fun x hx => h2 x (List.mem_of_mem_take hx), fun hp => ?_⟩
  obtain ⟨b, off, ha, hc⟩ := h3 (by omega)
  exact ⟨b, off, ha, fun i hi => by
    have hi' : i < zs.length := by have := hi; simp at this; omega
    rw [List.getElem_take]; exact hc i hi'⟩

/-- The rest of a slice from m on; its address is told only where it has elements. -/
theorem RowK.rest {k : IntKind} {w : World} {a : Option Addr} {n : Nat} {zs : List Int} (h : RowK k w a n zs) (m : Nat) (hm : m ≤ n) {a' : Option Addr} (ha' : ∀ b off, a = some ⟨b, off, none⟩ → m < n → a' = some ⟨b, off + m, none⟩) : RowK k w a' (n - m) (zs.drop m) := by
  obtain ⟨h1, h2, h3⟩ := h
  refine ⟨by simp; omega, fun x hx => h2 x (List.mem_of_mem_drop hx), fun hp => ?_⟩
  obtain ⟨b, off, ha, hc⟩ := h3 (by omega)
  exact ⟨b, off + m, ha' b off ha (by omega), fun i hi => by
    have hi' : m + i < zs.length := by have := hi; simp at this; omega
    rw [List.getElem_drop, Nat.add_assoc]; exact hc (m + i) hi'⟩

/-- A slice in another block than the one that grew. -/
theorem RowK.beside {k : IntKind} {w w' : World} {a : Option Addr} {n : Nat} {zs : List Int} {row : Option Nat} (h : RowK k w a n zs) (hg : w.grownBy w' row) (hne : ∀ b off, a = some ⟨b, off, none⟩ → some b ≠ row) : RowK k w' a n zs := by
  obtain ⟨h1, h2, h3⟩ := h
  refine ⟨h1, h2, fun hp => ?_⟩
  obtain ⟨b, off, ha, hc⟩ := h3 hp
  exact ⟨b, off, ha, fun i hi => hg.cell (hc i hi) (hne b off ha)⟩

theorem RowK.empty (k : IntKind) (w : World) (a : Option Addr) : RowK k w a 0 [] := ⟨rfl, fun _ h => by simp at h, fun h => absurd h (by decide)⟩

/-- .. and with what is known of its address. -/
theorem Own.reads {k : IntKind} {e : TypeId} {w : World} {base : Nat} {v : Value} {zs : List Int} (h : Own k e w base v zs) (hz : ∀ n ∈ zs, k.min ≤ n ∧ n ≤ k.max) :
    ∃ a n cap, v = .slice a n cap ∧ RowK k w a n zs ∧ n ≤ cap ∧ cap ≤ maxLen ∧ n = zs.length ∧ (a = none ∧ n = 0 ∧ cap = 0 ∨ ∃ b off, a = some ⟨b, off, none⟩) := by
  obtain ⟨a, n, cap, hv, h1, h2, h3, h4⟩ := h.read hz
  refine ⟨a, n, cap, hv, h1, h2, h3, h4, ?_⟩
  rcases h.2 with ⟨h', _⟩ | ⟨g, cap', cur, h', _⟩
  · rw [hv] at h'; cases h'; exact .inl ⟨rfl, rfl, rfl⟩
  · rw [hv] at h'; cases h'; exact .inr ⟨_, _, rfl⟩

/-- A store into a row of the call's own. -/
theorem Own.store {k : IntKind} {e : TypeId} {w : World} {base g n cap : Nat} {zs : List Int} (h : Own k e w base (.slice (some ⟨g, 0, none⟩) n cap) zs) (i : Nat) (x : Int) :
    Own k e (w.setCell ⟨g, i, none⟩ (.int k x)) base (.slice (some ⟨g, 0, none⟩) n cap) (zs.set i x) ∧ w.grownBy (w.setCell ⟨g, i, none⟩ (.int k x)) (some g) := by
  have hl : n = zs.length := by
    obtain ⟨a, n', c, h1, h2, _⟩ := h.cap
    cases h1; exact h2
  subst hl
  obtain ⟨h1, h2⟩ := World.ownsRow.stored h i (.int k x)
  exact ⟨by unfold Own; rw [List.length_set, List.map_set]; exact h1, h2⟩
theorem Own.thawed {k : IntKind} {e : TypeId} {w : World} {base g n cap : Nat} {zs : List Int} (h : Own k e w base (.slice (some ⟨g, 0, none⟩) n cap) zs) (i : Nat) : w.frozen? ⟨g, i, none⟩ = false := by
  have hl : n = zs.length := by
    obtain ⟨a, n', c, h1, h2, _⟩ := h.cap
    cases h1; exact h2
  subst hl
  exact World.ownsRow.frozenAt h i

end Go.Proofs.Ytkhkmgblgonfoaa

/-
  Slices of bytes with their room; made texts.
-/
namespace Go.Proofs.Ytkhkmgblgonfoaa
open Go.RowKit

/-- A slice of bytes: its elements, its room, and what is known of its address. -/
def Sl (w : World) (A : Option Addr) (n cap : Nat) (zs : List Int) : Prop := RowK .u8 w A n zs ∧ n ≤ cap ∧ cap ≤ maxLen ∧ (n = 0 ∧ cap = 0 ∨ ∃ b off, A = some ⟨b, off, none⟩)

theorem Sl.row {w : World} {A : Option Addr} {n cap : Nat} {zs : List Int} (h : Sl w A n cap zs) : RowK .u8 w A n zs := h.1
theorem Sl.keep {w w' : World} {A : Option Addr} {n cap : Nat} {zs : List Int} (hb : Below w.heap.size w w') (h : Sl w A n cap zs) : Sl w' A n cap zs := ⟨h.1.keep hb, h.2⟩
theorem Sl.len {w : World} {A : Option Addr} {n cap : Nat} {zs : List Int} (h : Sl w A n cap zs) : zs.length = n := h.1.len
theorem Sl.max {w : World} {A : Option Addr} {n cap : Nat} {zs : List Int} (h : Sl w A n cap zs) : n ≤ maxLen := Nat.le_trans h.2.1 h.2.2.1
theorem Sl.range {w : World} {A : Option Addr} {n cap : Nat} {zs : List Int} (h : Sl w A n cap zs) : ∀ z ∈ zs, 0 ≤ z ∧ z ≤ 255 := h.1.2.1
theorem Sl.nil (w : World) : Sl w none 0 0 [] := ⟨RowK.empty _ _ _, Nat.le_refl _, by decide, .inl ⟨rfl, rfl⟩⟩
theorem Sl.drew {w : World} {A : Option Addr} {n cap : Nat} {zs : List Int} (h : Sl w A n cap zs) : Sl w.drew A n cap zs := h

/-- A row of the call's own as such a slice. -/
theorem Own.sl {e : TypeId} {w : World} {base : Nat} {v : Value} {zs : List Int} (h : Own .u8 e w base v zs) (hz : ∀ n ∈ zs, 0 ≤ n ∧ n ≤ 255) : ∃ A n cap, v = .slice A n cap ∧ Sl w A n cap zs := by
  obtain ⟨a, n, cap, hv, h1, h2, h3, _, h4⟩ := h.reads hz
  exact ⟨a, n, cap, hv, h1, h2, h3, h4.imp (fun h => h.2) id⟩

/-- A new row written out. -/
theorem Sl.new (w : World) (zs : List Int) (t : TypeId) (h : ∀ n ∈ zs, 0 ≤ n ∧ n ≤ 255) (hm : zs.length ≤ maxLen) : Sl (w.alloc (.cells (zs.map (Value.int .u8)).toArray t)) (some ⟨w.heap.size, 0, none⟩) zs.length zs.length zs :=
  ⟨RowK.new .u8 w zs t h, Nat.le_refl _, hm, .inr ⟨_, _, rfl⟩⟩

/-- The text of such a slice. -/
theorem conv_sl {w : World} {A : Option Addr} {n cap : Nat} {zs : List Int} (h : Sl w A n cap zs) : (convert 26 9 (.slice A n cap)).run Try.prog w = .ok (.string (strOfNums zs)) w := by
  obtain ⟨h1, _, _, h2⟩ := h
  rcases h2 with ⟨rfl, rfl⟩ | ⟨b, off, rfl⟩
  · have : zs = [] := List.eq_nil_of_length_eq_zero h1.len
    subst this
    rcases A with _ | x
    · exact run_convert_bytes_nil w _ _ Try.underlying26 Try.underlying5 0 0 _ Try.underlying9
    · have hl : (loadCells x 0).run Try.prog w = .ok #[] w := by simp [loadCells, loadCellsFrom]
      rw [run_convert_bytes_string w _ _ 5 _ 0 0 Try.underlying26 Try.underlying5 Try.underlying9, run_bytesToString w _ 0 0 [] (by simpa using hl)]
      rfl
  · refine run_convert_bytes_arg _ _ _ Try.underlying26 Try.underlying5 b off n cap zs h1.len (fun i hi => ?_) _ Try.underlying9
    obtain ⟨b', off', z, ha, hz, _, _, hc⟩ := h1.at hi
    cases ha
    rw [List.getD, hz]
    exact hc

theorem strOfNums_inj {xs ys : List Int} (hx : ∀ n ∈ xs, 0 ≤ n ∧ n ≤ 255) (hy : ∀ n ∈ ys, 0 ≤ n ∧ n ≤ 255) (h : strOfNums xs = strOfNums ys) : xs = ys := by
  have h' : xs.map (fun n => UInt8.ofNat n.toNat) = ys.map (fun n => UInt8.ofNat n.toNat) := by rw [← strOfNums_data, ← strOfNums_data, h]
  have back : ∀ l : List Int, (∀ n ∈ l, 0 ≤ n ∧ n ≤ 255) → (l.map fun n => UInt8.ofNat n.toNat).map (fun c => (c.toNat : Int)) = l := by
    intro l hl
    rw [List.map_map]
    refine (List.map_congr_left (g := id) fun n hn => ?_).trans (List.map_id l)
    obtain ⟨h0, h1⟩ := hl n hn
    show (((UInt8.ofNat n.toNat).toNat : Nat) : Int) = n
    rw [UInt8.toNat_ofNat', Nat.mod_eq_of_lt (by omega)]; omega
  rw [← back xs hx, ← back ys hy, h']

theorem or16 (a b : Int) (a0 : 0 ≤ a) (a1 : a ≤ 255) (b0 : 0 ≤ b) (b1 : b ≤ 255) : bits .or .i64 (a * 256) b = a * 256 + b := by
  obtain ⟨m, rfl⟩ := Int.eq_ofNat_of_zero_le a0
  obtain ⟨n, rfl⟩ := Int.eq_ofNat_of_zero_le b0
  have e : ((m : Int) * 256) = ((m * 256 : Nat) : Int) := by omega
  rw [e]
  have hor : m * 256 ||| n = m * 256 + n := by
    have := Nat.two_pow_add_eq_or_of_lt (i := 8) (b := n) (by omega) m
    rw [Nat.mul_comm m 256]
    exact this.symm
  have h1 : (BitVec.ofInt 64 ((m * 256 : Nat) : Int)).toNat = m * 256 := by
    rw [BitVec.ofInt_natCast, BitVec.toNat_ofNat]; exact Nat.mod_eq_of_lt (by omega)
  have h2 : (BitVec.ofInt 64 (n : Int)).toNat = n := by
    rw [BitVec.ofInt_natCast, BitVec.toNat_ofNat]; exact Nat.mod_eq_of_lt (by omega)
  show IntKind.i64.wrap ((BitVec.ofInt 64 ((m * 256 : Nat) : Int) ||| BitVec.ofInt 64 (n : Int)).toNat : Int) = _
  rw [BitVec.toNat_or, h1, h2, hor, IntKind.wrap_i64]
  omega
theorem xor8_range (a b : Int) : 0 ≤ bits .xor .u8 a b ∧ bits .xor .u8 a b ≤ 255 := by
  show 0 ≤ IntKind.u8.wrap _ ∧ IntKind.u8.wrap _ ≤ 255
  rw [IntKind.wrap_u8]; omega

theorem u8_infoB : (Try.prog.info? 5).map (fun i => (i.zero, i.size, i.bytes)) = some (some (.int .u8 0), 1, 1) := by kernel_rfl

/-- A slice in a block from base on, or in none. -/
def Fresh (base : Nat) (A : Option Addr) : Prop := ∀ b off, A = some ⟨b, off, none⟩ → base ≤ b
theorem Fresh.nil (base : Nat) : Fresh base none := fun _ _ h => by cases h
theorem Fresh.le {base base' : Nat} {A : Option Addr} (h : Fresh base A) (hb : base' ≤ base) : Fresh base' A := fun b off e => Nat.le_trans hb (h b off e)

theorem Own.slf {e : TypeId} {w : World} {base : Nat} {v : Value} {zs : List Int} (h : Own .u8 e w base v zs) (hz : ∀ n ∈ zs, 0 ≤ n ∧ n ≤ 255) : ∃ A n cap, v = .slice A n cap ∧ Sl w A n cap zs ∧ Fresh base A := by
  obtain ⟨A, n, cap, hv, hs⟩ := h.sl hz
  refine ⟨A, n, cap, hv, hs, fun b off e => ?_⟩
  subst e
  have hl := h.lt
  rcases h.2 with ⟨h', _⟩ | ⟨g, cap', cur, h', _⟩
  · rw [hv] at h'; cases h'
  · rw [h'] at hl; rw [hv] at h'; cases h'
    exact (hl _ rfl).1

theorem RowK.part {k : IntKind} {w : World} {b off n : Nat} {zs : List Int} (h : RowK k w (some ⟨b, off, none⟩) n zs) (lo m : Nat) (hm : lo + m ≤ n) : RowK k w (some ⟨b, off + lo, none⟩) m ((zs.drop lo).take m) :=
  (h.rest lo (by omega) (a' := some ⟨b, off + lo, none⟩) (fun b' off' e _ => by cases e; rfl)).cut m (by omega)

theorem grown_set (w : World) (p : Addr) (x : Value) : w.grownBy (w.setCell p x) (some p.block) :=
  ⟨rfl, rfl, rfl, by simp [World.setCell], fun i _ hne => Below.heap_setCell _ _ _ _ (by intro e; exact hne (by rw [e]))⟩
theorem Own.outside {k : IntKind} {e : TypeId} {w : World} {base : Nat} {v : Value} {zs : List Int} (h : Own k e w base v zs) {p : Addr} (hp : p.block < base) (x : Value) : Own k e (w.setCell p x) base v zs := by
  refine h.kept (grown_set w p x) ?_
  rcases hv : v.ownBlock with _ | b
  · exact .inl rfl
  · refine .inr fun e => ?_
    have := (h.lt b hv).1
    have e2 : b = p.block := by simpa using e
    omega

theorem Sl.outside {w : World} {A : Option Addr} {n cap : Nat} {zs : List Int} (h : Sl w A n cap zs) {base : Nat} (hf : Fresh base A) {p : Addr} (hp : p.block < base) (x : Value) : Sl (w.setCell p x) A n cap zs :=
  ⟨h.1.beside (grown_set w p x) (fun b off e => by have := hf b off e; intro e'; cases e'; omega), h.2⟩

/-- A part of a row of the call's own, from its beginning on. -/
theorem Own.part {k : IntKind} {e : TypeId} {w : World} {base g n cap : Nat} {zs : List Int} (h : Own k e w base (.slice (some ⟨g, 0, none⟩) n cap) zs) (m : Nat) (hm : m ≤ n) : Own k e w base (.slice (some ⟨g, 0, none⟩) m cap) (zs.take m) := by
  obtain ⟨h1, h2⟩ := h
  rcases h2 with ⟨h2, _⟩ | ⟨g', cap', cur, h2, hg, hh, hn, hc, hs, ht⟩
  · cases h2
  · cases h2
    simp only [Nat.mul_one, List.length_map] at h1 ht
    have hlen : (zs.take m).length = m := by simp; omega
    refine ⟨by simp, .inr ⟨g, cap, cur, by rw [hlen], hg, hh, by rw [hlen]; omega, hc, hs, ?_⟩⟩
    rw [hlen, Nat.mul_one, List.map_take, ← ht, List.take_take]
    congr 1; omega

theorem RowK.drew {k : IntKind} {w : World} {a : Option Addr} {n : Nat} {zs : List Int} (h : RowK k w a n zs) : RowK k w.drew a n zs := h

theorem Own.slN {e : TypeId} {w : World} {base n : Nat} {v : Value} {zs : List Int} (h : Own .u8 e w base v zs) (hz : ∀ n ∈ zs, 0 ≤ n ∧ n ≤ 255) (hl : zs.length = n) : ∃ A cap, v = .slice A n cap ∧ Sl w A n cap zs ∧ Fresh base A := by
  obtain ⟨A, m, cap, hv, hs, hf⟩ := h.slf hz
  have hm : m = n := hs.len.symm.trans hl
  subst hm
  exact ⟨A, cap, hv, hs, hf⟩
theorem Own.slG {e : TypeId} {w : World} {base n : Nat} {v : Value} {zs : List Int} (h : Own .u8 e w base v zs) (hz : ∀ n ∈ zs, 0 ≤ n ∧ n ≤ 255) (hl : zs.length = n) (hn : 0 < n) : ∃ g cap, v = .slice (some ⟨g, 0, none⟩) n cap ∧ Sl w (some ⟨g, 0, none⟩) n cap zs ∧ base ≤ g := by
  obtain ⟨A, cap, hv, hs, _⟩ := h.slN hz hl
  have hl' := h.lt
  rcases h.2 with ⟨h', _⟩ | ⟨g, cap', cur, h', _⟩
  · rw [hv] at h'; cases h'; omega
  · rw [h'] at hl'; rw [hv] at h'; cases h'
    exact ⟨g, cap, hv, hs, (hl' _ rfl).1⟩

/-- A slice of bytes of at most m. -/
def SomeB (m : Nat) (w : World) (e : Ending) (w' : World) : Prop :=
  ∃ A n cap ys, e = .returned (.slice A n cap) ∧ Sl w' A n cap ys ∧ n ≤ m ∧ Below w.heap.size w w' ∧ Fresh w.heap.size A

def sliceLen : Value → Nat
  | .slice _ n _ => n
  | _ => 0

/-- The beginning of a slice of bytes. -/
theorem Sl.cut {w : World} {A : Option Addr} {n cap : Nat} {zs : List Int} (h : Sl w A n cap zs) (m : Nat) (hm : m ≤ n) : Sl w A m cap (zs.take m) := by
  refine ⟨h.1.cut m hm, Nat.le_trans hm h.2.1, h.2.2.1, ?_⟩
  rcases h.2.2.2 with ⟨h1, h2⟩ | h1
  · exact .inl ⟨by omega, h2⟩
  · exact .inr h1

end Go.Proofs.Ytkhkmgblgonfoaa
