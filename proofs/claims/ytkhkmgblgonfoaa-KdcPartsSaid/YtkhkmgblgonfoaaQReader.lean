/-
  What the proof wants: Reader, Dst, ReaderB.
-/
import Derived.Test.YtkhkmgblgonfoaaQFieldRN
import Derived.Test.YtkhkmgblgonfoaaQFieldRT
import Derived.Test.YtkhkmgblgonfoaaQFieldPlain
import Derived.Test.YtkhkmgblgonfoaaQBoxAt
import Derived.Maps.RangeWalk
import Derived.Deep.RegionHeld3
import Derived.Deep.AppendLies

/-
  The reader of the document's answers: what its methods return, and what becomes of it.
-/
namespace Go.Proofs.Ytkhkmgblgonfoaa
open Go.RowKit

/-- A reader in a block. -/
structure Rd (w : World) (r : Nat) (A : Option Addr) (n cap : Nat) (l : Bool) (s : S5.St) : Prop where
  c0 : w.cell? ⟨r, 0, none⟩ = some (.slice A n cap)
  c1 : w.cell? ⟨r, 1, none⟩ = some (.int .i64 s.at')
  c2 : w.cell? ⟨r, 2, none⟩ = some (.bool l)
  c3 : w.cell? ⟨r, 3, none⟩ = some (.bool s.bad)
  fz : ∀ o, w.frozen? ⟨r, o, none⟩ = false
theorem Rd.keep {w w' : World} {r : Nat} {A : Option Addr} {n cap : Nat} {l : Bool} {s : S5.St} (hb : Below w.heap.size w w') (h : Rd w r A n cap l s) : Rd w' r A n cap l s :=
  ⟨cell_keep hb h.c0, cell_keep hb h.c1, cell_keep hb h.c2, cell_keep hb h.c3, fun o => ((bcell hb).2 _ _ (cell_lt h.c0)).trans (h.fz o)⟩

/-- What a method leaves behind. -/
def RdOut (v : Value) (w : World) (r : Nat) (A : Option Addr) (n cap : Nat) (l : Bool) (s : S5.St) (e : Ending) (w' : World) : Prop := e = .returned v ∧ Rd w' r A n cap l s ∧ w.grownBy w' (some r)

theorem Rd.grown {w w' : World} {r : Nat} {A : Option Addr} {n cap : Nat} {l : Bool} {s : S5.St} {row : Option Nat} (h : Rd w r A n cap l s) (hg : w.grownBy w' row) (hne : some r ≠ row) : Rd w' r A n cap l s :=
  ⟨hg.cell h.c0 hne, hg.cell h.c1 hne, hg.cell h.c2 hne, hg.cell h.c3 hne, fun o => (hg.frozen_far ⟨r, o, none⟩ (cell_lt h.c0) hne).trans (h.fz o)⟩
theorem grown_new {w w1 : World} {row : Option Nat} (h : w.grownBy w1 row) (p : Addr) (x : Value) (hp : w.heap.size ≤ p.block) : w.grownBy (w1.setCell p x) row :=
  h.andThen (grown_set w1 p x) (fun j e => .inl (by cases e; exact hp))

theorem rd_at {w : World} {r : Nat} {A : Option Addr} {n cap : Nat} {l bad : Bool} {at' next : Int} (h : Rd w r A n cap l ⟨at', bad⟩) : Rd (w.setCell ⟨r, 1, none⟩ (.int .i64 next)) r A n cap l ⟨next, bad⟩ := by
  obtain ⟨c0, c1, c2, c3, fz⟩ := h
  exact ⟨by simp [go_sem, c0], by simp [go_sem, c1], by simp [go_sem, c2], by simp [go_sem, c3], fun o => by simp [go_sem, fz]⟩
theorem rd_bad {w : World} {r : Nat} {A : Option Addr} {n cap : Nat} {l bad b : Bool} {at' : Int} (h : Rd w r A n cap l ⟨at', bad⟩) : Rd (w.setCell ⟨r, 3, none⟩ (.bool b)) r A n cap l ⟨at', b⟩ := by
  obtain ⟨c0, c1, c2, c3, fz⟩ := h
  exact ⟨by simp [go_sem, c0], by simp [go_sem, c1], by simp [go_sem, c2], by simp [go_sem, c3], fun o => by simp [go_sem, fz]⟩





/-- What Bytes leaves behind. -/
def RdBytes (ys : List Int) (w : World) (r : Nat) (A : Option Addr) (n cap : Nat) (l : Bool) (s : S5.St) (e : Ending) (w' : World) : Prop :=
  ∃ A2 m c2, e = .returned (.slice A2 m c2) ∧ Sl w' A2 m c2 ys ∧ Rd w' r A n cap l s ∧ w.grownBy w' (some r)



end Go.Proofs.Ytkhkmgblgonfoaa

/-
  A decoder's memory while it reads: its reader, the record that it builds, and its result.
-/
namespace Go.Proofs.Ytkhkmgblgonfoaa
open Go.RowKit

/-- The whole of it: w0 is the world ahead of the call. -/
structure Dst (w0 W : World) (R r g : Nat) (A : Option Addr) (n cap : Nat) (l : Bool) (s : S5.St) (rs cs : List Value) : Prop where
  below : Below w0.heap.size w0 W
  rd : Rd W r A n cap l s
  tk : BoxAt W g cs
  res : BoxAt W R rs
  hr : w0.heap.size ≤ r
  hg : w0.heap.size ≤ g
  gr : g ≠ r
  Rr : R ≠ r
  Rg : R ≠ g
theorem Dst.read {w0 W W' : World} {R r g : Nat} {A : Option Addr} {n cap : Nat} {l : Bool} {s s' : S5.St} {rs cs : List Value} (h : Dst w0 W R r g A n cap l s rs cs) (hg : W.grownBy W' (some r)) (hr : Rd W' r A n cap l s') : Dst w0 W' R r g A n cap l s' rs cs :=
  ⟨h.below.grown hg h.below.size (fun k e => by cases e; exact h.hr), hr, h.tk.grown hg (by have := h.gr; simpa using this), h.res.grown hg (by have := h.Rr; simpa using this), h.hr, h.hg, h.gr, h.Rr, h.Rg⟩
theorem Dst.set {w0 W : World} {R r g : Nat} {A : Option Addr} {n cap : Nat} {l : Bool} {s : S5.St} {rs cs : List Value} (h : Dst w0 W R r g A n cap l s rs cs) (i : Nat) (x : Value) (hi : i < cs.length) : Dst w0 (W.setCell ⟨g, i, none⟩ x) R r g A n cap l s rs (cs.set i x) :=
  ⟨h.below.grown (grown_set W ⟨g, i, none⟩ x) h.below.size (fun k e => by cases e; exact h.hg), h.rd.grown (grown_set W ⟨g, i, none⟩ x) (by have := h.gr; simpa using Ne.symm this), h.tk.set i x hi, h.res.grown (grown_set W ⟨g, i, none⟩ x) (by have := h.Rg; simpa using this), h.hr, h.hg, h.gr, h.Rr, h.Rg⟩
theorem Dst.keep {w0 W W' : World} {R r g : Nat} {A : Option Addr} {n cap : Nat} {l : Bool} {s : S5.St} {rs cs : List Value} (h : Dst w0 W R r g A n cap l s rs cs) (hb : Below W.heap.size W W') : Dst w0 W' R r g A n cap l s rs cs :=
  ⟨below_keep' hb h.below, h.rd.keep hb, h.tk.keep hb, h.res.keep hb, h.hr, h.hg, h.gr, h.Rr, h.Rg⟩
where below_keep' {w W W' : World} (hb : Below W.heap.size W W') (h : Below w.heap.size w W) : Below w.heap.size w W' := h.trans (hb.mono h.size)

/-- A method of the reader, with names for what it returns and leaves. -/






theorem part_range {zs : List Int} (hz : ∀ z ∈ zs, 0 ≤ z ∧ z ≤ 255) (at' : Int) (k : Nat) : ∀ z ∈ S5.part zs at' k, 0 ≤ z ∧ z ≤ 255 := fun z h => hz z (List.mem_of_mem_drop (List.mem_of_mem_take h))
theorem getV_range {zs : List Int} (hz : ∀ z ∈ zs, 0 ≤ z ∧ z ≤ 255) (at' : Int) (k : Nat) (l : Bool) (hk : k ≤ 4) : 0 ≤ S5.getV zs at' k l ∧ S5.getV zs at' k l ≤ 4294967295 := by
  unfold S5.getV
  split
  · rename_i he
    have hp := part_range hz at' k
    have hl := (S5.part_len he).1
    have ht : S3.top k ≤ 4294967296 := by
      match k, hk with
      | 0, _ => decide
      | 1, _ => decide
      | 2, _ => decide
      | 3, _ => decide
      | 4, _ => decide
    split
    · have := S3.num_lt (zs := (S5.part zs at' k).reverse) (fun z h => hp z (List.mem_reverse.1 h))
      rw [List.length_reverse, hl] at this
      omega
    · have := S3.num_lt hp
      rw [hl] at this
      omega
  · omega
theorem byS_range {zs : List Int} (hz : ∀ z ∈ zs, 0 ≤ z ∧ z ≤ 255) (at' m : Int) : ∀ z ∈ S5.byS zs at' m, 0 ≤ z ∧ z ≤ 255 := by
  unfold S5.byS
  split
  · exact part_range hz _ _
  · intro z h; cases h
theorem readN_range {zs : List Int} (hz : ∀ z ∈ zs, 0 ≤ z ∧ z ≤ 255) : 0 ≤ S3.readN zs ∧ S3.readN zs ≤ 18446744073709551615 := by
  unfold S3.readN
  split
  · rename_i h
    unfold S3.readOk at h
    simp only [Bool.and_eq_true, decide_eq_true_eq] at h
    have := S3.num_lt hz
    rw [h.1] at this
    have e : S3.top 8 = 18446744073709551616 := by decide
    omega
  · omega
theorem txS_size (zs : List Int) (at' : Int) : (strOfNums (S5.txS zs at')).size ≤ maxLen := by
  rw [strOfNums_size]; exact Nat.le_trans (S5.txS_len _ _) (by decide)

end Go.Proofs.Ytkhkmgblgonfoaa

/-
  Short and Bytes of the document's reader, with what is known of the bytes' place; bytes beside a decoder's other blocks.
-/
namespace Go.Proofs.Ytkhkmgblgonfoaa
open Go.RowKit
set_option maxRecDepth 100000

def RdBytesF (ys : List Int) (w : World) (r : Nat) (A : Option Addr) (n cap : Nat) (l : Bool) (s : S5.St) (e : Ending) (w' : World) : Prop :=
  ∃ A2 m2 c2, e = .returned (.slice A2 m2 c2) ∧ Sl w' A2 m2 c2 ys ∧ Rd w' r A n cap l s ∧ w.grownBy w' (some r) ∧ ∀ b off, A2 = some ⟨b, off, none⟩ → w.heap.size ≤ b



theorem Sl.beside {w w' : World} {A : Option Addr} {n cap : Nat} {zs : List Int} {row : Option Nat} (h : Sl w A n cap zs) (hg : w.grownBy w' row) (hne : ∀ b off, A = some ⟨b, off, none⟩ → some b ≠ row) : Sl w' A n cap zs := ⟨h.1.beside hg hne, h.2⟩
theorem Sl.set {w : World} {A : Option Addr} {n cap : Nat} {zs : List Int} (h : Sl w A n cap zs) (p : Addr) (x : Value) (hne : ∀ b off, A = some ⟨b, off, none⟩ → b ≠ p.block) : Sl (w.setCell p x) A n cap zs :=
  h.beside (grown_set w p x) (fun b off e => by have := hne b off e; simpa using this)




end Go.Proofs.Ytkhkmgblgonfoaa
