/-
  A decoder's memory while it reads: its reader, the record that it builds, and its result.
-/
import Derived.Test.YtihacmonohjmaaaQReader
namespace Go.Proofs.Ytihacmonohjmaaa
open Go.RowKit

/-- Cells in a block that can be written. -/
structure BoxAt (w : World) (g : Nat) (cs : List Value) : Prop where
  c : ∀ i v, cs[i]? = some v → w.cell? ⟨g, i, none⟩ = some v
  fz : ∀ o, w.frozen? ⟨g, o, none⟩ = false
  lt : g < w.heap.size
theorem BoxAt.grown {w w' : World} {g : Nat} {cs : List Value} {row : Option Nat} (h : BoxAt w g cs) (hg : w.grownBy w' row) (hne : some g ≠ row) : BoxAt w' g cs :=
  ⟨fun i v e => hg.cell (h.c i v e) hne, fun o => (hg.frozen_far ⟨g, o, none⟩ h.lt hne).trans (h.fz o), Nat.lt_of_lt_of_le h.lt hg.size⟩
theorem BoxAt.keep {w w' : World} {g : Nat} {cs : List Value} (hb : Below w.heap.size w w') (h : BoxAt w g cs) : BoxAt w' g cs := h.grown (below_grown (row := none) hb) (by simp)
theorem BoxAt.new (w : World) (cs : List Value) (T : TypeId) : BoxAt (w.alloc (.cells cs.toArray T)) w.heap.size cs :=
  ⟨fun i v e => by simp [go_sem, e], fun o => by simp [go_sem], by simp⟩
theorem BoxAt.set {w : World} {g : Nat} {cs : List Value} (h : BoxAt w g cs) (i : Nat) (x : Value) (hi : i < cs.length) : BoxAt (w.setCell ⟨g, i, none⟩ x) g (cs.set i x) := by
  refine ⟨fun j v e => ?_, fun o => by simp [go_sem, h.fz], by simpa [World.setCell] using h.lt⟩
  rw [List.getElem?_set] at e
  by_cases hj : i = j
  · subst hj
    rw [if_pos rfl, if_pos hi] at e
    cases e
    have := h.c i _ (List.getElem?_eq_getElem hi)
    simp [go_sem, this]
  · rw [if_neg hj] at e
    have := h.c j v e
    simp [go_sem, this]

/-- The whole of it: w0 is the world ahead of the call. -/
structure Dst (w0 W : World) (R r g : Nat) (A : Option Addr) (n cap : Nat) (l : Bool) (s : S5.St) (rs cs : List Value) : Prop where
  below : Below w0.heap.size w0 W
  rd : Rd W r A n cap l s
  tk : BoxAt W g cs
  res : BoxAt W R rs
  hr : w0.heap.size ≤ r
  hg : w0.heap.size ≤ g
  gr : g ≠ r
  Rr : R ≠ r
  Rg : R ≠ g
theorem Dst.read {w0 W W' : World} {R r g : Nat} {A : Option Addr} {n cap : Nat} {l : Bool} {s s' : S5.St} {rs cs : List Value} (h : Dst w0 W R r g A n cap l s rs cs) (hg : W.grownBy W' (some r)) (hr : Rd W' r A n cap l s') : Dst w0 W' R r g A n cap l s' rs cs :=
  ⟨h.below.grown hg h.below.size (fun k e => by cases e; exact h.hr), hr, h.tk.grown hg (by have := h.gr; simpa using this), h.res.grown hg (by have := h.Rr; simpa using this), h.hr, h.hg, h.gr, h.Rr, h.Rg⟩
theorem Dst.set {w0 W : World} {R r g : Nat} {A : Option Addr} {n cap : Nat} {l : Bool} {s : S5.St} {rs cs : List Value} (h : Dst w0 W R r g A n cap l s rs cs) (i : Nat) (x : Value) (hi : i < cs.length) : Dst w0 (W.setCell ⟨g, i, none⟩ x) R r g A n cap l s rs (cs.set i x) :=
  ⟨h.below.grown (grown_set W ⟨g, i, none⟩ x) h.below.size (fun k e => by cases e; exact h.hg), h.rd.grown (grown_set W ⟨g, i, none⟩ x) (by have := h.gr; simpa using Ne.symm this), h.tk.set i x hi, h.res.grown (grown_set W ⟨g, i, none⟩ x) (by have := h.Rg; simpa using this), h.hr, h.hg, h.gr, h.Rr, h.Rg⟩
theorem Dst.keep {w0 W W' : World} {R r g : Nat} {A : Option Addr} {n cap : Nat} {l : Bool} {s : S5.St} {rs cs : List Value} (h : Dst w0 W R r g A n cap l s rs cs) (hb : Below W.heap.size W W') : Dst w0 W' R r g A n cap l s rs cs :=
  ⟨below_keep' hb h.below, h.rd.keep hb, h.tk.keep hb, h.res.keep hb, h.hr, h.hg, h.gr, h.Rr, h.Rg⟩
where below_keep' {w W W' : World} (hb : Below W.heap.size W W') (h : Below w.heap.size w W) : Below w.heap.size w W' := h.trans (hb.mono h.size)

/-- A method of the reader, with names for what it returns and leaves. -/

theorem dnumber {w0 W : World} {R r g : Nat} {A : Option Addr} {n cap : Nat} {l : Bool} {s : S5.St} {rs cs : List Value} {zs : List Int} (h : Dst w0 W R r g A n cap l s rs cs) (hs : Sl W A n cap zs) (hn : n ≤ 100000) (v : Int) (s' : S5.St) (hv : v = S5.getV zs s.at' 4 l) (hs' : s' = s.move (S5.getN zs s.at' 4) (S5.getE zs s.at' 4)) :
    Calls Try.prog 44 #[.pointer (some ⟨r, 0, none⟩)] W fun e W' => e = .returned (.int .i64 v) ∧ Dst w0 W' R r g A n cap l s' rs cs := by
  subst hv hs'
  exact (rnumber_any r A n cap l s zs W h.rd hs hn).mono fun e W' ⟨he, hr, hg⟩ => ⟨he, h.read hg hr⟩

theorem doctet {w0 W : World} {R r g : Nat} {A : Option Addr} {n cap : Nat} {l : Bool} {s : S5.St} {rs cs : List Value} {zs : List Int} (h : Dst w0 W R r g A n cap l s rs cs) (hs : Sl W A n cap zs) (hn : n ≤ 100000) (v : Int) (s' : S5.St) (hv : v = S5.getV zs s.at' 1 false) (hs' : s' = s.move (S5.getN zs s.at' 1) (S5.getE zs s.at' 1)) :
    Calls Try.prog 42 #[.pointer (some ⟨r, 0, none⟩)] W fun e W' => e = .returned (.int .i64 v) ∧ Dst w0 W' R r g A n cap l s' rs cs := by
  subst hv hs'
  exact (roctet_any r A n cap l s zs W h.rd hs hn).mono fun e W' ⟨he, hr, hg⟩ => ⟨he, h.read hg hr⟩

theorem dtext {w0 W : World} {R r g : Nat} {A : Option Addr} {n cap : Nat} {l : Bool} {s : S5.St} {rs cs : List Value} {zs : List Int} (h : Dst w0 W R r g A n cap l s rs cs) (hs : Sl W A n cap zs) (hn : n ≤ 100000) (v : ByteArray) (s' : S5.St) (hv : v = strOfNums (S5.txS zs s.at')) (hs' : s' = s.move (S5.txN zs s.at') (S5.txE zs s.at')) :
    Calls Try.prog 67 #[.pointer (some ⟨r, 0, none⟩)] W fun e W' => e = .returned (.string v) ∧ Dst w0 W' R r g A n cap l s' rs cs := by
  subst hv hs'
  exact (rtext_any r A n cap l s zs W h.rd hs hn).mono fun e W' ⟨he, hr, hg⟩ => ⟨he, h.read hg hr⟩

theorem dprincipal {w0 W : World} {R r g : Nat} {A : Option Addr} {n cap : Nat} {l : Bool} {s : S5.St} {rs cs : List Value} {zs : List Int} (h : Dst w0 W R r g A n cap l s rs cs) (hs : Sl w0 A n cap zs) (hn : n ≤ 100000) (a b c : ByteArray) (s1 s2 s3 : S5.St) (ha : a = strOfNums (S5.txS zs s.at')) (h1 : s1 = s.move (S5.txN zs s.at') (S5.txE zs s.at'))
    (hb : b = strOfNums (S5.txS zs s1.at')) (h2 : s2 = s1.move (S5.txN zs s1.at') (S5.txE zs s1.at')) (hc : c = strOfNums (S5.txS zs s2.at')) (h3 : s3 = s2.move (S5.txN zs s2.at') (S5.txE zs s2.at')) :
    Calls Try.prog 43 #[.pointer (some ⟨r, 0, none⟩)] W fun e W' => e = .returned (.agg #[.string a, .string b, .string c]) ∧ Dst w0 W' R r g A n cap l s3 rs cs := by
  subst ha hb hc
  exact (rprincipal_any r A n cap l s s1 s2 s3 zs W h.rd (fun W' hg => hs.keep (h.below.grown hg h.below.size (fun k e => by cases e; exact h.hr))) hn h1 h2 h3).mono fun e W' ⟨he, hr, hg⟩ => ⟨he, h.read hg hr⟩


theorem part_range {zs : List Int} (hz : ∀ z ∈ zs, 0 ≤ z ∧ z ≤ 255) (at' : Int) (k : Nat) : ∀ z ∈ S5.part zs at' k, 0 ≤ z ∧ z ≤ 255 := fun z h => hz z (List.mem_of_mem_drop (List.mem_of_mem_take h))
theorem getV_range {zs : List Int} (hz : ∀ z ∈ zs, 0 ≤ z ∧ z ≤ 255) (at' : Int) (k : Nat) (l : Bool) (hk : k ≤ 4) : 0 ≤ S5.getV zs at' k l ∧ S5.getV zs at' k l ≤ 4294967295 := by
  unfold S5.getV
  split
  · rename_i he
    have hp := part_range hz at' k
    have hl := (S5.part_len he).1
    have ht : S3.top k ≤ 4294967296 := by
      match k, hk with
      | 0, _ => decide
      | 1, _ => decide
      | 2, _ => decide
      | 3, _ => decide
      | 4, _ => decide
    split
    · have := S3.num_lt (zs := (S5.part zs at' k).reverse) (fun z h => hp z (List.mem_reverse.1 h))
      rw [List.length_reverse, hl] at this
      omega
    · have := S3.num_lt hp
      rw [hl] at this
      omega
  · omega
theorem byS_range {zs : List Int} (hz : ∀ z ∈ zs, 0 ≤ z ∧ z ≤ 255) (at' m : Int) : ∀ z ∈ S5.byS zs at' m, 0 ≤ z ∧ z ≤ 255 := by
  unfold S5.byS
  split
  · exact part_range hz _ _
  · intro z h; cases h
theorem readN_range {zs : List Int} (hz : ∀ z ∈ zs, 0 ≤ z ∧ z ≤ 255) : 0 ≤ S3.readN zs ∧ S3.readN zs ≤ 18446744073709551615 := by
  unfold S3.readN
  split
  · rename_i h
    unfold S3.readOk at h
    simp only [Bool.and_eq_true, decide_eq_true_eq] at h
    have := S3.num_lt hz
    rw [h.1] at this
    have e : S3.top 8 = 18446744073709551616 := by decide
    omega
  · omega
theorem txS_size (zs : List Int) (at' : Int) : (strOfNums (S5.txS zs at')).size ≤ maxLen := by
  rw [strOfNums_size]; exact Nat.le_trans (S5.txS_len _ _) (by decide)

end Go.Proofs.Ytihacmonohjmaaa
