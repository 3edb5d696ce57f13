/-
  What the proof wants: Open, OpenB, OpenQ, OpenS, OpenR, OpenP.
-/
import Derived.Test.YtkhkmgblgonfoaaRows
import Derived.Test.YtkhkmgblgonfoaaQBase
import Derived.OpenShut
import Derived.ShutString
import Derived.HandedShaped
import Derived.Shelf.Vars
import Derived.Lib.SmallJoins
import Derived.Test.YtkhkmgblgonfoaaQFieldPlain

/-
  What an argument's value looks like, from its type alone: strings, integers, bools, and structs of such cells.
-/
namespace Go.Proofs.Ytkhkmgblgonfoaa
set_option maxRecDepth 100000
open Go.ChangeShapes Go.WideShapes Go.ChangeAt Go.RowKit

theorem own : ownKnob Try.prog.godebug = none := by kernel_rfl
theorem laidOut : laidOutB Try.prog = true := by kernel_rfl

section
variable {P : Program} {w : World} {r : Reach} {b : Nat} {t : TypeId} {v : Value}

theorem cellw_string (hs : P.underlying t = some .string) (h : Cell.okWide P w r b t v) : ∃ s : ByteArray, v = .string s ∧ s.size ≤ maxLen := by
  simp only [Cell.okWide, hs] at h
  cases v <;> simp_all [Cell.ok]
  rename_i s
  have e : IntKind.i64.max = 9223372036854775807 := rfl
  unfold maxLen; omega

theorem cellw_int {k : IntKind} (hs : P.underlying t = some (.int k)) (h : Cell.okWide P w r b t v) : ∃ n : Int, v = .int k n ∧ k.min ≤ n ∧ n ≤ k.max := by
  simp only [Cell.okWide, hs] at h
  cases v <;> simp_all [Cell.ok, IntKind.has]

theorem cellw_bool (hs : P.underlying t = some .bool) (h : Cell.okWide P w r b t v) : ∃ x : Bool, v = .bool x := by
  simp only [Cell.okWide, hs] at h
  cases v <;> simp_all [Cell.ok]

theorem okw_string (hs : P.underlying t = some .string) (h : Value.okWide P w r b t v) : ∃ s : ByteArray, v = .string s ∧ s.size ≤ maxLen := by
  simp only [Value.okWide, hs] at h
  exact cellw_string hs h

theorem okw_int {k : IntKind} (hs : P.underlying t = some (.int k)) (h : Value.okWide P w r b t v) : ∃ n : Int, v = .int k n ∧ k.min ≤ n ∧ n ≤ k.max := by
  simp only [Value.okWide, hs] at h
  exact cellw_int hs h

theorem okw_bool (hs : P.underlying t = some .bool) (h : Value.okWide P w r b t v) : ∃ x : Bool, v = .bool x := by
  simp only [Value.okWide, hs] at h
  exact cellw_bool hs h

/-- A struct (or an array) of cells of the types ts. -/
theorem okw_agg {ts : List TypeId} (hs : (∃ fs, P.underlying t = some (.struct fs)) ∨ ∃ n e, P.underlying t = some (.array n e)) (hc : P.cellTypes P.depth t = some ts) (hn : P.cellsOf t = ts.length)
    (h : Value.okWide P w r b t v) : ∃ cs : Array Value, v = .agg cs ∧ cs.size = ts.length ∧ ∀ (i : Nat) (u : TypeId), ts[i]? = some u → ∃ x, cs[i]? = some x ∧ Cell.okWide P w r b u x := by
  have h' : ∃ cs, v = .agg cs ∧ cs.size = P.cellsOf t ∧ Row.okWide P w r b t cs := by
    rcases hs with ⟨fs, hs⟩ | ⟨n, e, hs⟩ <;> simpa only [Value.okWide, hs] using h
  obtain ⟨cs, rfl, h2, ts', h3, _, h4⟩ := h'
  rw [hc] at h3
  cases h3
  refine ⟨cs, rfl, h2.trans hn, fun i u hu => ?_⟩
  have hi : i < ts.length := by
    rcases Nat.lt_or_ge i ts.length with e | e
    · exact e
    · rw [List.getElem?_eq_none e] at hu; cases hu
  have hi' : i < cs.size := by rw [h2, hn]; exact hi
  refine ⟨cs[i], by simp [hi'], ?_⟩
  obtain ⟨u', hu', ho⟩ := h4 i cs[i] (by simp [hi'])
  rw [Nat.mod_eq_of_lt hi, hu] at hu'
  cases hu'
  exact ho

theorem arr3 {cs : Array Value} {a b c : Value} (h : cs.size = 3) (h0 : cs[0]? = some a) (h1 : cs[1]? = some b) (h2 : cs[2]? = some c) : cs = #[a, b, c] := by
  obtain ⟨l⟩ := cs
  match l, h with
  | [x, y, z], _ => simp at h0 h1 h2; subst h0 h1 h2; rfl

end

/-- A principal. -/
theorem okw_principal {w : World} {r : Reach} {b : Nat} {v : Value} (h : Value.okWide Try.prog w r b 23 v) :
    ∃ a c d : ByteArray, v = .agg #[.string a, .string c, .string d] ∧ a.size ≤ maxLen ∧ c.size ≤ maxLen ∧ d.size ≤ maxLen := by
  obtain ⟨cs, rfl, hn, hi⟩ := okw_agg (ts := [9, 9, 9]) (.inl ⟨_, Try.underlying23⟩) (by kernel_rfl) (by kernel_rfl) h
  obtain ⟨x0, e0, k0⟩ := hi 0 _ rfl
  obtain ⟨x1, e1, k1⟩ := hi 1 _ rfl
  obtain ⟨x2, e2, k2⟩ := hi 2 _ rfl
  obtain ⟨a, rfl, ha⟩ := cellw_string Try.underlying9 k0
  obtain ⟨c, rfl, hc⟩ := cellw_string Try.underlying9 k1
  obtain ⟨d, rfl, hd⟩ := cellw_string Try.underlying9 k2
  exact ⟨a, c, d, by rw [arr3 hn e0 e1 e2], ha, hc, hd⟩

/-- A slice of bytes that came in: where it has elements they lie in a row of cells, each from 0 to 255. -/
def RowU8 (w : World) (a : Option Addr) (len : Nat) (zs : List Int) : Prop :=
  len ≤ zs.length ∧ (0 < len → ∃ b off, a = some ⟨b, off, none⟩ ∧ (∀ i, i < zs.length → w.cell? ⟨b, off + i, none⟩ = some (.int .u8 (zs.getD i 0)))) ∧ ∀ n ∈ zs, 0 ≤ n ∧ n ≤ 255

theorem isRow_of {H : Type} {enc : TypeId × Value → H} {P : Program} {w : World} {n0 : Nat} {h : Bool} {t e : TypeId} {d : DataW H} {p : List MemPlace} {a : Option Addr} {len cap : Nat}
    (ht : P.underlying t = some (.slice e)) (he : P.underlying e = some (.int .u8)) (hc : P.cellsOf e = 1) (k : DataW.Trod enc P w n0 (fun _ => true) h t (.slice a len cap) d p) : ∃ zs, RowU8 w a len zs := by
  obtain ⟨fuel, hf⟩ := k
  rcases open_ints ht he hc hf with ⟨hcs, _⟩ | ⟨x, l, c, zs, hcs, _, hl, hm, hz, _, hcell, hwz⟩
  · simp [Value.cells] at hcs
    obtain ⟨rfl, rfl, rfl⟩ := hcs
    exact ⟨[], Nat.le_refl _, fun h => absurd h (Nat.lt_irrefl _), by simp⟩
  · simp [Value.cells] at hcs
    obtain ⟨rfl, rfl, rfl⟩ := hcs
    have hz' : zs.length = cap := by simpa using hz
    refine ⟨zs, by omega, fun hp => ?_, fun n hn => ?_⟩
    · obtain ⟨b, off, spot⟩ := x
      have h0 := hcell 0 (by omega)
      have hs : spot = none := by simpa [Addr.add] using World.cell?_spot h0
      subst hs
      refine ⟨b, off, rfl, fun i hi => ?_⟩
      have hi' := hcell i hi
      unfold Addr.add at hi'
      by_cases e0 : i = 0
      · subst e0; simpa using hi'
      · simpa [e0] using hi'
    · have := hwz n hn
      simpa [Lit.wf, IntKind.min, IntKind.max, IntKind.signed, IntKind.bits] using this

theorem RowU8.at {w : World} {a : Option Addr} {len : Nat} {zs : List Int} (h : RowU8 w a len zs) {k : Nat} (hk : k < len) : ∃ b off, ∃ z : Int, a = some ⟨b, off, none⟩ ∧ (0 ≤ z ∧ z ≤ 255) ∧ w.cell? ⟨b, off + k, none⟩ = some (.int .u8 z) := by
  obtain ⟨h1, h2, h3⟩ := h
  obtain ⟨b, off, e, hc⟩ := h2 (by omega)
  have hl : k < zs.length := by omega
  refine ⟨b, off, zs.getD k 0, e, h3 _ ?_, hc k hl⟩
  rw [List.getD_eq_getElem?_getD, List.getElem?_eq_getElem hl]; exact List.getElem_mem hl

/-- A slice of numbers that came in. -/
theorem isRowK_of {H : Type} {enc : TypeId × Value → H} {P : Program} {w : World} {n0 : Nat} {h : Bool} {t e : TypeId} {k : IntKind} {d : DataW H} {p : List MemPlace} {a : Option Addr} {len cap : Nat}
    (ht : P.underlying t = some (.slice e)) (he : P.underlying e = some (.int k)) (hc : P.cellsOf e = 1) (m : DataW.Trod enc P w n0 (fun _ => true) h t (.slice a len cap) d p) : ∃ zs, RowK k w a len zs ∧ len ≤ maxLen := by
  obtain ⟨fuel, hf⟩ := m
  rcases open_ints ht he hc hf with ⟨hcs, _⟩ | ⟨x, l, c, zs, hcs, _, hl, hm, hz, _, hcell, hwz⟩
  · simp [Value.cells] at hcs
    obtain ⟨rfl, rfl, rfl⟩ := hcs
    exact ⟨[], ⟨rfl, by simp, fun h => absurd h (Nat.lt_irrefl _)⟩, by decide⟩
  · simp [Value.cells] at hcs
    obtain ⟨rfl, rfl, rfl⟩ := hcs
    have hz' : zs.length = cap := by simpa using hz
    have hlen : (zs.take len).length = len := by simp; omega
    refine ⟨zs.take len, ⟨hlen, fun n hn => ?_, fun hp => ?_⟩, by omega⟩
    · have := hwz n (List.mem_of_mem_take hn)
      simpa [Lit.wf] using this
    · obtain ⟨b, off, spot⟩ := x
      have h0 := hcell 0 (by omega)
      have hs : spot = none := by simpa [Addr.add] using World.cell?_spot h0
      subst hs
      refine ⟨b, off, rfl, fun i hi => ?_⟩
      have hi1 : i < zs.length := by omega
      have hi' := hcell i hi1
      rw [List.getD_eq_getElem?_getD, List.getElem?_eq_getElem hi1] at hi'
      rw [List.getElem_take]
      unfold Addr.add at hi'
      by_cases e0 : i = 0
      · subst e0; simpa using hi'
      · simpa [e0] using hi'

/-- What a reading met lies below the heap's size. -/
theorem trod_below {H : Type} {enc : TypeId × Value → H} {w : World} {n : Nat} {f : Nat → Bool} {h : Bool} {t : TypeId} {v : Value} {d : DataW H} {p : List MemPlace} (k : DataW.Trod enc Try.prog w n f h t v d p) : ∀ x ∈ p, x.block < w.heap.size := by
  obtain ⟨m, hm⟩ := k
  exact DataW.trod_lt m _ _ _ hm

end Go.Proofs.Ytkhkmgblgonfoaa

/-
  Arguments that are slices of bytes, with their room; arrays of two bytes.
-/
namespace Go.Proofs.Ytkhkmgblgonfoaa
set_option maxRecDepth 100000
open Go.ChangeShapes Go.WideShapes Go.ChangeAt Go.RowKit

/-- A slice of bytes that came in. -/
theorem isSl_of {H : Type} {enc : TypeId × Value → H} {P : Program} {w : World} {n0 : Nat} {h : Bool} {t e : TypeId} {d : DataW H} {p : List MemPlace} {a : Option Addr} {len cap : Nat}
    (ht : P.underlying t = some (.slice e)) (he : P.underlying e = some (.int .u8)) (hc : P.cellsOf e = 1) (m : DataW.Trod enc P w n0 (fun _ => true) h t (.slice a len cap) d p) : ∃ zs, Sl w a len cap zs := by
  have m' := m
  obtain ⟨zs, hr, _⟩ := isRowK_of ht he hc m
  obtain ⟨fuel, hf⟩ := m'
  rcases open_ints ht he hc hf with ⟨hcs, _⟩ | ⟨x, l, c, ys, hcs, _, hl, hm, hz, _, hcell, _⟩
  · simp [Value.cells] at hcs
    obtain ⟨rfl, rfl, rfl⟩ := hcs
    exact ⟨zs, hr, Nat.le_refl _, by decide, .inl ⟨rfl, rfl⟩⟩
  · simp [Value.cells] at hcs
    obtain ⟨rfl, rfl, rfl⟩ := hcs
    rcases Nat.eq_zero_or_pos cap with h0 | h0
    · subst h0
      have hl0 : len = 0 := by omega
      exact ⟨zs, hr, hl, hm, .inl ⟨hl0, rfl⟩⟩
    · have hz' : ys.length = cap := by simpa using hz
      obtain ⟨b, off, spot⟩ := x
      have h0 := hcell 0 (by omega)
      have hs : spot = none := by simpa [Addr.add] using World.cell?_spot h0
      subst hs
      exact ⟨zs, hr, hl, hm, .inr ⟨b, off, rfl⟩⟩



end Go.Proofs.Ytkhkmgblgonfoaa

/-
  Arguments: KdcRequest.
-/
namespace Go.Proofs.Ytkhkmgblgonfoaa
set_option maxRecDepth 100000
open Go.ChangeShapes Go.WideShapes Go.ChangeAt Go.RowKit

theorem arr_request {cs : Array Value} {a b c d e f g h : Value} (hn : cs.size = 8) (h0 : cs[0]? = some a) (h1 : cs[1]? = some b) (h2 : cs[2]? = some c) (h3 : cs[3]? = some d) (h4 : cs[4]? = some e) (h5 : cs[5]? = some f) (h6 : cs[6]? = some g) (h7 : cs[7]? = some h) :
    cs = #[a, b, c, d, e, f, g, h] := by
  obtain ⟨l⟩ := cs
  match l, hn with
  | [_, _, _, _, _, _, _, _], _ => simp at h0 h1 h2 h3 h4 h5 h6 h7; subst h0 h1 h2 h3 h4 h5 h6 h7; rfl

theorem okw_request {w : World} {r : Reach} {b : Nat} {v : Value} (h : Value.okWide Try.prog w r b 25 v) : ∃ t : S9q.Rq, v = t.val ∧ t.Fit := by
  obtain ⟨cs, rfl, hn, hi⟩ := okw_agg (ts := [4, 9, 9, 9, 3, 3, 9, 9]) (.inl ⟨_, Try.underlying25⟩) (by kernel_rfl) (by kernel_rfl) h
  obtain ⟨x0, e0, k0⟩ := hi 0 _ rfl
  obtain ⟨x1, e1, k1⟩ := hi 1 _ rfl
  obtain ⟨x2, e2, k2⟩ := hi 2 _ rfl
  obtain ⟨x3, e3, k3⟩ := hi 3 _ rfl
  obtain ⟨x4, e4, k4⟩ := hi 4 _ rfl
  obtain ⟨x5, e5, k5⟩ := hi 5 _ rfl
  obtain ⟨x6, e6, k6⟩ := hi 6 _ rfl
  obtain ⟨x7, e7, k7⟩ := hi 7 _ rfl
  obtain ⟨f0, rfl⟩ := cellw_bool Try.underlying4 k0
  obtain ⟨f1, rfl, g1⟩ := cellw_string Try.underlying9 k1
  obtain ⟨f2, rfl, g2⟩ := cellw_string Try.underlying9 k2
  obtain ⟨f3, rfl, g3⟩ := cellw_string Try.underlying9 k3
  obtain ⟨f4, rfl, l4, u4⟩ := cellw_int Try.underlying3 k4
  obtain ⟨f5, rfl, l5, u5⟩ := cellw_int Try.underlying3 k5
  obtain ⟨f6, rfl, g6⟩ := cellw_string Try.underlying9 k6
  obtain ⟨f7, rfl, g7⟩ := cellw_string Try.underlying9 k7
  refine ⟨⟨f0, f1, f2, f3, f4, f5, f6, f7⟩, ?_, ⟨g1, g2, g3, ⟨l4, u4⟩, ⟨l5, u5⟩, g6, g7⟩⟩
  rw [arr_request hn e0 e1 e2 e3 e4 e5 e6 e7]; rfl

end Go.Proofs.Ytkhkmgblgonfoaa

/-
  Arguments that are records with a slice of bytes: what the reading of a record says of a field.
-/
namespace Go.Proofs.Ytkhkmgblgonfoaa
set_option maxRecDepth 100000
open Go.ChangeShapes Go.WideShapes Go.ChangeAt Go.RowKit

theorem mapM_mem {α β : Type} {g : α → Option β} : ∀ {l : List α} {ys : List β}, l.mapM g = some ys → ∀ x ∈ l, ∃ y, g x = some y
  | [], _, _, x, hx => by cases hx
  | a :: l, ys, h, x, hx => by
    rw [List.mapM_cons] at h
    rcases ha : g a with _ | b
    · rw [ha] at h; cases h
    · rw [ha] at h
      rcases hl : l.mapM g with _ | bs
      · rw [hl] at h; cases h
      · rcases List.mem_cons.1 hx with rfl | hx
        · exact ⟨b, ha⟩
        · exact mapM_mem hl x hx

theorem trod_field {H : Type} {enc : TypeId × Value → H} {P : Program} {w : World} {n0 : Nat} {h : Bool} {t : TypeId} {fs : Array Field} {d : DataW H} {p : List MemPlace} {v x : Value} {f : Field}
    (ht : P.underlying t = some (.struct fs)) (m : DataW.Trod enc P w n0 (fun _ => true) h t v d p) (hf : f ∈ fs.toList) (hx : (v.cells.toList.drop f.offset).take (P.cellsOf f.type) = x.cells.toList) : ∃ d' p', DataW.Trod enc P w n0 (fun _ => true) h f.type x d' p' := by
  obtain ⟨fuel, hm⟩ := m
  cases fuel with
  | zero => simp [DataW.trod] at hm
  | succ fuel =>
    unfold DataW.trod at hm
    simp only [ht] at hm
    split at hm
    · rcases hl : fs.toList.mapM (fun f => DataW.trod enc P w n0 (fun _ => true) h fuel f.type ((v.cells.toList.drop f.offset).take (P.cellsOf f.type))) with _ | ys
      · rw [hl] at hm; cases hm
      · obtain ⟨⟨d', p'⟩, hy⟩ := mapM_mem hl f hf
        exact ⟨d', p', fuel, by rw [← hx]; exact hy⟩
    · cases hm

theorem cellw_slice {P : Program} {w : World} {r : Reach} {b : Nat} {t e : TypeId} {v : Value} (ht : P.underlying t = some (.slice e)) (h : Cell.okWide P w r b t v) : ∃ a n c, v = .slice a n c := by
  simp only [Cell.okWide, ht] at h
  cases v <;> simp_all [Cell.ok]

end Go.Proofs.Ytkhkmgblgonfoaa

/-
  Arguments: KdcReply.
-/
namespace Go.Proofs.Ytkhkmgblgonfoaa
set_option maxRecDepth 100000
open Go.ChangeShapes Go.WideShapes Go.ChangeAt Go.RowKit

theorem arr_reply {cs : Array Value} {a b c d e f g h : Value} (hn : cs.size = 8) (h0 : cs[0]? = some a) (h1 : cs[1]? = some b) (h2 : cs[2]? = some c) (h3 : cs[3]? = some d) (h4 : cs[4]? = some e) (h5 : cs[5]? = some f) (h6 : cs[6]? = some g) (h7 : cs[7]? = some h) :
    cs = #[a, b, c, d, e, f, g, h] := by
  obtain ⟨l⟩ := cs
  match l, hn with
  | [_, _, _, _, _, _, _, _], _ => simp at h0 h1 h2 h3 h4 h5 h6 h7; subst h0 h1 h2 h3 h4 h5 h6 h7; rfl

theorem okw_reply {H : Type} {enc : TypeId × Value → H} {w : World} {r : Reach} {b n0 : Nat} {hh : Bool} {v : Value} {d : DataW H} {p : List MemPlace} (h : Value.okWide Try.prog w r b 49 v) (m : DataW.Trod enc Try.prog w n0 (fun _ => true) hh 49 v d p) : ∃ (t : S9r.Rp) (A : Option Addr) (n cap : Nat), v = t.val A n cap ∧ t.Fit ∧ Sl w A n cap t.z := by
  obtain ⟨cs, rfl, hn, hi⟩ := okw_agg (ts := [4, 9, 9, 9, 3, 3, 3, 26]) (.inl ⟨_, Try.underlying49⟩) (by kernel_rfl) (by kernel_rfl) h
  obtain ⟨x0, e0, k0⟩ := hi 0 _ rfl
  obtain ⟨x1, e1, k1⟩ := hi 1 _ rfl
  obtain ⟨x2, e2, k2⟩ := hi 2 _ rfl
  obtain ⟨x3, e3, k3⟩ := hi 3 _ rfl
  obtain ⟨x4, e4, k4⟩ := hi 4 _ rfl
  obtain ⟨x5, e5, k5⟩ := hi 5 _ rfl
  obtain ⟨x6, e6, k6⟩ := hi 6 _ rfl
  obtain ⟨x7, e7, k7⟩ := hi 7 _ rfl
  obtain ⟨f0, rfl⟩ := cellw_bool Try.underlying4 k0
  obtain ⟨f1, rfl, g1⟩ := cellw_string Try.underlying9 k1
  obtain ⟨f2, rfl, g2⟩ := cellw_string Try.underlying9 k2
  obtain ⟨f3, rfl, g3⟩ := cellw_string Try.underlying9 k3
  obtain ⟨f4, rfl, l4, u4⟩ := cellw_int Try.underlying3 k4
  obtain ⟨f5, rfl, l5, u5⟩ := cellw_int Try.underlying3 k5
  obtain ⟨f6, rfl, l6, u6⟩ := cellw_int Try.underlying3 k6
  obtain ⟨A, n, cap, rfl⟩ := cellw_slice Try.underlying26 k7
  have hcs := arr_reply hn e0 e1 e2 e3 e4 e5 e6 e7
  subst hcs
  obtain ⟨d', p', m'⟩ := trod_field (x := .slice A n cap) Try.underlying49 m (List.mem_of_getElem? (i := 5) rfl) (by rfl)
  obtain ⟨zs, hz⟩ := isSl_of Try.underlying26 Try.underlying5 (by kernel_rfl) m'
  exact ⟨⟨f0, f1, f2, f3, f4, f5, f6, zs⟩, A, n, cap, rfl, ⟨g1, g2, g3, ⟨l4, u4⟩, ⟨l5, u5⟩, ⟨l6, u6⟩, hz.range⟩, hz⟩

end Go.Proofs.Ytkhkmgblgonfoaa

/-
  Arguments: ReplyPart.
-/
namespace Go.Proofs.Ytkhkmgblgonfoaa
set_option maxRecDepth 100000
open Go.ChangeShapes Go.WideShapes Go.ChangeAt Go.RowKit

theorem arr_part {cs : Array Value} {a b c d e f g h : Value} (hn : cs.size = 8) (h0 : cs[0]? = some a) (h1 : cs[1]? = some b) (h2 : cs[2]? = some c) (h3 : cs[3]? = some d) (h4 : cs[4]? = some e) (h5 : cs[5]? = some f) (h6 : cs[6]? = some g) (h7 : cs[7]? = some h) :
    cs = #[a, b, c, d, e, f, g, h] := by
  obtain ⟨l⟩ := cs
  match l, hn with
  | [_, _, _, _, _, _, _, _], _ => simp at h0 h1 h2 h3 h4 h5 h6 h7; subst h0 h1 h2 h3 h4 h5 h6 h7; rfl

theorem okw_part {H : Type} {enc : TypeId × Value → H} {w : World} {r : Reach} {b n0 : Nat} {hh : Bool} {v : Value} {d : DataW H} {p : List MemPlace} (h : Value.okWide Try.prog w r b 40 v) (m : DataW.Trod enc Try.prog w n0 (fun _ => true) hh 40 v d p) : ∃ (t : S9p.Pt) (A : Option Addr) (n cap : Nat), v = t.val A n cap ∧ t.Fit ∧ Sl w A n cap t.z := by
  obtain ⟨cs, rfl, hn, hi⟩ := okw_agg (ts := [38, 9, 9, 9, 3, 3, 26, 3]) (.inl ⟨_, Try.underlying40⟩) (by kernel_rfl) (by kernel_rfl) h
  obtain ⟨x0, e0, k0⟩ := hi 0 _ rfl
  obtain ⟨x1, e1, k1⟩ := hi 1 _ rfl
  obtain ⟨x2, e2, k2⟩ := hi 2 _ rfl
  obtain ⟨x3, e3, k3⟩ := hi 3 _ rfl
  obtain ⟨x4, e4, k4⟩ := hi 4 _ rfl
  obtain ⟨x5, e5, k5⟩ := hi 5 _ rfl
  obtain ⟨x6, e6, k6⟩ := hi 6 _ rfl
  obtain ⟨x7, e7, k7⟩ := hi 7 _ rfl
  obtain ⟨f0, rfl, l0, u0⟩ := cellw_int Try.underlying38 k0
  obtain ⟨f1, rfl, g1⟩ := cellw_string Try.underlying9 k1
  obtain ⟨f2, rfl, g2⟩ := cellw_string Try.underlying9 k2
  obtain ⟨f3, rfl, g3⟩ := cellw_string Try.underlying9 k3
  obtain ⟨f4, rfl, l4, u4⟩ := cellw_int Try.underlying3 k4
  obtain ⟨f5, rfl, l5, u5⟩ := cellw_int Try.underlying3 k5
  obtain ⟨A, n, cap, rfl⟩ := cellw_slice Try.underlying26 k6
  obtain ⟨f7, rfl, l7, u7⟩ := cellw_int Try.underlying3 k7
  have hcs := arr_part hn e0 e1 e2 e3 e4 e5 e6 e7
  subst hcs
  obtain ⟨d', p', m'⟩ := trod_field (x := .slice A n cap) Try.underlying40 m (List.mem_of_getElem? (i := 4) rfl) (by rfl)
  obtain ⟨zs, hz⟩ := isSl_of Try.underlying26 Try.underlying5 (by kernel_rfl) m'
  exact ⟨⟨f0, f1, f2, f3, f4, f5, zs, f7⟩, A, n, cap, rfl, ⟨⟨l0, u0⟩, g1, g2, g3, ⟨l4, u4⟩, ⟨l5, u5⟩, hz.range, ⟨l7, u7⟩⟩, hz⟩

end Go.Proofs.Ytkhkmgblgonfoaa
