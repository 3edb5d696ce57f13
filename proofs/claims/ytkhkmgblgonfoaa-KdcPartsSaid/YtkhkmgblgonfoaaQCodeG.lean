/-
  What any code that reads fields and compares encodings wants: package field's readers with names for value and place, a struct that is built while fields are read, bytes.Equal.
-/
import Derived.Test.YtkhkmgblgonfoaaQFieldD
import Derived.Test.YtkhkmgblgonfoaaQFieldQ
import Derived.Test.YtkhkmgblgonfoaaQFieldO
import Derived.Test.YtkhkmgblgonfoaaQReader
namespace Go.Proofs.Ytkhkmgblgonfoaa
open Go.RowKit
set_option maxRecDepth 100000

theorem prA_size (zs : List Int) (at' : Int) : (strOfNums (S5.prA zs at')).size ≤ maxLen := by
  unfold S5.prA
  split
  · exact txS_size _ _
  · rw [strOfNums_size]; decide
theorem prB_size (zs : List Int) (at' : Int) : (strOfNums (S5.prB zs at')).size ≤ maxLen := by
  unfold S5.prB
  split
  · exact txS_size _ _
  · rw [strOfNums_size]; decide
theorem prC_size (zs : List Int) (at' : Int) : (strOfNums (S5.prC zs at')).size ≤ maxLen := by
  unfold S5.prC
  split
  · exact txS_size _ _
  · rw [strOfNums_size]; decide

/-- What is built and what is returned, while it is built: w0 is the world ahead of the call. -/
structure Bld (w0 W : World) (R g : Nat) (rs cs : List Value) : Prop where
  below : Below w0.heap.size w0 W
  tk : BoxAt W g cs
  res : BoxAt W R rs
  hg : w0.heap.size ≤ g
  Rg : R ≠ g
theorem Bld.set {w0 W : World} {R g : Nat} {rs cs : List Value} (h : Bld w0 W R g rs cs) (i : Nat) (x : Value) (hi : i < cs.length) : Bld w0 (W.setCell ⟨g, i, none⟩ x) R g rs (cs.set i x) :=
  ⟨h.below.grown (grown_set W ⟨g, i, none⟩ x) h.below.size (fun k e => by cases e; exact h.hg), h.tk.set i x hi, h.res.grown (grown_set W ⟨g, i, none⟩ x) (by have := h.Rg; simpa using this), h.hg, h.Rg⟩
theorem Bld.keep {w0 W W' : World} {R g : Nat} {rs cs : List Value} (h : Bld w0 W R g rs cs) (hb : Below W.heap.size W W') : Bld w0 W' R g rs cs :=
  ⟨below_keep hb h.below, h.tk.keep hb, h.res.keep hb, h.hg, h.Rg⟩

theorem goctet {A : Option Addr} {n cap : Nat} {zs : List Int} {W : World} (hs : Sl W A n cap zs) (hn : n ≤ 100000) (at' v I : Int) (hv : v = S5.getV zs at' 1 false) (hI : I = S5.getN zs at' 1) : Calls Try.prog 76 #[.slice A n cap, .int .i64 at'] W fun e W' => ∃ x, e = .returned (.tuple #[.int .i64 v, .int .i64 I, .int .i64 x]) ∧ Below W.heap.size W W' := by
  subst hv hI
  exact (foctet_any A n cap zs at' W hs hn).mono fun _ _ ⟨he, hb⟩ => ⟨_, he, hb⟩

theorem gnumber {A : Option Addr} {n cap : Nat} {zs : List Int} {W : World} (hs : Sl W A n cap zs) (hn : n ≤ 100000) (at' : Int) (l : Bool) (v I : Int) (hv : v = S5.getV zs at' 4 l) (hI : I = S5.getN zs at' 4) : Calls Try.prog 75 #[.slice A n cap, .int .i64 at', .bool l] W fun e W' => ∃ x, e = .returned (.tuple #[.int .i64 v, .int .i64 I, .int .i64 x]) ∧ Below W.heap.size W W' := by
  subst hv hI
  exact (fnumber_any A n cap zs at' l W hs hn).mono fun _ _ ⟨he, hb⟩ => ⟨_, he, hb⟩

theorem gtext {A : Option Addr} {n cap : Nat} {zs : List Int} {W : World} (hs : Sl W A n cap zs) (hn : n ≤ 100000) (at' : Int) (v : ByteArray) (I : Int) (hv : v = strOfNums (S5.txS zs at')) (hI : I = S5.txN zs at') : Calls Try.prog 77 #[.slice A n cap, .int .i64 at'] W fun e W' => ∃ x, e = .returned (.tuple #[.string v, .int .i64 I, .int .i64 x]) ∧ Below W.heap.size W W' := by
  subst hv hI
  exact (ftext_any A n cap zs at' W hs hn).mono fun _ _ ⟨he, hb⟩ => ⟨_, he, hb⟩

theorem gprincipal {A : Option Addr} {n cap : Nat} {zs : List Int} {W : World} (hs : Sl W A n cap zs) (hn : n ≤ 100000) (at' : Int) (a b c : ByteArray) (I : Int) (ha : a = strOfNums (S5.prA zs at')) (hb : b = strOfNums (S5.prB zs at')) (hc : c = strOfNums (S5.prC zs at')) (hI : I = S5.prN zs at') : Calls Try.prog 74 #[.slice A n cap, .int .i64 at'] W fun e W' => ∃ x, e = .returned (.tuple #[.agg #[.string a, .string b, .string c], .int .i64 I, .int .i64 x]) ∧ Below W.heap.size W W' := by
  subst ha hb hc hI
  exact (fprincipal_any A n cap zs at' W hs hn).mono fun _ _ ⟨he, hb⟩ => ⟨_, he, hb⟩

theorem gbytes {A : Option Addr} {n cap : Nat} {zs : List Int} {W : World} (hs : Sl W A n cap zs) (hn : n ≤ 100000) (at' m : Int) (I : Int) (hI : I = S5.byN zs at' m) : Calls Try.prog 81 #[.slice A n cap, .int .i64 at', .int .i64 m] W fun e W' => ∃ A2 n2 c2 x, e = .returned (.tuple #[.slice A2 n2 c2, .int .i64 I, .int .i64 x]) ∧ Sl W' A2 n2 c2 (S5.byS zs at' m) ∧ Below W.heap.size W W' := by
  subst hI
  exact (fbytes_any A n cap zs at' m W hs hn).mono fun _ _ ⟨A2, n2, c2, he, h2, hb, _⟩ => ⟨A2, n2, c2, _, he, h2, hb⟩

theorem strEq_inj {xs ys : List Int} (hx : ∀ n ∈ xs, 0 ≤ n ∧ n ≤ 255) (hy : ∀ n ∈ ys, 0 ≤ n ∧ n ≤ 255) (h : (strOfNums xs).toList = (strOfNums ys).toList) : xs = ys := by
  refine strOfNums_inj hx hy ?_
  rw [ByteArray.toList_eq, ByteArray.toList_eq] at h
  exact ByteArray.ext (Array.ext' h)

theorem bequal_any (A A2 : Option Addr) (n cap n2 cap2 : Nat) (xs ys : List Int) (w : World) (h : Sl w A n cap xs) (h2 : Sl w A2 n2 cap2 ys) : Calls Try.prog 80 #[.slice A n cap, .slice A2 n2 cap2] w fun e w' => e = .returned (.bool (decide (xs = ys))) ∧ w = w' := by
  have u1 := conv_sl h
  have u2 := conv_sl h2
  by_cases hz : xs = ys
  · have hq := Lib.hid (decide_eq_true hz)
    rw [hz] at u1
    clear hz h h2
    go_enter Try.func80, Try.ntmps80
    go_wp2_with (fail)
    go_ret
    exact ⟨ret_bool hq.out.symm, rfl⟩
  · have hq := Lib.hid (decide_eq_false hz)
    have hzz : ((strOfNums xs).toList == (strOfNums ys).toList) = false := beq_eq_false_iff_ne.2 (fun e => hz (strEq_inj h.range h2.range e))
    clear hz h h2
    go_enter Try.func80, Try.ntmps80
    go_wp2_with (fail)
    go_ret
    exact ⟨ret_bool hq.out.symm, rfl⟩

end Go.Proofs.Ytkhkmgblgonfoaa
