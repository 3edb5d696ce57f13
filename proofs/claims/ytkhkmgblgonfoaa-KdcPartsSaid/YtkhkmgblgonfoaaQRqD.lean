/-
  What the proof wants: RqD, ErD, RpD, PtD.
-/
import Derived.Test.YtkhkmgblgonfoaaQRqR
import Derived.Test.YtkhkmgblgonfoaaQReader
import Derived.Test.YtkhkmgblgonfoaaQErR
import Derived.Test.YtkhkmgblgonfoaaQRpR
import Derived.Test.YtkhkmgblgonfoaaQPtR
import Derived.Test.YtkhkmgblgonfoaaQKeyRB

/-
  What DecodeRequest of the document's answer returns.
-/
namespace Go.Proofs.Ytkhkmgblgonfoaa
open Go.RowKit
set_option maxRecDepth 100000

def RqDec (zs : List Int) (w : World) (e : Ending) (w' : World) : Prop := e = .returned (.tuple #[(S9q.decT zs).val, .int .i64 (S9q.decE zs)]) ∧ Below w.heap.size w w'
theorem RqDec.mk {zs : List Int} {w w' : World} {t : S9q.Rq} {x : Int} (h : S9q.decE zs = x ∧ S9q.decT zs = t) (hb : Below w.heap.size w w') : RqDec zs w (.returned (.tuple #[t.val, .int .i64 x])) w' := ⟨by rw [h.1, h.2], hb⟩
def zeroRq : List Value := [.bool false, .string ⟨#[]⟩, .string ⟨#[]⟩, .string ⟨#[]⟩, .int .i64 0, .int .i64 0, .string ⟨#[]⟩, .string ⟨#[]⟩]
theorem rqparse_fit {zs : List Int} (hz : ∀ z ∈ zs, 0 ≤ z ∧ z ≤ 255) : (S9q.parse zs).Fit := by
  have g : ∀ a k l, k ≤ 4 → -9223372036854775808 ≤ S5.getV zs a k l ∧ S5.getV zs a k l ≤ 9223372036854775807 := fun a k l hk => by have := getV_range hz a k l hk; omega
  exact ⟨txS_size _ _, txS_size _ _, txS_size _ _, g _ _ _ (by decide), g _ _ _ (by decide), txS_size _ _, txS_size _ _⟩
theorem rqstr_inj {xs ys : List Int} (hx : ∀ n ∈ xs, 0 ≤ n ∧ n ≤ 255) (hy : ∀ n ∈ ys, 0 ≤ n ∧ n ≤ 255) (h : (strOfNums xs).toList = (strOfNums ys).toList) : xs = ys := by
  refine strOfNums_inj hx hy ?_
  rw [ByteArray.toList_eq, ByteArray.toList_eq] at h
  exact ByteArray.ext (Array.ext' h)
/-- A row of one number that was just built. -/
theorem rqrow_one (w : World) (k : Int) (h : IntKind.i64.min ≤ k ∧ k ≤ IntKind.i64.max) (T : TypeId) : RowK .i64 (w.alloc (.cells #[.int .i64 k] T)) (some ⟨w.heap.size, 0, none⟩) 1 [k] :=
  ⟨rfl, fun n hn => by rw [List.mem_singleton] at hn; subst hn; exact h, fun _ => ⟨_, _, rfl, fun i hi => by
    have : i = 0 := by simp at hi; omega
    subst this
    simp [go_sem]⟩⟩




end Go.Proofs.Ytkhkmgblgonfoaa

/-
  What DecodeError of the document's answer returns.
-/
namespace Go.Proofs.Ytkhkmgblgonfoaa
open Go.RowKit
set_option maxRecDepth 100000

def ErDec (zs : List Int) (w : World) (e : Ending) (w' : World) : Prop := e = .returned (.tuple #[(S9e.decT zs).val, .int .i64 (S9e.decE zs)]) ∧ Below w.heap.size w w'
theorem ErDec.mk {zs : List Int} {w w' : World} {t : S9e.Er} {x : Int} (h : S9e.decE zs = x ∧ S9e.decT zs = t) (hb : Below w.heap.size w w') : ErDec zs w (.returned (.tuple #[t.val, .int .i64 x])) w' := ⟨by rw [h.1, h.2], hb⟩
def zeroEr : List Value := [.bool false, .string ⟨#[]⟩, .string ⟨#[]⟩, .string ⟨#[]⟩, .int .i64 0, .int .i64 0, .string ⟨#[]⟩]
theorem erparse_fit {zs : List Int} (hz : ∀ z ∈ zs, 0 ≤ z ∧ z ≤ 255) : (S9e.parse zs).Fit := by
  have g : ∀ a k l, k ≤ 4 → -9223372036854775808 ≤ S5.getV zs a k l ∧ S5.getV zs a k l ≤ 9223372036854775807 := fun a k l hk => by have := getV_range hz a k l hk; omega
  exact ⟨txS_size _ _, txS_size _ _, txS_size _ _, g _ _ _ (by decide), g _ _ _ (by decide), txS_size _ _⟩
theorem erstr_inj {xs ys : List Int} (hx : ∀ n ∈ xs, 0 ≤ n ∧ n ≤ 255) (hy : ∀ n ∈ ys, 0 ≤ n ∧ n ≤ 255) (h : (strOfNums xs).toList = (strOfNums ys).toList) : xs = ys := by
  refine strOfNums_inj hx hy ?_
  rw [ByteArray.toList_eq, ByteArray.toList_eq] at h
  exact ByteArray.ext (Array.ext' h)
/-- A row of one number that was just built. -/
theorem errow_one (w : World) (k : Int) (h : IntKind.i64.min ≤ k ∧ k ≤ IntKind.i64.max) (T : TypeId) : RowK .i64 (w.alloc (.cells #[.int .i64 k] T)) (some ⟨w.heap.size, 0, none⟩) 1 [k] :=
  ⟨rfl, fun n hn => by rw [List.mem_singleton] at hn; subst hn; exact h, fun _ => ⟨_, _, rfl, fun i hi => by
    have : i = 0 := by simp at hi; omega
    subst this
    simp [go_sem]⟩⟩




end Go.Proofs.Ytkhkmgblgonfoaa

/-
  What DecodeReply of the document's answer returns.
-/
namespace Go.Proofs.Ytkhkmgblgonfoaa
open Go.RowKit
set_option maxRecDepth 100000

def RpDec (zs : List Int) (w : World) (e : Ending) (w' : World) : Prop := ∃ A n cap, e = .returned (.tuple #[(S9r.decT zs).val A n cap, .int .i64 (S9r.decE zs)]) ∧ Sl w' A n cap (S9r.decT zs).z ∧ Below w.heap.size w w' ∧ Fresh w.heap.size A
theorem RpDec.mk {zs : List Int} {w w' : World} {t : S9r.Rp} {x : Int} {A : Option Addr} {n cap : Nat} (h : S9r.decE zs = x ∧ S9r.decT zs = t) (hs : Sl w' A n cap t.z) (hf : Fresh w.heap.size A) (hb : Below w.heap.size w w') : RpDec zs w (.returned (.tuple #[t.val A n cap, .int .i64 x])) w' := ⟨A, n, cap, by rw [h.1, h.2], by rw [h.2]; exact hs, hb, hf⟩
def zeroRp : List Value := [.bool false, .string ⟨#[]⟩, .string ⟨#[]⟩, .string ⟨#[]⟩, .int .i64 0, .int .i64 0, .int .i64 0, .slice none 0 0]
theorem rpparse_fit {zs : List Int} (hz : ∀ z ∈ zs, 0 ≤ z ∧ z ≤ 255) : (S9r.parse zs).Fit := by
  have g : ∀ a k l, k ≤ 4 → -9223372036854775808 ≤ S5.getV zs a k l ∧ S5.getV zs a k l ≤ 9223372036854775807 := fun a k l hk => by have := getV_range hz a k l hk; omega
  exact ⟨txS_size _ _, txS_size _ _, txS_size _ _, g _ _ _ (by decide), g _ _ _ (by decide), g _ _ _ (by decide), byS_range hz _ _⟩
theorem rpstr_inj {xs ys : List Int} (hx : ∀ n ∈ xs, 0 ≤ n ∧ n ≤ 255) (hy : ∀ n ∈ ys, 0 ≤ n ∧ n ≤ 255) (h : (strOfNums xs).toList = (strOfNums ys).toList) : xs = ys := by
  refine strOfNums_inj hx hy ?_
  rw [ByteArray.toList_eq, ByteArray.toList_eq] at h
  exact ByteArray.ext (Array.ext' h)
/-- A row of one number that was just built. -/
theorem rprow_one (w : World) (k : Int) (h : IntKind.i64.min ≤ k ∧ k ≤ IntKind.i64.max) (T : TypeId) : RowK .i64 (w.alloc (.cells #[.int .i64 k] T)) (some ⟨w.heap.size, 0, none⟩) 1 [k] :=
  ⟨rfl, fun n hn => by rw [List.mem_singleton] at hn; subst hn; exact h, fun _ => ⟨_, _, rfl, fun i hi => by
    have : i = 0 := by simp at hi; omega
    subst this
    simp [go_sem]⟩⟩




end Go.Proofs.Ytkhkmgblgonfoaa

/-
  What DecodePart of the document's answer returns.
-/
namespace Go.Proofs.Ytkhkmgblgonfoaa
open Go.RowKit
set_option maxRecDepth 100000

def PtDec (l : Bool) (zs : List Int) (w : World) (e : Ending) (w' : World) : Prop := ∃ A n cap, e = .returned (.tuple #[(S9p.decT l zs).val A n cap, .int .i64 (S9p.decE l zs)]) ∧ Sl w' A n cap (S9p.decT l zs).z ∧ Below w.heap.size w w' ∧ Fresh w.heap.size A
theorem PtDec.mk {l : Bool} {zs : List Int} {w w' : World} {t : S9p.Pt} {x : Int} {A : Option Addr} {n cap : Nat} (h : S9p.decE l zs = x ∧ S9p.decT l zs = t) (hs : Sl w' A n cap t.z) (hf : Fresh w.heap.size A) (hb : Below w.heap.size w w') : PtDec l zs w (.returned (.tuple #[t.val A n cap, .int .i64 x])) w' := ⟨A, n, cap, by rw [h.1, h.2], by rw [h.2]; exact hs, hb, hf⟩
def zeroPt : List Value := [.int .u64 0, .string ⟨#[]⟩, .string ⟨#[]⟩, .string ⟨#[]⟩, .int .i64 0, .int .i64 0, .slice none 0 0, .int .i64 0]
theorem ptparse_fit {zs : List Int} (hz : ∀ z ∈ zs, 0 ≤ z ∧ z ≤ 255) (l : Bool) : (S9p.parse l zs).Fit := by
  have g : ∀ a k l, k ≤ 4 → -9223372036854775808 ≤ S5.getV zs a k l ∧ S5.getV zs a k l ≤ 9223372036854775807 := fun a k l hk => by have := getV_range hz a k l hk; omega
  exact ⟨readN_range (byS_range hz _ _), txS_size _ _, txS_size _ _, txS_size _ _, g _ _ _ (by decide), g _ _ _ (by decide), byS_range hz _ _, g _ _ _ (by decide)⟩
theorem ptstr_inj {xs ys : List Int} (hx : ∀ n ∈ xs, 0 ≤ n ∧ n ≤ 255) (hy : ∀ n ∈ ys, 0 ≤ n ∧ n ≤ 255) (h : (strOfNums xs).toList = (strOfNums ys).toList) : xs = ys := by
  refine strOfNums_inj hx hy ?_
  rw [ByteArray.toList_eq, ByteArray.toList_eq] at h
  exact ByteArray.ext (Array.ext' h)
/-- A row of one number that was just built. -/
theorem ptrow_one (w : World) (k : Int) (h : IntKind.i64.min ≤ k ∧ k ≤ IntKind.i64.max) (T : TypeId) : RowK .i64 (w.alloc (.cells #[.int .i64 k] T)) (some ⟨w.heap.size, 0, none⟩) 1 [k] :=
  ⟨rfl, fun n hn => by rw [List.mem_singleton] at hn; subst hn; exact h, fun _ => ⟨_, _, rfl, fun i hi => by
    have : i = 0 := by simp at hi; omega
    subst this
    simp [go_sem]⟩⟩


end Go.Proofs.Ytkhkmgblgonfoaa
