/-
  What the laws of chapter 9 make of plain data: requests, and whether texts are too long.
-/
import Derived.Test.YtkhkmgblgonfoaaDoorQDataT
import Derived.Test.YtkhkmgblgonfoaaDoorQRqD
namespace Go.Proofs.YtkhkmgblgonfoaaDoor
open Go.RowKit
set_option maxRecDepth 100000

def SomeBool9 (w : World) (e : Ending) (w' : World) : Prop := ∃ q, e = .returned (.bool q) ∧ Below w.heap.size w w'

theorem long9_any (g n : Nat) (ss : List ByteArray) (w : World) (hn : ss.length = n) (hn2 : n ≤ 1000) (h : ∀ i s, ss[i]? = some s → w.cell? ⟨g, i, none⟩ = some (.string s) ∧ s.size ≤ maxLen) : Calls Tryd.prog 5 #[.slice (some ⟨g, 0, none⟩) n n] w (SomeBool9 w) := by
  have H := Lib.hid h
  have HN := Lib.hid hn
  clear h hn
  go_enter Tryd.func5, Tryd.ntmps5
  go_wp2_with (fail)
  go_loop [3] (fun i => ∃ k : Nat, k ≤ n ∧ i = .int .i64 k) (fun i => n - (intOf i).toNat)
  case atStart => exact ⟨0, by omega, rfl⟩
  case round =>
    obtain ⟨k, hk, rfl⟩ := hrel
    by_cases hlt : k < n
    · obtain ⟨s, hs⟩ : ∃ s, ss[k]? = some s := ⟨_, List.getElem?_eq_getElem (by have := HN.out; omega)⟩
      obtain ⟨hc, hsz⟩ := H.out k s hs
      unfold maxLen at hsz
      have hcl := cell_lt hc
      have hkk : (k : Int) < (n : Int) := by omega
      clear hs
      by_cases hl : 100 < (s.size : Int)
      · go_wp2_with (fail)
        go_ret
        exact ⟨true, rfl, Below.refl _ _⟩
      · go_wp2_with (fail)
        go_round
        case rel => exact ⟨k + 1, by omega, by go_num⟩
        case measure => simp [intOf]; omega
    · have hkk : ¬ (k : Int) < (n : Int) := by omega
      go_wp2_with (fail)
      go_ret
      exact ⟨false, rfl, Below.refl _ _⟩

/-- A request without errors. -/
def ReqOut (w : World) (e : Ending) (w' : World) : Prop := ∃ u : S9q.Rq, e = .returned u.val ∧ u.Fit ∧ S9q.chkE u = 0 ∧ Below w.heap.size w w'
theorem req_of {t : S6.Tk} (f : t.Fit) (c : S6.chkE t = 0) (l : Bool) : (S9q.Rq.mk l t.a t.b t.c t.is t.li t.s t.i).Fit ∧ S9q.chkE (S9q.Rq.mk l t.a t.b t.c t.is t.li t.s t.i) = 0 := by
  have o := S6.ok_of c
  have h := (S6.chk_zero c).1
  unfold S6.nm at h
  refine ⟨⟨f.a, f.b, f.c, f.is, f.li, f.s, f.i⟩, S9q.chk_ok (by unfold S9q.q0; exact h) ?_⟩
  unfold S9q.q1 S9q.win
  have h1 := o.is
  have h2 := o.li
  simp
  omega


end Go.Proofs.YtkhkmgblgonfoaaDoor
