/-
  What the laws of chapter 9 make of plain data: requests, and whether texts are too long.
-/
import Derived.Test.YtkhkmgblgonfoaaQDataK
import Derived.Test.YtkhkmgblgonfoaaQRqD
namespace Go.Proofs.Ytkhkmgblgonfoaa
open Go.RowKit
set_option maxRecDepth 100000

def SomeBool9 (w : World) (e : Ending) (w' : World) : Prop := ∃ q, e = .returned (.bool q) ∧ Below w.heap.size w w'

theorem long9_any (g n : Nat) (ss : List ByteArray) (w : World) (hn : ss.length = n) (hn2 : n ≤ 1000) (h : ∀ i s, ss[i]? = some s → w.cell? ⟨g, i, none⟩ = some (.string s) ∧ s.size ≤ maxLen) : Calls Try.prog 7 #[.slice (some ⟨g, 0, none⟩) n n] w (SomeBool9 w) := by
  have H := Lib.hid h
  have HN := Lib.hid hn
  clear h hn
  go_enter Try.func7, Try.ntmps7
  go_wp2_with (fail)
  go_loop [3] (fun i => ∃ k : Nat, k ≤ n ∧ i = .int .i64 k) (fun i => n - (intOf i).toNat)
  case atStart => exact ⟨0, by omega, rfl⟩
  case round =>
    obtain ⟨k, hk, rfl⟩ := hrel
    by_cases hlt : k < n
    · obtain ⟨s, hs⟩ : ∃ s, ss[k]? = some s := ⟨_, List.getElem?_eq_getElem (by have := HN.out; omega)⟩
      obtain ⟨hc, hsz⟩ := H.out k s hs
      unfold maxLen at hsz
      have hcl := cell_lt hc
      have hkk : (k : Int) < (n : Int) := by omega
      clear hs
      by_cases hl : 100 < (s.size : Int)
      · go_wp2_with (fail)
        go_ret
        exact ⟨true, rfl, Below.refl _ _⟩
      · go_wp2_with (fail)
        go_round
        case rel => exact ⟨k + 1, by omega, by go_num⟩
        case measure => simp [intOf]; omega
    · have hkk : ¬ (k : Int) < (n : Int) := by omega
      go_wp2_with (fail)
      go_ret
      exact ⟨false, rfl, Below.refl _ _⟩

/-- A request without errors. -/
def ReqOut (w : World) (e : Ending) (w' : World) : Prop := ∃ u : S9q.Rq, e = .returned u.val ∧ u.Fit ∧ S9q.chkE u = 0 ∧ Below w.heap.size w w'
theorem req_of {t : S6.Tk} (f : t.Fit) (c : S6.chkE t = 0) (l : Bool) : (S9q.Rq.mk l t.a t.b t.c t.is t.li t.s t.i).Fit ∧ S9q.chkE (S9q.Rq.mk l t.a t.b t.c t.is t.li t.s t.i) = 0 := by
  have o := S6.ok_of c
  have h := (S6.chk_zero c).1
  unfold S6.nm at h
  refine ⟨⟨f.a, f.b, f.c, f.is, f.li, f.s, f.i⟩, S9q.chk_ok (by unfold S9q.q0; exact h) ?_⟩
  unfold S9q.q1 S9q.win
  have h1 := o.is
  have h2 := o.li
  simp
  omega

set_option maxHeartbeats 1600000 in
theorem request9_any (A : Option Addr) (n cap : Nat) (zs : List Int) (l : Bool) (w : World) (h : Sl w A n cap zs) (hn : n ≤ 100000) : Calls Try.prog 8 #[.slice A n cap, .bool l] w (ReqOut w) := by
  have B0 := Lib.hid (show Below w.heap.size w (w.alloc (.cells #[.bool false, .string ⟨#[]⟩, .string ⟨#[]⟩, .string ⟨#[]⟩, .int .i64 0, .int .i64 0, .string ⟨#[]⟩, .string ⟨#[]⟩] 25)) from (Below.refl _ _).alloc (Nat.le_refl _) _)
  have X0 := Lib.hid (BoxAt.new w zeroRq 25)
  unfold zeroRq at X0
  have hk := Lib.hid (h.keep B0.out)
  go_enter Try.func8, Try.ntmps8
  go_wp2_with (fail)
  refine (ticketData_any A n cap zs _ hk.out hn).mono ?_
  rintro e w1 ⟨t, rfl, f, c, hb1⟩
  obtain ⟨hf, hc⟩ := req_of f c l
  have HF := Lib.hid hf
  have HC := Lib.hid hc
  have B1 := below_keep hb1 B0.out
  have X1 := X0.out.keep hb1
  have T2 := TkAt.new w1 t 61
  have X2 := X1.grown (World.grownBy_alloc w1 (.cells t.cells 61) none) (by simp)
  have B2 := B1.alloc B1.size (.cells t.cells 61)
  unfold S6.Tk.cells at T2 X2 B2
  clear X1 hb1 hf hc f c B0 X0
  unfold S6.Tk.val S6.Tk.cells
  go_upto_region 2 with (fail)
  obtain ⟨g, hg⟩ : ∃ g, g = w1.heap.size := ⟨_, rfl⟩
  rw [← hg] at T2
  rw [← hg]
  generalize (w1.alloc (.cells #[.bool t.l, .string t.a, .string t.b, .string t.c, .int .i64 t.ad, .int .u64 t.k, .int .i64 t.li, .int .i64 t.is, .string t.s, .string t.i] 61)) = w2 at T2 X2 B2 ⊢
  clear hg B1
  obtain ⟨y0, y1, y2, y3, y4, y5, y6, y7, y8, y9⟩ := T2
  have x0 := X2.c 0 _ rfl
  have x1 := X2.c 1 _ rfl
  have x2 := X2.c 2 _ rfl
  have x3 := X2.c 3 _ rfl
  have x4 := X2.c 4 _ rfl
  have x5 := X2.c 5 _ rfl
  have x6 := X2.c 6 _ rfl
  have x7 := X2.c 7 _ rfl
  have xf := X2.fz
  have xl := X2.lt
  have gl := cell_lt y0
  replace B2 := Lib.hid B2
  clear X2
  go_wp2_with (fail)
  refine bodyPost_ret (v := (S9q.Rq.mk l t.a t.b t.c t.is t.li t.s t.i).val) ?_ rfl ?_
  · simp [results, Try.results8, go_sem, S9q.Rq.val, S9q.Rq.cells, x0, x1, x2, x3, x4, x5, x6, x7]
  · exact ⟨_, rfl, HF.out, HC.out, by repeat (first | (with_reducible exact B2.out) | refine Below.setCell ?_ (by simp) _)⟩

end Go.Proofs.Ytkhkmgblgonfoaa
