/-
  What Seal, Open and For of package ticket return.
-/
import Derived.Test.YtjkpbkbgbgckaaaGreatQTkCodeC
import Derived.Test.YtjkpbkbgbgckaaaGreatQTkD
import Derived.Test.YtjkpbkbgbgckaaaGreatQBoxA
import Derived.Test.YtjkpbkbgbgckaaaGreatQBoxC
namespace Go.Proofs.YtjkpbkbgbgckaaaGreat
open Go.RowKit

set_option maxRecDepth 100000 in
set_option maxHeartbeats 1600000 in
theorem tseal_any (t : S6.Tk) (f : t.Fit) (k : Int) (w : World) (k0 : 0 ≤ k) (k1 : k ≤ 18446744073709551615) : Calls Tryz.prog 8 #[t.val, .int .u64 k] w (SealOut t k w) := by
  have Bw := Lib.hid (show Below w.heap.size w (w.alloc (.cells t.cells 27)) from (Below.refl _ _).alloc (Nat.le_refl _) _)
  have EC := Lib.hid (fun W => tencode_any t f W)
  unfold S6.Tk.val S6.Tk.cells at EC
  unfold S6.Tk.val S6.Tk.cells
  unfold S6.Tk.cells at Bw
  by_cases h : S6.chkE t = 0
  · have HS := Lib.hid (S6.seal_ok h k)
    have HB := Lib.hid (show S6.encB t = S6.enc t by unfold S6.encB; rw [if_pos h])
    have hne : (S6.chkE t != 0) = false := by simpa using h
    clear h
    go_enter Tryz.func8, Tryz.ntmps8
    go_wp2_with (fail)
    refine (EC.out _).mono ?_
    rintro e w1 ⟨A1, n1, c1, rfl, hs1, hb1, _⟩
    have B1 := Lib.hid (below_keep hb1 Bw.out)
    rw [HB.out] at hs1
    replace hs1 := Lib.hid hs1
    clear hb1
    go_wp2_with (fail)
    refine (bmake_any 1 k A1 n1 c1 _ _ hs1.out k0 k1).mono ?_
    rintro e w2 ⟨A2, n2, c2, rfl, hs2, hb2⟩
    have B2 := Lib.hid (below_keep hb2 B1.out)
    replace hs2 := Lib.hid hs2
    clear hb2
    go_wp2_with (fail)
    go_ret2
    exact ⟨A2, n2, c2, ret_two rfl (ival HS.out.1.symm), by rw [HS.out.2]; exact hs2.out, B2.out⟩
  · have HS := Lib.hid (S6.seal_err h k)
    have hne : (S6.chkE t != 0) = true := by simpa using h
    clear h
    go_enter Tryz.func8, Tryz.ntmps8
    go_wp2_with (fail)
    refine (EC.out _).mono ?_
    rintro e w1 ⟨A1, n1, c1, rfl, hs1, hb1, _⟩
    have B1 := Lib.hid (below_keep hb1 Bw.out)
    clear hb1 hs1
    go_wp2_with (fail)
    go_ret2
    exact ⟨none, 0, 0, ret_two rfl (ival HS.out.1.symm), by rw [HS.out.2]; exact Sl.nil _, B1.out⟩

set_option maxRecDepth 100000 in
set_option maxHeartbeats 1600000 in
theorem topen_any (A : Option Addr) (n cap : Nat) (zs : List Int) (k : Int) (w : World) (h : Sl w A n cap zs) (hn : n ≤ 100000) (_ : 0 ≤ k) (_ : k ≤ 18446744073709551615) : Calls Tryz.prog 11 #[.slice A n cap, .int .u64 k] w (OpnOut zs k w) := by
  have Bw := Lib.hid (show Below w.heap.size w (w.alloc (.cells zeroL.toArray 27)) from (Below.refl _ _).alloc (Nat.le_refl _) _)
  have X0 := Lib.hid (BoxAt.new w zeroL 27)
  have hs0 := Lib.hid (h.keep Bw.out)
  have hl := h.len
  rcases ho : S4.opOk zs 1 k
  · have HO := Lib.hid (S6.open_no ho)
    have OC := Lib.hid (bopen_any A n cap zs 1 k _ hs0.out)
    rw [ho] at OC
    clear ho
    unfold zeroL at OC Bw X0
    go_enter Tryz.func11, Tryz.ntmps11
    go_wp2_with (fail)
    refine OC.out.mono ?_
    rintro e w1 ⟨A1, n1, c1, rfl, hs1, hb1, _⟩
    have X1 := X0.out.keep hb1
    have B1 := Lib.hid (below_keep hb1 Bw.out)
    have x0 := X1.c 0 _ rfl
    have x1 := X1.c 1 _ rfl
    have x2 := X1.c 2 _ rfl
    have x3 := X1.c 3 _ rfl
    have x4 := X1.c 4 _ rfl
    have x5 := X1.c 5 _ rfl
    have x6 := X1.c 6 _ rfl
    have x7 := X1.c 7 _ rfl
    have x8 := X1.c 8 _ rfl
    have x9 := X1.c 9 _ rfl
    have xf := X1.fz
    have xl := X1.lt
    clear X1 hb1 hs1
    go_wp2_with (fail)
    refine bodyPost_ret (v := .tuple #[S6.Tk.zero.val, .int .i64 31]) ?_ rfl ?_
    · simp [results, Tryz.results11, go_sem, S6.Tk.val, S6.Tk.cells, S6.Tk.zero, x0, x1, x2, x3, x4, x5, x6, x7, x8, x9]
    · exact opn_out HO.out (by repeat (first | (with_reducible exact B1.out) | refine Below.setCell ?_ (by simp) _))
  · have HO := Lib.hid (S6.open_yes ho)
    have OC := Lib.hid (bopen_any A n cap zs 1 k _ hs0.out)
    have hol := Lib.hid (show (S4.opB zs 1 k).length ≤ n by
      rw [← hl]
      unfold S4.opB
      rw [if_pos ho]
      unfold S4.rdB
      split
      · rw [List.length_take, List.length_drop]; omega
      · simp)
    rw [ho] at OC
    clear ho
    unfold zeroL at OC Bw X0
    go_enter Tryz.func11, Tryz.ntmps11
    go_wp2_with (fail)
    refine OC.out.mono ?_
    rintro e w1 ⟨A1, n1, c1, rfl, hs1, hb1, _⟩
    have X1 := Lib.hid (X0.out.keep hb1)
    have B1 := Lib.hid (below_keep hb1 Bw.out)
    have hn1 : n1 ≤ 100000 := by have := hs1.len; have := hol.out; omega
    replace hs1 := Lib.hid hs1
    have DC := Lib.hid (tdecode_any A1 n1 c1 _ w1 hs1.out hn1)
    unfold DecOut at DC
    obtain ⟨T, hT⟩ : ∃ T, T = S6.decT (S4.opB zs 1 k) := ⟨_, rfl⟩
    rw [← hT] at DC HO
    clear hT
    unfold S6.Tk.val S6.Tk.cells at DC
    clear hb1
    go_wp2_with (fail)
    refine DC.out.mono ?_
    rintro e w2 ⟨rfl, hb2⟩
    have X2 := X1.out.keep hb2
    have B2 := Lib.hid (below_keep hb2 B1.out)
    have x0 := X2.c 0 _ rfl
    have x1 := X2.c 1 _ rfl
    have x2 := X2.c 2 _ rfl
    have x3 := X2.c 3 _ rfl
    have x4 := X2.c 4 _ rfl
    have x5 := X2.c 5 _ rfl
    have x6 := X2.c 6 _ rfl
    have x7 := X2.c 7 _ rfl
    have x8 := X2.c 8 _ rfl
    have x9 := X2.c 9 _ rfl
    have xf := X2.fz
    have xl := X2.lt
    clear X2 hb2
    go_wp2_with (fail)
    refine bodyPost_ret (v := .tuple #[T.val, .int .i64 (S6.decE (S4.opB zs 1 k))]) ?_ rfl ?_
    · simp [results, Tryz.results11, go_sem, S6.Tk.val, S6.Tk.cells, x0, x1, x2, x3, x4, x5, x6, x7, x8, x9]
    · exact opn_out HO.out (by repeat (first | (with_reducible exact B2.out) | refine Below.setCell ?_ (by simp) _))


end Go.Proofs.YtjkpbkbgbgckaaaGreat
