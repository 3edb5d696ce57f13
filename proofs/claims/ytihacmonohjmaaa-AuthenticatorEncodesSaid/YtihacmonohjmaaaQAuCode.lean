/-
  What Seal and Open of package authenticator return.
-/
import Derived.Test.YtihacmonohjmaaaQAuCodeC
import Derived.Test.YtihacmonohjmaaaQAuD
import Derived.Test.YtihacmonohjmaaaQBoxA
import Derived.Test.YtihacmonohjmaaaQBoxC
namespace Go.Proofs.Ytihacmonohjmaaa
open Go.RowKit

set_option maxRecDepth 100000 in
set_option maxHeartbeats 1600000 in
theorem aseal_any (l : Bool) (t : S7.Au) (f : t.Fit) (k : Int) (w : World) (k0 : 0 ≤ k) (k1 : k ≤ 18446744073709551615) : Calls Try.prog 19 #[t.val, .bool l, .int .u64 k] w (SealOut7 l t k w) := by
  have Bw := Lib.hid (show Below w.heap.size w (w.alloc (.cells t.cells 25)) from (Below.refl _ _).alloc (Nat.le_refl _) _)
  have EC := Lib.hid (fun W => aencode_any l t f W)
  unfold S7.Au.val S7.Au.cells at EC
  unfold S7.Au.val S7.Au.cells
  unfold S7.Au.cells at Bw
  by_cases h : S7.chkE t = 0
  · have HS := Lib.hid (S7.seal_ok l h k)
    have HB := Lib.hid (show S7.encB l t = S7.enc l t by unfold S7.encB; rw [if_pos h])
    have hne : (S7.chkE t != 0) = false := by simpa using h
    clear h
    go_enter Try.func19, Try.ntmps19
    go_wp2_with (fail)
    refine (EC.out _).mono ?_
    rintro e w1 ⟨A1, n1, c1, rfl, hs1, hb1, _⟩
    have B1 := Lib.hid (below_keep hb1 Bw.out)
    rw [HB.out] at hs1
    replace hs1 := Lib.hid hs1
    clear hb1
    go_wp2_with (fail)
    refine (bmake_any 2 k A1 n1 c1 _ _ hs1.out k0 k1).mono ?_
    rintro e w2 ⟨A2, n2, c2, rfl, hs2, hb2⟩
    have B2 := Lib.hid (below_keep hb2 B1.out)
    replace hs2 := Lib.hid hs2
    clear hb2
    go_wp2_with (fail)
    go_ret2
    exact ⟨A2, n2, c2, ret_two rfl (ival HS.out.1.symm), by rw [HS.out.2]; exact hs2.out, B2.out⟩
  · have HS := Lib.hid (S7.seal_err l h k)
    have hne : (S7.chkE t != 0) = true := by simpa using h
    clear h
    go_enter Try.func19, Try.ntmps19
    go_wp2_with (fail)
    refine (EC.out _).mono ?_
    rintro e w1 ⟨A1, n1, c1, rfl, hs1, hb1, _⟩
    have B1 := Lib.hid (below_keep hb1 Bw.out)
    clear hb1 hs1
    go_wp2_with (fail)
    go_ret2
    exact ⟨none, 0, 0, ret_two rfl (ival HS.out.1.symm), by rw [HS.out.2]; exact Sl.nil _, B1.out⟩

set_option maxRecDepth 100000 in
set_option maxHeartbeats 1600000 in
theorem aopen_any (l : Bool) (A : Option Addr) (n cap : Nat) (zs : List Int) (k : Int) (w : World) (h : Sl w A n cap zs) (hn : n ≤ 100000) (_ : 0 ≤ k) (_ : k ≤ 18446744073709551615) : Calls Try.prog 21 #[.slice A n cap, .bool l, .int .u64 k] w (OpnOut7 l zs k w) := by
  have Bw := Lib.hid (show Below w.heap.size w (w.alloc (.cells zeroA.toArray 25)) from (Below.refl _ _).alloc (Nat.le_refl _) _)
  have X0 := Lib.hid (BoxAt.new w zeroA 25)
  have hs0 := Lib.hid (h.keep Bw.out)
  have hl := h.len
  rcases ho : S4.opOk zs 2 k
  · have HO := Lib.hid (S7.open_no (l := l) ho)
    have OC := Lib.hid (bopen_any A n cap zs 2 k _ hs0.out)
    rw [ho] at OC
    clear ho
    unfold zeroA at OC Bw X0
    go_enter Try.func21, Try.ntmps21
    go_wp2_with (fail)
    refine OC.out.mono ?_
    rintro e w1 ⟨A1, n1, c1, rfl, hs1, hb1, _⟩
    have X1 := X0.out.keep hb1
    have B1 := Lib.hid (below_keep hb1 Bw.out)
    have x0 := X1.c 0 _ rfl
    have x1 := X1.c 1 _ rfl
    have x2 := X1.c 2 _ rfl
    have x3 := X1.c 3 _ rfl
    have x4 := X1.c 4 _ rfl
    have x5 := X1.c 5 _ rfl
    have xf := X1.fz
    have xl := X1.lt
    clear X1 hb1 hs1
    go_wp2_with (fail)
    refine bodyPost_ret (v := .tuple #[S7.Au.zero.val, .int .i64 31]) ?_ rfl ?_
    · simp [results, Try.results21, go_sem, S7.Au.val, S7.Au.cells, S7.Au.zero, x0, x1, x2, x3, x4, x5]
    · exact opn_out7 HO.out (by repeat (first | (with_reducible exact B1.out) | refine Below.setCell ?_ (by simp) _))
  · have OC := Lib.hid (bopen_any A n cap zs 2 k _ hs0.out)
    have hol := Lib.hid (show (S4.opB zs 2 k).length ≤ n by
      rw [← hl]
      unfold S4.opB
      rw [if_pos ho]
      unfold S4.rdB
      split
      · rw [List.length_take, List.length_drop]; omega
      · simp)
    by_cases hd : S7.decE l (S4.opB zs 2 k) = 0
    · have HO := Lib.hid (S7.open_yes ho hd)
      have hne : (S7.decE l (S4.opB zs 2 k) != 0) = false := by simpa using hd
      rw [ho] at OC
      clear ho hd
      unfold zeroA at OC Bw X0
      go_enter Try.func21, Try.ntmps21
      go_wp2_with (fail)
      refine OC.out.mono ?_
      rintro e w1 ⟨A1, n1, c1, rfl, hs1, hb1, _⟩
      have X1 := Lib.hid (X0.out.keep hb1)
      have B1 := Lib.hid (below_keep hb1 Bw.out)
      have hn1 : n1 ≤ 100000 := by have := hs1.len; have := hol.out; omega
      replace hs1 := Lib.hid hs1
      have DC := Lib.hid (adecode_any l A1 n1 c1 _ w1 hs1.out hn1)
      unfold DecOut7 at DC
      obtain ⟨T, hT⟩ : ∃ T, T = S7.decT l (S4.opB zs 2 k) := ⟨_, rfl⟩
      obtain ⟨D, hD⟩ : ∃ D, D = S7.decE l (S4.opB zs 2 k) := ⟨_, rfl⟩
      rw [← hT, ← hD] at DC
      rw [← hD] at hne
      rw [← hT] at HO
      clear hT hD
      unfold S7.Au.val S7.Au.cells at DC
      clear hb1
      go_wp2_with (fail)
      refine DC.out.mono ?_
      rintro e w2 ⟨rfl, hb2⟩
      have X2 := X1.out.keep hb2
      have B2 := Lib.hid (below_keep hb2 B1.out)
      have x0 := X2.c 0 _ rfl
      have x1 := X2.c 1 _ rfl
      have x2 := X2.c 2 _ rfl
      have x3 := X2.c 3 _ rfl
      have x4 := X2.c 4 _ rfl
      have x5 := X2.c 5 _ rfl
      have xf := X2.fz
      have xl := X2.lt
      clear X2 hb2
      go_wp2_with (fail)
      refine bodyPost_ret (v := .tuple #[T.val, .int .i64 0]) ?_ rfl ?_
      · simp [results, Try.results21, go_sem, S7.Au.val, S7.Au.cells, x0, x1, x2, x3, x4, x5, xl]
      · refine opn_out7 HO.out ?_
        repeat (first
          | (with_reducible exact B2.out)
          | (with_reducible refine Below.alloc ?_ ?_ _; rotate_left; focus (first | (simp; done) | (simp; omega)))
          | (with_reducible refine Below.setCell ?_ ?_ _; rotate_left; focus (first | (simp; done) | (simp; omega))))
    · have HO := Lib.hid (S7.open_bad ho hd)
      have hne : (S7.decE l (S4.opB zs 2 k) != 0) = true := by simpa using hd
      rw [ho] at OC
      clear ho hd
      unfold zeroA at OC Bw X0
      go_enter Try.func21, Try.ntmps21
      go_wp2_with (fail)
      refine OC.out.mono ?_
      rintro e w1 ⟨A1, n1, c1, rfl, hs1, hb1, _⟩
      have X1 := Lib.hid (X0.out.keep hb1)
      have B1 := Lib.hid (below_keep hb1 Bw.out)
      have hn1 : n1 ≤ 100000 := by have := hs1.len; have := hol.out; omega
      replace hs1 := Lib.hid hs1
      have DC := Lib.hid (adecode_any l A1 n1 c1 _ w1 hs1.out hn1)
      unfold DecOut7 at DC
      obtain ⟨T, hT⟩ : ∃ T, T = S7.decT l (S4.opB zs 2 k) := ⟨_, rfl⟩
      obtain ⟨D, hD⟩ : ∃ D, D = S7.decE l (S4.opB zs 2 k) := ⟨_, rfl⟩
      rw [← hT, ← hD] at DC
      rw [← hD] at hne
      clear hT hD
      unfold S7.Au.val S7.Au.cells at DC
      clear hb1
      go_wp2_with (fail)
      refine DC.out.mono ?_
      rintro e w2 ⟨rfl, hb2⟩
      have X2 := X1.out.keep hb2
      have B2 := Lib.hid (below_keep hb2 B1.out)
      have x0 := X2.c 0 _ rfl
      have x1 := X2.c 1 _ rfl
      have x2 := X2.c 2 _ rfl
      have x3 := X2.c 3 _ rfl
      have x4 := X2.c 4 _ rfl
      have x5 := X2.c 5 _ rfl
      have xf := X2.fz
      have xl := X2.lt
      clear X2 hb2
      go_wp2_with (fail)
      refine bodyPost_ret (v := .tuple #[S7.Au.zero.val, .int .i64 31]) ?_ rfl ?_
      · simp [results, Try.results21, go_sem, S7.Au.val, S7.Au.cells, S7.Au.zero, x0, x1, x2, x3, x4, x5, xl]
      · refine opn_out7 HO.out ?_
        repeat (first
          | (with_reducible exact B2.out)
          | (with_reducible refine Below.alloc ?_ ?_ _; rotate_left; focus (first | (simp; done) | (simp; omega)))
          | (with_reducible refine Below.setCell ?_ ?_ _; rotate_left; focus (first | (simp; done) | (simp; omega))))

end Go.Proofs.Ytihacmonohjmaaa
