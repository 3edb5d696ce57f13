/-
  The law FieldOrder: the other byte order reverses the bytes of a number.
-/
import Derived.Test.YtnipccnfdgdknaaFieldH
import Derived.BigQuiet
import Derived.IntWalk
namespace Go.Proofs.Ytnipccnfdgdknaa
open Go.RowKit

theorem Sl.drewN {w : World} {A : Option Addr} {n cap : Nat} {zs : List Int} (h : Sl w A n cap zs) (k : Nat) : Sl (w.drewN k) A n cap zs := h

set_option maxHeartbeats 1600000 in
theorem fieldOrderLaw_walk (n : Int) (w : World) (n0 : 0 ≤ n) (n1 : n ≤ 4294967295) : Calls Try.prog 6 #[.int .u32 n] w fun e w' => e = .returned (.bool true) ∧ Below w.heap.size w w' := by
  have P1 := Lib.hid (fun (W : World) => fputNumber_any none 0 0 [] n true W (Sl.nil W) (by decide))
  have P2 := Lib.hid (fun (W : World) => fputNumber_any none 0 0 [] n false W (Sl.nil W) (by decide))
  obtain ⟨a1, a2, _⟩ := S5.get_mid [] (S5.le4 n) [] false
  obtain ⟨b1, b2, _⟩ := S5.get_mid [] (S5.be4 n) [] true
  replace a1 := Lib.hid (show S5.getE (S5.le4 n) 0 4 = 0 by rw [List.nil_append, List.append_nil] at a1; exact a1)
  replace b1 := Lib.hid (show S5.getE (S5.be4 n) 0 4 = 0 by rw [List.nil_append, List.append_nil] at b1; exact b1)
  have e1 : S5.getV (S5.le4 n) 0 4 false = S5.getV (S5.be4 n) 0 4 true := by
    have a2 : S5.getV (S5.le4 n) 0 4 false = S3.num (S5.le4 n) := by rw [List.nil_append, List.append_nil] at a2; exact a2
    have b2 : S5.getV (S5.be4 n) 0 4 true = S3.num (S5.be4 n).reverse := by rw [List.nil_append, List.append_nil] at b2; exact b2
    rw [a2, b2]; rfl
  replace e1 := Lib.hid e1
  clear a2 b2
  go_enter Try.func6, Try.ntmps6
  go_wp2_with (fail)
  refine (awake5_any _).mono ?_
  rintro e w1 ⟨rfl, B⟩
  go_wp2_with (fail)
  refine (P1.out _).mono ?_
  rintro e w2 ⟨A2, m2, c2, rfl, hs2, hb2, _⟩
  replace hs2 : Sl w2 A2 m2 c2 (S5.le4 n) := hs2
  replace B := below_keep hb2 B
  have em : m2 = 4 := hs2.len.symm
  subst em
  clear hb2
  go_wp2_with (fail)
  refine (P2.out _).mono ?_
  rintro e w3 ⟨A3, m3, c3, rfl, hs3, hb3, _⟩
  replace hs3 : Sl w3 A3 m3 c3 (S5.be4 n) := hs3
  replace B := below_keep hb3 B
  have em : m3 = 4 := hs3.len.symm
  subst em
  replace hs2 := hs2.keep hb3
  clear hb3
  obtain ⟨b, off, rfl⟩ : ∃ b off, A2 = some ⟨b, off, none⟩ := by
    obtain ⟨b, off, _, e, _⟩ := hs2.row.at (i := 0) (by decide)
    exact ⟨b, off, e⟩
  obtain ⟨b', off', rfl⟩ : ∃ b off, A3 = some ⟨b, off, none⟩ := by
    obtain ⟨b, off, _, e, _⟩ := hs3.row.at (i := 0) (by decide)
    exact ⟨b, off, e⟩
  obtain ⟨x0, p0, _, _, k0⟩ := getR hs2 (i := 0) (by decide)
  obtain ⟨x1, p1, _, _, k1⟩ := getR hs2 (i := 1) (by decide)
  obtain ⟨x2, p2, _, _, k2⟩ := getR hs2 (i := 2) (by decide)
  obtain ⟨x3, p3, _, _, k3⟩ := getR hs2 (i := 3) (by decide)
  obtain ⟨y0, q0, _, _, j0⟩ := getR hs3 (i := 0) (by decide)
  obtain ⟨y1, q1, _, _, j1⟩ := getR hs3 (i := 1) (by decide)
  obtain ⟨y2, q2, _, _, j2⟩ := getR hs3 (i := 2) (by decide)
  obtain ⟨y3, q3, _, _, j3⟩ := getR hs3 (i := 3) (by decide)
  simp [S5.le4] at p0 p1 p2 p3
  simp [S5.be4] at q0 q1 q2 q3
  rw [q0] at p3; rw [q1] at p2; rw [q2] at p1; rw [q3] at p0
  subst p0 p1 p2 p3
  clear q0 q1 q2 q3
  rw [Nat.add_zero] at k0 j0
  replace hs2 := Lib.hid hs2
  replace hs3 := Lib.hid hs3
  go_wp2_with (fail)
  refine wp_loop_rounds 5 ?_
  rw [rounds_succ]
  go_wp2_with (fail)
  have hw : IntKind.i64.wrap 3 = 3 := by decide
  go_quiet (fail)
  clear hw
  go_wp2_with (fail)
  rw [rounds_succ]
  go_wp2_with (fail)
  have hw : IntKind.i64.wrap 2 = 2 := by decide
  go_quiet (fail)
  clear hw
  go_wp2_with (fail)
  rw [rounds_succ]
  go_wp2_with (fail)
  have hw : IntKind.i64.wrap 1 = 1 := by decide
  go_quiet (fail)
  clear hw
  go_wp2_with (fail)
  rw [rounds_succ]
  go_wp2_with (fail)
  have hw : IntKind.i64.wrap 0 = 0 := by decide
  go_quiet (fail)
  clear hw
  go_wp2_with (fail)
  rw [rounds_succ]
  go_wp2_with (fail)
  refine (fnumber_any _ _ _ (S5.le4 n) 0 false _ (hs2.out.drewN _) (by decide)).mono ?_
  rintro e w5 ⟨rfl, hb5⟩
  have hs5 := Lib.hid ((hs3.out.drewN _).keep hb5)
  have B5 := below_keep hb5 (below_drewN' B _)
  rw [a1.out, e1.out]
  clear hb5
  go_wp2_with (fail)
  refine (fnumber_any _ _ _ (S5.be4 n) 0 true _ hs5.out (by decide)).mono ?_
  rintro e w6 ⟨rfl, hb6⟩
  have B6 := below_keep hb6 B5
  rw [b1.out]
  clear hb6
  go_wp2_with (fail)
  go_ret
  exact ⟨ret_bool (by simp), B6⟩

end Go.Proofs.Ytnipccnfdgdknaa
