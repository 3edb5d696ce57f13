/-
  What the proof wants: FieldRN, FieldRQ.
-/
import Derived.Test.YtkhkmgblgonfoaaGreatQFieldRG
import Derived.Test.YtkhkmgblgonfoaaGreatQFieldRT
import Derived.Test.YtkhkmgblgonfoaaGreatQBoxPlain
import Derived.Test.YtkhkmgblgonfoaaGreatQRowS
import Derived.Test.YtkhkmgblgonfoaaGreatQPrinA
import Derived.LoopN
import Derived.Deep.RegionHeld3

/-
  What Number, Short and Octet of the document's answer for fields return.
-/
namespace Go.Proofs.YtkhkmgblgonfoaaGreat
open Go.RowKit

set_option maxHeartbeats 1600000 in
theorem r5get_4b (A : Option Addr) (bn cap : Nat) (zs : List Int) (at' : Int) (w : World) (h : Sl w A bn cap zs) (hn : bn ≤ 100000) (he : S5.getE zs at' 4 = 0) : Calls Tryz.prog 114 #[.slice A bn cap, .int .i64 at', .int .i64 4, .bool false] w (NumOut zs at' 4 false w) := by
  have hb := S5.by_get zs at' 4
  have HE := Lib.hid he
  have HV := Lib.hid (S5.getV_ok false he)
  have HP := Lib.hid (S5.part_len he)
  have hys : S5.byS zs at' ((4 : Nat) : Int) = S5.part zs at' 4 := by unfold S5.byS; rw [hb, he]; rfl
  have hyn : S5.byN zs at' ((4 : Nat) : Int) = at' + 4 := by unfold S5.byN; rw [hb, he]; rfl
  have BY := r5bytes_any A bn cap zs at' ((4 : Nat) : Int) w h hn
  unfold BytesAt at BY
  rw [hb, he, hys, hyn] at BY
  replace BY := Lib.hid BY
  clear hb he hys hyn
  go_enter Tryz.func114, Tryz.ntmps114
  go_wp2_with (fail)
  refine BY.out.mono ?_
  rintro e w1 ⟨A1, n1, c1, rfl, hs1, hb1, hf1⟩
  have e1 : n1 = 4 := hs1.len.symm.trans HP.out.1
  subst e1
  obtain ⟨b, off, rfl⟩ : ∃ b off, A1 = some ⟨b, off, none⟩ := by
    obtain ⟨b, off, _, e, _⟩ := hs1.row.at (i := 0) (by decide)
    exact ⟨b, off, e⟩
  obtain ⟨z0, g0, l0, u0, d0⟩ := getR hs1 (i := 0) (by decide)
  obtain ⟨z1, g1, l1, u1, d1⟩ := getR hs1 (i := 1) (by decide)
  obtain ⟨z2, g2, l2, u2, d2⟩ := getR hs1 (i := 2) (by decide)
  obtain ⟨z3, g3, l3, u3, d3⟩ := getR hs1 (i := 3) (by decide)
  rw [Nat.add_zero] at d0
  have HL := Lib.hid (S5.list4 HP.out.1 g0 g1 g2 g3)
  replace hs1 := Lib.hid hs1
  clear g0 g1 g2 g3
  go_wp2_with (fail)
  refine wp_loop_rounds 5 ?_
  have o0 := ori0 z0 l0 u0
  rw [rounds_succ]
  go_wp2_with (fail)
  clear o0
  obtain ⟨y0, hy0⟩ : ∃ y0, y0 = z0 := ⟨_, rfl⟩
  have o1 := ori z0 z1 l0 (by omega) l1 u1
  rw [rounds_succ]
  go_wp2_with (fail)
  clear o1
  obtain ⟨y1, hy1⟩ : ∃ y1, y1 = z0 * 256 + z1 := ⟨_, rfl⟩
  have ly1 : 0 ≤ y1 := by omega
  have uy1 : y1 ≤ 65535 := by omega
  rw [← hy1]
  replace hy1 := Lib.hid hy1
  have o2 := ori y1 z2 ly1 (by omega) l2 u2
  rw [rounds_succ]
  go_wp2_with (fail)
  clear o2
  obtain ⟨y2, hy2⟩ : ∃ y2, y2 = y1 * 256 + z2 := ⟨_, rfl⟩
  have ly2 : 0 ≤ y2 := by omega
  have uy2 : y2 ≤ 16777215 := by omega
  rw [← hy2]
  replace hy2 := Lib.hid hy2
  have o3 := ori y2 z3 ly2 (by omega) l3 u3
  rw [rounds_succ]
  go_wp2_with (fail)
  clear o3
  obtain ⟨y3, hy3⟩ : ∃ y3, y3 = y2 * 256 + z3 := ⟨_, rfl⟩
  have ly3 : 0 ≤ y3 := by omega
  have uy3 : y3 ≤ 4294967295 := by omega
  rw [← hy3]
  replace hy3 := Lib.hid hy3
  rw [rounds_succ]
  go_wp2_with (fail)
  have hfin : S5.getV zs at' 4 false = y3 := by
    rw [HV.out.1, HL.out]
    show ((((0 * 256 + z0) * 256 + z1) * 256 + z2) * 256 + z3) = y3
    have q1 := hy1.out; have q2 := hy2.out; have q3 := hy3.out; omega
  go_ret3
  exact ⟨ret_three (ival hfin.symm) (ival HV.out.2.symm) (ival HE.out.symm), hb1⟩

set_option maxHeartbeats 1600000 in
theorem r5get_4l (A : Option Addr) (bn cap : Nat) (zs : List Int) (at' : Int) (w : World) (h : Sl w A bn cap zs) (hn : bn ≤ 100000) (he : S5.getE zs at' 4 = 0) : Calls Tryz.prog 114 #[.slice A bn cap, .int .i64 at', .int .i64 4, .bool true] w (NumOut zs at' 4 true w) := by
  have hb := S5.by_get zs at' 4
  have HE := Lib.hid he
  have HV := Lib.hid (S5.getV_ok true he)
  have HP := Lib.hid (S5.part_len he)
  have hys : S5.byS zs at' ((4 : Nat) : Int) = S5.part zs at' 4 := by unfold S5.byS; rw [hb, he]; rfl
  have hyn : S5.byN zs at' ((4 : Nat) : Int) = at' + 4 := by unfold S5.byN; rw [hb, he]; rfl
  have BY := r5bytes_any A bn cap zs at' ((4 : Nat) : Int) w h hn
  unfold BytesAt at BY
  rw [hb, he, hys, hyn] at BY
  replace BY := Lib.hid BY
  clear hb he hys hyn
  go_enter Tryz.func114, Tryz.ntmps114
  go_wp2_with (fail)
  refine BY.out.mono ?_
  rintro e w1 ⟨A1, n1, c1, rfl, hs1, hb1, hf1⟩
  have e1 : n1 = 4 := hs1.len.symm.trans HP.out.1
  subst e1
  obtain ⟨b, off, rfl⟩ : ∃ b off, A1 = some ⟨b, off, none⟩ := by
    obtain ⟨b, off, _, e, _⟩ := hs1.row.at (i := 0) (by decide)
    exact ⟨b, off, e⟩
  obtain ⟨z0, g0, l0, u0, d0⟩ := getR hs1 (i := 0) (by decide)
  obtain ⟨z1, g1, l1, u1, d1⟩ := getR hs1 (i := 1) (by decide)
  obtain ⟨z2, g2, l2, u2, d2⟩ := getR hs1 (i := 2) (by decide)
  obtain ⟨z3, g3, l3, u3, d3⟩ := getR hs1 (i := 3) (by decide)
  rw [Nat.add_zero] at d0
  have HL := Lib.hid (S5.list4 HP.out.1 g0 g1 g2 g3)
  replace hs1 := Lib.hid hs1
  clear g0 g1 g2 g3
  go_wp2_with (fail)
  refine wp_loop_rounds 5 ?_
  have o0 := ori0 z3 l3 u3
  rw [rounds_succ]
  go_wp2_with (fail)
  clear o0
  obtain ⟨y0, hy0⟩ : ∃ y0, y0 = z3 := ⟨_, rfl⟩
  have o1 := ori z3 z2 l3 (by omega) l2 u2
  rw [rounds_succ]
  go_wp2_with (fail)
  clear o1
  obtain ⟨y1, hy1⟩ : ∃ y1, y1 = z3 * 256 + z2 := ⟨_, rfl⟩
  have ly1 : 0 ≤ y1 := by omega
  have uy1 : y1 ≤ 65535 := by omega
  rw [← hy1]
  replace hy1 := Lib.hid hy1
  have o2 := ori y1 z1 ly1 (by omega) l1 u1
  rw [rounds_succ]
  go_wp2_with (fail)
  clear o2
  obtain ⟨y2, hy2⟩ : ∃ y2, y2 = y1 * 256 + z1 := ⟨_, rfl⟩
  have ly2 : 0 ≤ y2 := by omega
  have uy2 : y2 ≤ 16777215 := by omega
  rw [← hy2]
  replace hy2 := Lib.hid hy2
  have o3 := ori y2 z0 ly2 (by omega) l0 u0
  rw [rounds_succ]
  go_wp2_with (fail)
  clear o3
  obtain ⟨y3, hy3⟩ : ∃ y3, y3 = y2 * 256 + z0 := ⟨_, rfl⟩
  have ly3 : 0 ≤ y3 := by omega
  have uy3 : y3 ≤ 4294967295 := by omega
  rw [← hy3]
  replace hy3 := Lib.hid hy3
  rw [rounds_succ]
  go_wp2_with (fail)
  have hfin : S5.getV zs at' 4 true = y3 := by
    rw [HV.out.1, HL.out]
    show ((((0 * 256 + z3) * 256 + z2) * 256 + z1) * 256 + z0) = y3
    have q1 := hy1.out; have q2 := hy2.out; have q3 := hy3.out; omega
  go_ret3
  exact ⟨ret_three (ival hfin.symm) (ival HV.out.2.symm) (ival HE.out.symm), hb1⟩

set_option maxHeartbeats 1600000 in
theorem r5get_2b (A : Option Addr) (bn cap : Nat) (zs : List Int) (at' : Int) (w : World) (h : Sl w A bn cap zs) (hn : bn ≤ 100000) (he : S5.getE zs at' 2 = 0) : Calls Tryz.prog 114 #[.slice A bn cap, .int .i64 at', .int .i64 2, .bool false] w (NumOut zs at' 2 false w) := by
  have hb := S5.by_get zs at' 2
  have HE := Lib.hid he
  have HV := Lib.hid (S5.getV_ok false he)
  have HP := Lib.hid (S5.part_len he)
  have hys : S5.byS zs at' ((2 : Nat) : Int) = S5.part zs at' 2 := by unfold S5.byS; rw [hb, he]; rfl
  have hyn : S5.byN zs at' ((2 : Nat) : Int) = at' + 2 := by unfold S5.byN; rw [hb, he]; rfl
  have BY := r5bytes_any A bn cap zs at' ((2 : Nat) : Int) w h hn
  unfold BytesAt at BY
  rw [hb, he, hys, hyn] at BY
  replace BY := Lib.hid BY
  clear hb he hys hyn
  go_enter Tryz.func114, Tryz.ntmps114
  go_wp2_with (fail)
  refine BY.out.mono ?_
  rintro e w1 ⟨A1, n1, c1, rfl, hs1, hb1, hf1⟩
  have e1 : n1 = 2 := hs1.len.symm.trans HP.out.1
  subst e1
  obtain ⟨b, off, rfl⟩ : ∃ b off, A1 = some ⟨b, off, none⟩ := by
    obtain ⟨b, off, _, e, _⟩ := hs1.row.at (i := 0) (by decide)
    exact ⟨b, off, e⟩
  obtain ⟨z0, g0, l0, u0, d0⟩ := getR hs1 (i := 0) (by decide)
  obtain ⟨z1, g1, l1, u1, d1⟩ := getR hs1 (i := 1) (by decide)
  rw [Nat.add_zero] at d0
  have HL := Lib.hid (S5.list2 HP.out.1 g0 g1)
  replace hs1 := Lib.hid hs1
  clear g0 g1
  go_wp2_with (fail)
  refine wp_loop_rounds 3 ?_
  have o0 := ori0 z0 l0 u0
  rw [rounds_succ]
  go_wp2_with (fail)
  clear o0
  obtain ⟨y0, hy0⟩ : ∃ y0, y0 = z0 := ⟨_, rfl⟩
  have o1 := ori z0 z1 l0 (by omega) l1 u1
  rw [rounds_succ]
  go_wp2_with (fail)
  clear o1
  obtain ⟨y1, hy1⟩ : ∃ y1, y1 = z0 * 256 + z1 := ⟨_, rfl⟩
  have ly1 : 0 ≤ y1 := by omega
  have uy1 : y1 ≤ 65535 := by omega
  rw [← hy1]
  replace hy1 := Lib.hid hy1
  rw [rounds_succ]
  go_wp2_with (fail)
  have hfin : S5.getV zs at' 2 false = y1 := by
    rw [HV.out.1, HL.out]
    show ((0 * 256 + z0) * 256 + z1) = y1
    have q1 := hy1.out; omega
  go_ret3
  exact ⟨ret_three (ival hfin.symm) (ival HV.out.2.symm) (ival HE.out.symm), hb1⟩

set_option maxHeartbeats 1600000 in
theorem r5get_2l (A : Option Addr) (bn cap : Nat) (zs : List Int) (at' : Int) (w : World) (h : Sl w A bn cap zs) (hn : bn ≤ 100000) (he : S5.getE zs at' 2 = 0) : Calls Tryz.prog 114 #[.slice A bn cap, .int .i64 at', .int .i64 2, .bool true] w (NumOut zs at' 2 true w) := by
  have hb := S5.by_get zs at' 2
  have HE := Lib.hid he
  have HV := Lib.hid (S5.getV_ok true he)
  have HP := Lib.hid (S5.part_len he)
  have hys : S5.byS zs at' ((2 : Nat) : Int) = S5.part zs at' 2 := by unfold S5.byS; rw [hb, he]; rfl
  have hyn : S5.byN zs at' ((2 : Nat) : Int) = at' + 2 := by unfold S5.byN; rw [hb, he]; rfl
  have BY := r5bytes_any A bn cap zs at' ((2 : Nat) : Int) w h hn
  unfold BytesAt at BY
  rw [hb, he, hys, hyn] at BY
  replace BY := Lib.hid BY
  clear hb he hys hyn
  go_enter Tryz.func114, Tryz.ntmps114
  go_wp2_with (fail)
  refine BY.out.mono ?_
  rintro e w1 ⟨A1, n1, c1, rfl, hs1, hb1, hf1⟩
  have e1 : n1 = 2 := hs1.len.symm.trans HP.out.1
  subst e1
  obtain ⟨b, off, rfl⟩ : ∃ b off, A1 = some ⟨b, off, none⟩ := by
    obtain ⟨b, off, _, e, _⟩ := hs1.row.at (i := 0) (by decide)
    exact ⟨b, off, e⟩
  obtain ⟨z0, g0, l0, u0, d0⟩ := getR hs1 (i := 0) (by decide)
  obtain ⟨z1, g1, l1, u1, d1⟩ := getR hs1 (i := 1) (by decide)
  rw [Nat.add_zero] at d0
  have HL := Lib.hid (S5.list2 HP.out.1 g0 g1)
  replace hs1 := Lib.hid hs1
  clear g0 g1
  go_wp2_with (fail)
  refine wp_loop_rounds 3 ?_
  have o0 := ori0 z1 l1 u1
  rw [rounds_succ]
  go_wp2_with (fail)
  clear o0
  obtain ⟨y0, hy0⟩ : ∃ y0, y0 = z1 := ⟨_, rfl⟩
  have o1 := ori z1 z0 l1 (by omega) l0 u0
  rw [rounds_succ]
  go_wp2_with (fail)
  clear o1
  obtain ⟨y1, hy1⟩ : ∃ y1, y1 = z1 * 256 + z0 := ⟨_, rfl⟩
  have ly1 : 0 ≤ y1 := by omega
  have uy1 : y1 ≤ 65535 := by omega
  rw [← hy1]
  replace hy1 := Lib.hid hy1
  rw [rounds_succ]
  go_wp2_with (fail)
  have hfin : S5.getV zs at' 2 true = y1 := by
    rw [HV.out.1, HL.out]
    show ((0 * 256 + z1) * 256 + z0) = y1
    have q1 := hy1.out; omega
  go_ret3
  exact ⟨ret_three (ival hfin.symm) (ival HV.out.2.symm) (ival HE.out.symm), hb1⟩

set_option maxHeartbeats 1600000 in
theorem r5get_1b (A : Option Addr) (bn cap : Nat) (zs : List Int) (at' : Int) (w : World) (h : Sl w A bn cap zs) (hn : bn ≤ 100000) (he : S5.getE zs at' 1 = 0) : Calls Tryz.prog 114 #[.slice A bn cap, .int .i64 at', .int .i64 1, .bool false] w (NumOut zs at' 1 false w) := by
  have hb := S5.by_get zs at' 1
  have HE := Lib.hid he
  have HV := Lib.hid (S5.getV_ok false he)
  have HP := Lib.hid (S5.part_len he)
  have hys : S5.byS zs at' ((1 : Nat) : Int) = S5.part zs at' 1 := by unfold S5.byS; rw [hb, he]; rfl
  have hyn : S5.byN zs at' ((1 : Nat) : Int) = at' + 1 := by unfold S5.byN; rw [hb, he]; rfl
  have BY := r5bytes_any A bn cap zs at' ((1 : Nat) : Int) w h hn
  unfold BytesAt at BY
  rw [hb, he, hys, hyn] at BY
  replace BY := Lib.hid BY
  clear hb he hys hyn
  go_enter Tryz.func114, Tryz.ntmps114
  go_wp2_with (fail)
  refine BY.out.mono ?_
  rintro e w1 ⟨A1, n1, c1, rfl, hs1, hb1, hf1⟩
  have e1 : n1 = 1 := hs1.len.symm.trans HP.out.1
  subst e1
  obtain ⟨b, off, rfl⟩ : ∃ b off, A1 = some ⟨b, off, none⟩ := by
    obtain ⟨b, off, _, e, _⟩ := hs1.row.at (i := 0) (by decide)
    exact ⟨b, off, e⟩
  obtain ⟨z0, g0, l0, u0, d0⟩ := getR hs1 (i := 0) (by decide)
  rw [Nat.add_zero] at d0
  have HL := Lib.hid (S5.list1 HP.out.1 g0)
  replace hs1 := Lib.hid hs1
  clear g0
  go_wp2_with (fail)
  refine wp_loop_rounds 2 ?_
  have o0 := ori0 z0 l0 u0
  rw [rounds_succ]
  go_wp2_with (fail)
  clear o0
  obtain ⟨y0, hy0⟩ : ∃ y0, y0 = z0 := ⟨_, rfl⟩
  rw [rounds_succ]
  go_wp2_with (fail)
  have hfin : S5.getV zs at' 1 false = z0 := by
    rw [HV.out.1, HL.out]
    show (0 * 256 + z0) = z0
    omega
  go_ret3
  exact ⟨ret_three (ival hfin.symm) (ival HV.out.2.symm) (ival HE.out.symm), hb1⟩

theorem r5number_any (A : Option Addr) (bn cap : Nat) (zs : List Int) (at' : Int) (l : Bool) (w : World) (h : Sl w A bn cap zs) (hn : bn ≤ 100000) : Calls Tryz.prog 83 #[.slice A bn cap, .int .i64 at', .bool l] w (NumOut zs at' 4 l w) := by
  have G : Calls Tryz.prog 114 #[.slice A bn cap, .int .i64 at', .int .i64 4, .bool l] w (NumOut zs at' 4 l w) := by
    by_cases he : S5.getE zs at' 4 = 0
    · cases l
      · exact r5get_4b A bn cap zs at' w h hn he
      · exact r5get_4l A bn cap zs at' w h hn he
    · exact r5get_err A bn cap zs at' 4 l w h hn he
  replace G := Lib.hid G
  go_enter Tryz.func83, Tryz.ntmps83
  go_wp2_with (fail)
  refine G.out.mono ?_
  rintro e w1 ⟨rfl, hb1⟩
  go_wp2_with (fail)
  go_ret3
  exact ⟨rfl, hb1⟩

theorem r5short_any (A : Option Addr) (bn cap : Nat) (zs : List Int) (at' : Int) (l : Bool) (w : World) (h : Sl w A bn cap zs) (hn : bn ≤ 100000) : Calls Tryz.prog 92 #[.slice A bn cap, .int .i64 at', .bool l] w (NumOut zs at' 2 l w) := by
  have G : Calls Tryz.prog 114 #[.slice A bn cap, .int .i64 at', .int .i64 2, .bool l] w (NumOut zs at' 2 l w) := by
    by_cases he : S5.getE zs at' 2 = 0
    · cases l
      · exact r5get_2b A bn cap zs at' w h hn he
      · exact r5get_2l A bn cap zs at' w h hn he
    · exact r5get_err A bn cap zs at' 2 l w h hn he
  replace G := Lib.hid G
  go_enter Tryz.func92, Tryz.ntmps92
  go_wp2_with (fail)
  refine G.out.mono ?_
  rintro e w1 ⟨rfl, hb1⟩
  go_wp2_with (fail)
  go_ret3
  exact ⟨rfl, hb1⟩

theorem r5octet_any (A : Option Addr) (bn cap : Nat) (zs : List Int) (at' : Int) (w : World) (h : Sl w A bn cap zs) (hn : bn ≤ 100000) : Calls Tryz.prog 85 #[.slice A bn cap, .int .i64 at'] w (NumOut zs at' 1 false w) := by
  have G : Calls Tryz.prog 114 #[.slice A bn cap, .int .i64 at', .int .i64 1, .bool false] w (NumOut zs at' 1 false w) := by
    by_cases he : S5.getE zs at' 1 = 0
    · exact r5get_1b A bn cap zs at' w h hn he
    · exact r5get_err A bn cap zs at' 1 false w h hn he
  replace G := Lib.hid G
  go_enter Tryz.func85, Tryz.ntmps85
  go_wp2_with (fail)
  refine G.out.mono ?_
  rintro e w1 ⟨rfl, hb1⟩
  go_wp2_with (fail)
  go_ret3
  exact ⟨rfl, hb1⟩

end Go.Proofs.YtkhkmgblgonfoaaGreat

/-
  What Principal of the document's answer for fields returns.
-/
namespace Go.Proofs.YtkhkmgblgonfoaaGreat
open Go.RowKit

theorem str_info : (Tryz.prog.info? 9).map (fun i => (i.zero, i.size, i.bytes)) = some (some (.string ⟨#[]⟩), 1, 16) := by kernel_rfl

/-- What Principal returns. -/
def PrinOut (zs : List Int) (at' : Int) (w : World) (e : Ending) (w' : World) : Prop :=
  e = .returned (.tuple #[.agg #[.string (strOfNums (S5.prA zs at')), .string (strOfNums (S5.prB zs at')), .string (strOfNums (S5.prC zs at'))], .int .i64 (S5.prN zs at'), .int .i64 (S5.prE zs at')]) ∧ Below w.heap.size w w'







end Go.Proofs.YtkhkmgblgonfoaaGreat
