/-
  The law PrincipalFormats: the text of any principal, or the error, and that it is parsed as it was.
-/
import Derived.Test.YtpfkacmogggemaaPlainB
import Derived.Test.YtpfkacmogggemaaOrderLaw
namespace Go.Proofs.Ytpfkacmogggemaa
open Go.RowKit

set_option maxRecDepth 100000 in
set_option maxHeartbeats 1600000 in
theorem formatsLaw_walk (a b c r : ByteArray) (w : World) (hm : MaxOk w) (ha : a.size ≤ maxLen) (hb : b.size ≤ maxLen) (hc : c.size ≤ maxLen) (hr : r.size ≤ maxLen) :
    Calls Try.prog 5 #[.agg #[.string a, .string b, .string c], .string r] w fun e w' => e = .returned (.bool true) ∧ Below w.heap.size w w' := by
  have hp := hm.pos
  rcases h1 : lg a b c <;> by_cases h2 : 100 < (r.size : Int) <;> rcases h3 : S1.vP a.data.toList b.data.toList c.data.toList
  all_goals
    have H3 := Lib.hid h3
    clear h3
    have B0 : Below w.heap.size w (w.alloc (Obj.cells #[.string a, .string b, .string c] 23)) := (Below.refl _ _).alloc (Nat.le_refl _) _
    have x0 : (w.alloc (Obj.cells #[.string a, .string b, .string c] 23)).cell? ⟨w.heap.size, 0, none⟩ = some (.string a) := by simp [go_sem]
    have x1 : (w.alloc (Obj.cells #[.string a, .string b, .string c] 23)).cell? ⟨w.heap.size, 1, none⟩ = some (.string b) := by simp [go_sem]
    have x2 : (w.alloc (Obj.cells #[.string a, .string b, .string c] 23)).cell? ⟨w.heap.size, 2, none⟩ = some (.string c) := by simp [go_sem]
    go_enter Try.func5, Try.ntmps5
    go_wp2_with (fail)
    refine (awake_any _ (hm.below B0)).mono ?_
    rintro e w1 ⟨rfl, hb1⟩
    replace B0 := below_keep hb1 B0
    replace x0 := cell_keep hb1 x0
    replace x1 := cell_keep hb1 x1
    replace x2 := cell_keep hb1 x2
    clear hb1
    go_wp2_with (fail)
    refine (long_any _ _ _ _).mono ?_
    rintro e w1 ⟨rfl, hb1⟩
    replace B0 := below_keep hb1 B0
    replace x0 := cell_keep hb1 x0
    replace x1 := cell_keep hb1 x1
    replace x2 := cell_keep hb1 x2
    clear hb1
    go_wp2_with (fail)
    try (go_ret; exact ⟨rfl, B0⟩)
  all_goals
    refine (format_any _ _ _ _ ha hb hc).mono ?_
    rintro e w1 ⟨rfl, hb1⟩
    replace B0 := below_keep hb1 B0
    replace x0 := cell_keep hb1 x0
    replace x1 := cell_keep hb1 x1
    replace x2 := cell_keep hb1 x2
    clear hb1
    first | rw [formatV_no H3.out] | rw [formatV_yes (s := ⟨(S1.fmt a.data.toList b.data.toList c.data.toList).toArray⟩) H3.out (by simp)]
    go_wp2_with (fail)
    refine (refFormat_any _ _ _ _ ha hb hc).mono ?_
    rintro e w1 ⟨rfl, hb1⟩
    replace B0 := below_keep hb1 B0
    replace x0 := cell_keep hb1 x0
    replace x1 := cell_keep hb1 x1
    replace x2 := cell_keep hb1 x2
    clear hb1
    first | rw [formatV_no H3.out] | rw [formatV_yes (s := ⟨(S1.fmt a.data.toList b.data.toList c.data.toList).toArray⟩) H3.out (by simp)]
    go_wp2_with (fail)
    refine (parse_any _ _ _ (hm.below B0) ?_ hr).mono ?_
    · first | decide | (have := S1.fmt_len H3.out; rw [size_mk]; omega)
    rintro e w1 ⟨rfl, hb1⟩
    replace B0 := below_keep hb1 B0
    replace x0 := cell_keep hb1 x0
    replace x1 := cell_keep hb1 x1
    replace x2 := cell_keep hb1 x2
    clear hb1
    first | rw [parseV_no (s := (ByteArray.mk #[]).data.toList) (by rfl)] | (obtain ⟨e1, e2, e3, e4⟩ := S1.back H3.out r.data.toList; rw [mk_data, parseV_yes2 (i := b) (c := c) e4 (by rw [e2, mk_list]) (by rw [e3, mk_list]), e1, mk_list]; clear e1 e2 e3 e4)
    obtain ⟨hz, x3⟩ : w.heap.size < w1.heap.size ∧ True := ⟨cell_lt x0, trivial⟩
    go_wp2_with (fail)
    go_ret
    exact ⟨ret_bool (by simp), B0.alloc B0.size _⟩

end Go.Proofs.Ytpfkacmogggemaa
