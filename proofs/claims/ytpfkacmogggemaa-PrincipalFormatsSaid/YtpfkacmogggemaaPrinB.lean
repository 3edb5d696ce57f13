/-
  What Parse, Format, Compare and their kin return.
-/
import Derived.Test.YtpfkacmogggemaaPrinA
namespace Go.Proofs.Ytpfkacmogggemaa
open Go.RowKit

/-- The library's variable holds some number. -/
def MaxOk (w : World) : Prop := ∃ m, w.cell? ⟨0, 0, none⟩ = some (.int .i64 m)

theorem MaxOk.pos {w : World} (h : MaxOk w) : 0 < w.heap.size := by
  obtain ⟨m, hm⟩ := h
  apply Classical.byContradiction
  intro hc
  have e : w.heap[0]? = none := Array.getElem?_eq_none (by omega)
  simp only [World.cell?, e] at hm
  cases hm

theorem MaxOk.below {w w' : World} (h : MaxOk w) (hb : Below w.heap.size w w') : MaxOk w' := by
  obtain ⟨m, hm⟩ := h
  exact ⟨m, by rw [hb.cell (p := ⟨0, 0, none⟩) (MaxOk.pos ⟨m, hm⟩)]; exact hm⟩

theorem cut_any (s : ByteArray) (c : UInt8) (m : Int) (w : World) (hm : w.cell? ⟨0, 0, none⟩ = some (.int .i64 m)) (hs : s.size < 4294967281) :
    Calls Try.prog 30 #[.string s, .string ⟨#[c]⟩] w fun e w' => e = .returned (.tuple #[.string ⟨(s.data.toList.take (S1.idx s.data.toList c)).toArray⟩,
      .string ⟨(S1.after s.data.toList c).toArray⟩, .bool (S1.found s.data.toList c)]) ∧ ∃ n, w' = w.drewN n := by
  have h := Try.strings_Cut s ⟨#[c]⟩ m w hs hm
  have e : (ByteArray.mk #[c]).data.toList = [c] := rfl
  rw [e, S1.cut_eq] at h
  exact h

theorem bcell {W w1 : World} (hb : Below W.heap.size W w1) : (∀ b o, b < W.heap.size → w1.cell? ⟨b, o, none⟩ = W.cell? ⟨b, o, none⟩) ∧ (∀ b o, b < W.heap.size → w1.frozen? ⟨b, o, none⟩ = W.frozen? ⟨b, o, none⟩) :=
  ⟨fun b o h => hb.cell (p := ⟨b, o, none⟩) h, fun b o h => hb.frozen (p := ⟨b, o, none⟩) h⟩

theorem cell_keep {W W' : World} {b o : Nat} {v : Value} (hb : Below W.heap.size W W') (h : W.cell? ⟨b, o, none⟩ = some v) : W'.cell? ⟨b, o, none⟩ = some v := by
  have hlt : b < W.heap.size := by
    rcases Nat.lt_or_ge b W.heap.size with h' | h'
    · exact h'
    · simp [World.cell?, Array.getElem?_eq_none h'] at h
  rw [hb.cell (p := ⟨b, o, none⟩) hlt]; exact h

theorem cell_lt {w : World} {b o : Nat} {v : Value} (h : w.cell? ⟨b, o, none⟩ = some v) : b < w.heap.size := by
  rcases Nat.lt_or_ge b w.heap.size with h' | h'
  · exact h'
  · simp [World.cell?, Array.getElem?_eq_none h'] at h

theorem size_keep {W W' : World} {n : Nat} (hb : Below W.heap.size W W') (h : n < W.heap.size) : n < W'.heap.size := Nat.lt_of_lt_of_le h hb.size

theorem below_keep {w W W' : World} (hb : Below W.heap.size W W') (h : Below w.heap.size w W) : Below w.heap.size w W' := h.trans (hb.mono h.size)

theorem mk_list (b : ByteArray) : (⟨b.data.toList.toArray⟩ : ByteArray) = b := by obtain ⟨⟨l⟩⟩ := b; rfl

/-- What Parse returns. -/
def parseV (s r : List UInt8) : Value := if S1.pOk s r then
  .tuple #[.agg #[.string ⟨(S1.pName s).toArray⟩, .string ⟨(S1.pInst s).toArray⟩, .string ⟨(S1.pRealm s r).toArray⟩], .int .i64 0]
  else .tuple #[.agg #[.string ⟨#[]⟩, .string ⟨#[]⟩, .string ⟨#[]⟩], .int .i64 103]

theorem parseV_no {s r : List UInt8} (h : S1.pOk s r = false) : parseV s r = .tuple #[.agg #[.string ⟨#[]⟩, .string ⟨#[]⟩, .string ⟨#[]⟩], .int .i64 103] := by
  unfold parseV; rw [h]; rfl
theorem parseV_yes {s r : List UInt8} {c : ByteArray} (h : S1.pOk s r = true) (hc : c = ⟨(S1.pRealm s r).toArray⟩) :
    parseV s r = .tuple #[.agg #[.string ⟨(S1.pName s).toArray⟩, .string ⟨(S1.pInst s).toArray⟩, .string c], .int .i64 0] := by
  unfold parseV; rw [h, hc]; rfl

theorem size_mk (l : List UInt8) : (ByteArray.mk l.toArray).size = l.length := rfl

set_option maxHeartbeats 400000 in
/-- Parse behind its two calls of Cut: c is the realm. -/
theorem parse_any (s r : ByteArray) (w : World) (hm : MaxOk w) (hs : s.size < 4294967281) (hr : r.size ≤ maxLen) :
    Calls Try.prog 19 #[.string s, .string r] w fun e w' => e = .returned (parseV s.data.toList r.data.toList) ∧ Below w.heap.size w w' := by
  have h0 := hm.pos
  obtain ⟨m, hm⟩ := hm
  have hL := S1.pLocal_le s.data.toList
  have hN := S1.pName_le s.data.toList
  have hI := S1.pInst_le s.data.toList
  have hsz : s.data.toList.length = s.size := by simp
  have k1 : (ByteArray.mk (S1.pLocal s.data.toList).toArray).size < 4294967281 := by rw [size_mk]; omega
  have k2 : (ByteArray.mk (S1.pName s.data.toList).toArray).size ≤ maxLen := by rw [size_mk]; unfold maxLen; omega
  have k3 : (ByteArray.mk (S1.pInst s.data.toList).toArray).size ≤ maxLen := by rw [size_mk]; unfold maxLen; omega
  have H0 := Lib.hid (show s.data.toList.take (S1.idx s.data.toList 64) = S1.pLocal s.data.toList from rfl)
  have H1 := Lib.hid (show (S1.pLocal s.data.toList).take (S1.idx (S1.pLocal s.data.toList) 46) = S1.pName s.data.toList from rfl)
  have H2 := Lib.hid (show S1.after (S1.pLocal s.data.toList) 46 = S1.pInst s.data.toList from rfl)
  clear hL hN hI hsz
  rcases h1 : S1.found s.data.toList 64 <;> rcases h2 : S1.pOk s.data.toList r.data.toList
  all_goals
    obtain ⟨c, hc1, hc2, hc3, hc4⟩ : ∃ c : ByteArray, c = ⟨(S1.pRealm s.data.toList r.data.toList).toArray⟩ ∧ c.size ≤ maxLen ∧ (S1.found s.data.toList 64 = true → S1.after s.data.toList 64 = c.data.toList) ∧ (S1.found s.data.toList 64 = false → c = r) := by
      refine ⟨_, rfl, ?_, fun h => ?_, fun h => ?_⟩
      · rw [size_mk]; rcases S1.pRealm_le s.data.toList r.data.toList with h | h
        · unfold maxLen; have : s.data.toList.length = s.size := by simp
          omega
        · rw [h]; simpa using hr
      · unfold S1.pRealm; rw [h]; rfl
      · unfold S1.pRealm; rw [h]; exact mk_list r
    have HV : Hid (S1.vP (S1.pName s.data.toList) (S1.pInst s.data.toList) c.data.toList = S1.pOk s.data.toList r.data.toList) := by rw [hc1]; rfl
    rw [h2] at HV
    have H3 := Lib.hid hc1
    have H4 := Lib.hid h2
    have H5 := Lib.hid h1
    have H6 := Lib.hid hc3
    have H7 := Lib.hid hc4
    clear hc1 h2 h1 hc3 hc4
    go_enter Try.func19, Try.ntmps19
    go_wp2_with (fail)
    refine (cut_any s 64 m _ ?_ hs).mono ?_
    · go_simp
    rintro e w' ⟨rfl, n1, rfl⟩
    rw [H5.out, H0.out]
    go_wp2_with (fail)
    refine (cut_any _ 46 m _ ?_ k1).mono ?_
    · go_simp
    rintro e w' ⟨rfl, n2, rfl⟩
    rw [H1.out, H2.out]
    first | (rw [H6.out H5.out, mk_list]) | (obtain rfl := H7.out H5.out)
    go_wp2_with (fail)
    refine (valid_any _ _ _ _ k2 k3 hc2).mono ?_
    rintro e w' ⟨rfl, hb⟩
    rw [show S1.vP _ _ _ = _ from HV.out]
    obtain ⟨hc, hf⟩ := bcell hb
    have c0 : w'.cell? ⟨w.heap.size, 0, none⟩ = some (.string ⟨#[]⟩) := by rw [hc _ _ (by simp; omega)]; simp [go_sem]
    have c1 : w'.cell? ⟨w.heap.size, 1, none⟩ = some (.string ⟨#[]⟩) := by rw [hc _ _ (by simp; omega)]; simp [go_sem]
    have c2 : w'.cell? ⟨w.heap.size, 2, none⟩ = some (.string ⟨#[]⟩) := by rw [hc _ _ (by simp; omega)]; simp [go_sem]
    go_wp2_with (fail)
    clear hc hf
    first
      | (refine bodyPost_ret (v := .tuple #[.agg #[.string ⟨#[]⟩, .string ⟨#[]⟩, .string ⟨#[]⟩], .int .i64 103]) (by simp [results, Try.results19, go_sem, c0, c1, c2]) rfl ⟨congrArg Ending.returned (parseV_no H4.out).symm, ?_⟩)
      | (refine bodyPost_ret (v := .tuple #[.agg #[.string ⟨(S1.pName s.data.toList).toArray⟩, .string ⟨(S1.pInst s.data.toList).toArray⟩, .string _], .int .i64 0]) (by simp [results, Try.results19, go_sem, c0, c1, c2]) rfl ⟨congrArg Ending.returned (parseV_yes H4.out H3.out).symm, ?_⟩)
    repeat (first | exact Below.refl _ _ | apply below_drewN' | apply Below.drew | refine Below.setCell ?_ (by simp) _ | refine Below.alloc ?_ (by first | omega | (simp; done) | (simp; omega)) _ | refine Below.trans ?_ (hb.mono (by first | omega | (simp; done) | (simp; omega))))

end Go.Proofs.Ytpfkacmogggemaa
