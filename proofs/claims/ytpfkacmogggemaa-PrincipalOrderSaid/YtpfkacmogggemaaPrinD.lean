/-
  What the reference's Parse returns; what both Formats and both Compares return.
-/
import Derived.Test.YtpfkacmogggemaaPrinC
namespace Go.Proofs.Ytpfkacmogggemaa
open Go.RowKit

theorem mk_data (l : List UInt8) : (ByteArray.mk l.toArray).data.toList = l := by simp

theorem ext_take (s : ByteArray) (i : Nat) : s.extract 0 i = ⟨(s.data.toList.take i).toArray⟩ := by
  apply WideShapes.bytes_inj
  rw [Lib.extract_data]; simp

theorem ext_drop (s : ByteArray) (i : Nat) : s.extract i s.size = ⟨(s.data.toList.drop i).toArray⟩ := by
  apply WideShapes.bytes_inj
  rw [Lib.extract_to_end]

theorem after_yes {l : List UInt8} {c : UInt8} (h : S1.idx l c < l.length) : S1.after l c = l.drop (S1.idx l c + 1) := by unfold S1.after; rw [if_pos h]
theorem after_no {l : List UInt8} {c : UInt8} (h : ¬ S1.idx l c < l.length) : S1.after l c = [] := by unfold S1.after; rw [if_neg h]

theorem parseV_yes2 {s r : List UInt8} {i c : ByteArray} (h : S1.pOk s r = true) (hi : i = ⟨(S1.pInst s).toArray⟩) (hc : c = ⟨(S1.pRealm s r).toArray⟩) :
    parseV s r = .tuple #[.agg #[.string ⟨(S1.pName s).toArray⟩, .string i, .string c], .int .i64 0] := by
  unfold parseV; rw [h, hc, hi]; rfl

set_option maxHeartbeats 1600000 in
theorem refParse_any (s r : ByteArray) (w : World) (hs : s.size < 4294967281) (hr : r.size ≤ maxLen) :
    Calls Try.prog 20 #[.string s, .string r] w fun e w' => e = .returned (parseV s.data.toList r.data.toList) ∧ Below w.heap.size w w' := by
  have hs' : s.size ≤ maxLen := by unfold maxLen; omega
  have i0 := S1.idx_le s.data.toList 64
  have hsz : s.data.toList.length = s.size := by simp
  rw [hsz] at i0
  have hL := S1.pLocal_le s.data.toList
  have hN := S1.pName_le s.data.toList
  have hI := S1.pInst_le s.data.toList
  have i1 := S1.idx_le (S1.pLocal s.data.toList) 46
  have hl : (S1.pLocal s.data.toList).length ≤ s.size := by omega
  have k1 : (ByteArray.mk (S1.pLocal s.data.toList).toArray).size ≤ maxLen := by rw [size_mk]; unfold maxLen; omega
  have k2 : (ByteArray.mk (S1.pName s.data.toList).toArray).size ≤ maxLen := by rw [size_mk]; unfold maxLen; omega
  have k3 : (ByteArray.mk (S1.pInst s.data.toList).toArray).size ≤ maxLen := by rw [size_mk]; unfold maxLen; omega
  have z1 : (ByteArray.mk (S1.pLocal s.data.toList).toArray).size = (S1.pLocal s.data.toList).length := rfl
  rw [← z1] at i1
  have E0 := Lib.hid (show s.extract 0 (S1.idx s.data.toList 64) = ⟨(S1.pLocal s.data.toList).toArray⟩ from ext_take _ _)
  have E1 := Lib.hid (show (ByteArray.mk (S1.pLocal s.data.toList).toArray).extract 0 (S1.idx (S1.pLocal s.data.toList) 46) = ⟨(S1.pName s.data.toList).toArray⟩ from ext_take _ _)
  have hc0 : (S1.pRealm s.data.toList r.data.toList).length ≤ s.size ∨ S1.pRealm s.data.toList r.data.toList = r.data.toList := by
    rw [← hsz]; exact S1.pRealm_le _ _
  have k4 : (ByteArray.mk (S1.pRealm s.data.toList r.data.toList).toArray).size ≤ maxLen := by
    rw [size_mk]
    rcases hc0 with h | h
    · unfold maxLen; omega
    · rw [h]; simpa using hr
  obtain ⟨c, hc1, hc2, hc3, hc4⟩ : ∃ c : ByteArray, c = ⟨(S1.pRealm s.data.toList r.data.toList).toArray⟩ ∧ c.size ≤ maxLen ∧ (S1.idx s.data.toList 64 < s.size → s.extract (S1.idx s.data.toList 64 + 1) s.size = c) ∧ (¬ S1.idx s.data.toList 64 < s.size → c = r) := by
    refine ⟨_, rfl, k4, fun h => ?_, fun h => ?_⟩
    · have h' : S1.idx s.data.toList 64 < s.data.toList.length := by omega
      rw [ext_drop]; unfold S1.pRealm S1.found; rw [decide_eq_true h', after_yes h']; rfl
    · have h' : ¬ S1.idx s.data.toList 64 < s.data.toList.length := by omega
      unfold S1.pRealm S1.found; rw [decide_eq_false h']; exact mk_list r
  obtain ⟨i, hi1, hi2, hi3, hi4⟩ : ∃ i : ByteArray, i = ⟨(S1.pInst s.data.toList).toArray⟩ ∧ i.size ≤ maxLen ∧
      (S1.idx (S1.pLocal s.data.toList) 46 < (S1.pLocal s.data.toList).length → (ByteArray.mk (S1.pLocal s.data.toList).toArray).extract (S1.idx (S1.pLocal s.data.toList) 46 + 1) (S1.pLocal s.data.toList).length = i) ∧
      (¬ S1.idx (S1.pLocal s.data.toList) 46 < (S1.pLocal s.data.toList).length → i = ⟨#[]⟩) := by
    refine ⟨_, rfl, k3, fun h => ?_, fun h => ?_⟩
    · have e := ext_drop (ByteArray.mk (S1.pLocal s.data.toList).toArray) (S1.idx (S1.pLocal s.data.toList) 46 + 1)
      rw [z1, mk_data] at e
      rw [e]; unfold S1.pInst; rw [after_yes h]
    · unfold S1.pInst; rw [after_no h]
  have HV : Hid (S1.vP (S1.pName s.data.toList) i.data.toList c.data.toList = S1.pOk s.data.toList r.data.toList) := by rw [hi1, hc1]; rfl
  have HC1 := Lib.hid hc1
  have HC3 := Lib.hid hc3
  have HC4 := Lib.hid hc4
  have HI1 := Lib.hid hi1
  have HI3 := Lib.hid hi3
  have HI4 := Lib.hid hi4
  rw [z1] at i1
  clear hsz z1 hL hN hI hc0 hc1 hc3 hc4 hi1 hi3 hi4 k3 k4
  unfold maxLen at k1
  rcases h2 : S1.pOk s.data.toList r.data.toList
  all_goals
    rw [h2] at HV
    have H4 := Lib.hid h2
    clear h2
    by_cases h1 : S1.idx s.data.toList 64 < s.size <;> by_cases h3 : S1.idx (S1.pLocal s.data.toList) 46 < (S1.pLocal s.data.toList).length
    all_goals
      go_enter Try.func20, Try.ntmps20
      go_wp2_with (fail)
      refine (refindex_any s 64 _ hs').mono ?_
      rintro e w1 ⟨rfl, rfl⟩
      go_wp2_with (fail)
      rw [E0.out]
      first | rw [HC3.out h1] | (obtain rfl := HC4.out h1)
      refine (refindex_any _ 46 _ (by unfold maxLen; exact k1)).mono ?_
      rintro e w1 ⟨rfl, rfl⟩
      rw [mk_data]
      go_wp2_with (fail)
      rw [E1.out]
      first | rw [HI3.out h3] | (obtain rfl := HI4.out h3)
      refine (refValid_any _ _ _ _ k2 hi2 hc2).mono ?_
      rintro e w' ⟨rfl, hb⟩
      rw [mk_data, show S1.vP _ _ _ = _ from HV.out]
      obtain ⟨hc, hf⟩ := bcell hb
      have c0 : w'.cell? ⟨w.heap.size, 0, none⟩ = some (.string ⟨#[]⟩) := by rw [hc _ _ (by simp; omega)]; simp [go_sem]
      have c1 : w'.cell? ⟨w.heap.size, 1, none⟩ = some (.string ⟨#[]⟩) := by rw [hc _ _ (by simp; omega)]; simp [go_sem]
      have c2 : w'.cell? ⟨w.heap.size, 2, none⟩ = some (.string ⟨#[]⟩) := by rw [hc _ _ (by simp; omega)]; simp [go_sem]
      go_wp2_with (fail)
      clear hc hf
      first
        | (refine bodyPost_ret (v := .tuple #[.agg #[.string ⟨#[]⟩, .string ⟨#[]⟩, .string ⟨#[]⟩], .int .i64 103]) (by simp [results, Try.results20, go_sem, c0, c1, c2]) rfl ⟨congrArg Ending.returned (parseV_no H4.out).symm, ?_⟩)
        | (refine bodyPost_ret (v := .tuple #[.agg #[.string ⟨(S1.pName s.data.toList).toArray⟩, .string _, .string _], .int .i64 0]) (by simp [results, Try.results20, go_sem, c0, c1, c2]) rfl ⟨congrArg Ending.returned (parseV_yes2 H4.out HI1.out HC1.out).symm, ?_⟩)
      repeat (first | exact Below.refl _ _ | apply below_drewN' | apply Below.drew | refine Below.setCell ?_ (by simp) _ | refine Below.alloc ?_ (by first | omega | (simp; done) | (simp; omega)) _ | refine Below.trans ?_ (hb.mono (by first | omega | (simp; done) | (simp; omega))))

end Go.Proofs.Ytpfkacmogggemaa
