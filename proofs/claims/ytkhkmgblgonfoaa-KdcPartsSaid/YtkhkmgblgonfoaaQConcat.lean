/-
  slices.Concat of any number of slices of bytes.
-/
import Derived.Test.YtkhkmgblgonfoaaQSlicesB
import Derived.Test.YtkhkmgblgonfoaaQFieldR
namespace Go.Proofs.Ytkhkmgblgonfoaa
open Go.RowKit

/-- One slice of bytes among several. -/
structure Piece where
  A : Option Addr
  n : Nat
  c : Nat
  ys : List Int
def Piece.val (p : Piece) : Value := .slice p.A p.n p.c
def total (ps : List Piece) : Nat := (ps.map (fun p => p.n)).sum
def pieces (ps : List Piece) : List Int := (ps.map (fun p => p.ys)).flatten
theorem total_snoc {ps : List Piece} {k : Nat} {p : Piece} (h : ps[k]? = some p) : total (ps.take (k + 1)) = total (ps.take k) + p.n := by
  unfold total; rw [List.take_add_one, h]; simp
theorem pieces_snoc {ps : List Piece} {k : Nat} {p : Piece} (h : ps[k]? = some p) : pieces (ps.take (k + 1)) = pieces (ps.take k) ++ p.ys := by
  unfold pieces; rw [List.take_add_one, h]; simp
theorem total_le (ps : List Piece) (k : Nat) : total (ps.take k) ≤ total ps := by
  have h : total ps = total (ps.take k) + total (ps.drop k) := by
    unfold total; rw [← List.sum_append, ← List.map_append, List.take_append_drop]
  omega

/-- They lie behind each other in one block, and are told by their elements. -/
def Pieces (w : World) (g : Nat) (ps : List Piece) : Prop := ∀ i p, ps[i]? = some p → w.cell? ⟨g, i, none⟩ = some p.val ∧ RowK .u8 w p.A p.n p.ys
theorem Pieces.keep {w w' : World} {g : Nat} {ps : List Piece} (hb : Below w.heap.size w w') (h : Pieces w g ps) : Pieces w' g ps := fun i p e => ⟨cell_keep hb (h i p e).1, (h i p e).2.keep hb⟩
theorem Pieces.len {w : World} {g : Nat} {ps : List Piece} (h : Pieces w g ps) (k : Nat) : (pieces (ps.take k)).length = total (ps.take k) := by
  induction k with
  | zero => rfl
  | succ k ih =>
    rcases e : ps[k]? with _ | p
    · rw [List.take_of_length_le (by rw [List.getElem?_eq_none_iff] at e; omega)]
      rw [List.take_of_length_le (by rw [List.getElem?_eq_none_iff] at e; omega)] at ih
      exact ih
    · rw [pieces_snoc e, total_snoc e, List.length_append, ih, (h k p e).2.len]
theorem Pieces.range {w : World} {g : Nat} {ps : List Piece} (h : Pieces w g ps) : ∀ z ∈ pieces ps, 0 ≤ z ∧ z ≤ 255 := by
  intro z hz
  obtain ⟨l, hl, hz⟩ := List.mem_flatten.1 hz
  obtain ⟨p, hp, rfl⟩ := List.mem_map.1 hl
  obtain ⟨i, hi, rfl⟩ := List.getElem_of_mem hp
  exact (h i _ (List.getElem?_eq_getElem hi)).2.2.1 z hz

/-- A new row, perhaps nil, with room. -/
def RoomN (w : World) (e : Ending) (w' : World) : Prop := ∃ v, e = .returned v ∧ Own .u8 5 w' w.heap.size v [] ∧ Below w.heap.size w w'

theorem bgrown_any (n : Nat) (w : World) (n1 : n ≤ 500000) : Calls Try.prog 90 #[.slice none 0 0, .int .i64 n] w (RoomN w) := by
  rcases Nat.eq_zero_or_pos n with h | h
  · subst h
    go_enter Try.func90, Try.ntmps90
    go_wp2_with (fail)
    go_ret
    exact ⟨_, rfl, Own.nil _ _ _ _, Below.refl _ _⟩
  · exact (bgrow_any n w h n1).mono fun e w' ⟨cap, he, ho, hb⟩ => ⟨_, he, ho, hb⟩

set_option maxHeartbeats 1600000 in
theorem concat_any (w : World) (g m : Nat) (ps : List Piece) (h : Pieces w g ps) (hm : ps.length = m) (m1 : m ≤ 100) (l1 : total ps ≤ 500000) : Calls Try.prog 68 #[.slice (some ⟨g, 0, none⟩) m m] w (JoinedB (pieces ps) w) := by
  have HT := Lib.hid (fun k => total_le ps k)
  have HL := Lib.hid (fun k => h.len k)
  have hmm := Lib.hid hm
  have hall : ps.take m = ps := List.take_of_length_le (by omega)
  have HA := Lib.hid hall
  clear hall hm
  replace h := Lib.hid h
  go_enter Try.func68, Try.ntmps68
  go_wp2_with (fail)
  go_loop [3, 11] (fun s i => ∃ k : Nat, k ≤ m ∧ i = .int .i64 k ∧ s = .int .i64 (total (ps.take k))) (fun _ i => m - (intOf i).toNat)
  case atStart => exact ⟨0, by omega, rfl, rfl⟩
  case round =>
    obtain ⟨k, hk, rfl, rfl⟩ := hrel
    have t0 := HT.out k
    by_cases hlt : k < m
    · obtain ⟨p, hp⟩ : ∃ p, ps[k]? = some p := ⟨_, List.getElem?_eq_getElem (by have := hmm.out; omega)⟩
      obtain ⟨hc, hr⟩ := h.out k p hp
      have hT := Lib.hid (total_snoc hp)
      have t1 := HT.out (k + 1)
      rw [hT.out] at t1
      unfold Piece.val at hc
      clear hp hr
      generalize total (ps.take k) = x at *
      go_wp2_with (fail)
      go_round
      case rel => exact ⟨k + 1, by omega, by go_num, by rw [hT.out]; go_num⟩
      case measure => simp [intOf]; omega
    · have hkm : k = m := by omega
      subst hkm
      have HG := Lib.hid (bgrown_any (total ps) w l1)
      have HA' := HA
      rw [HA.out]
      clear t0
      go_wp2_with (fail)
      refine HG.out.mono ?_
      rintro e w1 ⟨v1, rfl, own1, B1⟩
      go_wp2_with (fail)
      go_loopw [6, 27] (fun v i wr => ∃ j : Nat, j ≤ k ∧ i = .int .i64 j ∧ Own .u8 5 wr w.heap.size v (pieces (ps.take j)) ∧ Below w.heap.size w wr) (fun _ i _ => k - (intOf i).toNat)
      case atStart => exact ⟨0, by omega, rfl, own1, B1⟩
      case round =>
        obtain ⟨j, hj, rfl, hown, B⟩ := hrel
        by_cases hlt' : j < k
        · obtain ⟨p, hp⟩ : ∃ p, ps[j]? = some p := ⟨_, List.getElem?_eq_getElem (by have := hmm.out; omega)⟩
          obtain ⟨hc, hr⟩ := h.out j p hp
          have hc2 := cell_keep B hc
          have hr2 := Lib.hid (hr.keep B)
          have hP := Lib.hid (pieces_snoc hp)
          have hl : (pieces (ps.take j)).length + p.n ≤ 500000 := by
            have := HT.out (j + 1)
            rw [total_snoc hp, ← HL.out j] at this
            omega
          unfold Piece.val at hc2
          clear hp hr hc
          have i1 : (0 : Int) ≤ (j : Int) := by omega
          have i2 : (j : Int) < (k : Int) := by omega
          go_wp2_with (at_builtin; refine wpList_push_row rfl (.tmp 31) (.tmp 32) 26 rfl Try.underlying26 u8_infoB (base := w.heap.size) (ys := p.ys) (A := p.A) (m := p.n) (c := p.c) rfl rfl hown hr2.out (by omega) (by decide) B.size ?_; intro v' w4 hown' hgrow _; replace B := Own.grown B hown hgrow; rw [← hP.out] at hown'; clear hown hgrow)
          go_roundw
          case rel => exact ⟨j + 1, by omega, by go_num, hown', B⟩
          case measure => simp [intOf]; omega
        · have hjk : j = k := by omega
          subst hjk
          rw [HA.out] at hown
          go_wp2_with (fail)
          go_ret
          exact ⟨_, rfl, hown, B⟩

theorem concat_out (w W : World) (g m : Nat) (ps : List Piece) (h : Pieces W g ps) (hm : ps.length = m) (m1 : m ≤ 100) (l1 : total ps ≤ 500000) (B : Below w.heap.size w W) : Calls Try.prog 68 #[.slice (some ⟨g, 0, none⟩) m m] W (BytesOut (pieces ps) w) :=
  (concat_any W g m ps h hm m1 l1).mono fun e w' ⟨v, he, ho, hb⟩ => by
    obtain ⟨A, n, c, rfl, hs, hf⟩ := ho.slf h.range
    exact ⟨A, n, c, he, hs, below_keep hb B, hf.le B.size⟩

theorem Pieces.two {W : World} {g : Nat} {A1 A2 : Option Addr} {n1 n2 c1 c2 : Nat} {y1 y2 : List Int} (d1 : W.cell? ⟨g, 0, none⟩ = some (.slice A1 n1 c1)) (d2 : W.cell? ⟨g, 1, none⟩ = some (.slice A2 n2 c2)) (r1 : RowK .u8 W A1 n1 y1) (r2 : RowK .u8 W A2 n2 y2) :
    Pieces W g [⟨A1, n1, c1, y1⟩, ⟨A2, n2, c2, y2⟩] := by
  intro i p e
  match i, e with
  | 0, e => simp at e; subst e; exact ⟨d1, r1⟩
  | 1, e => simp at e; subst e; exact ⟨d2, r2⟩
  | i + 2, e => simp at e
theorem Pieces.three {W : World} {g : Nat} {A1 A2 A3 : Option Addr} {n1 n2 n3 c1 c2 c3 : Nat} {y1 y2 y3 : List Int} (d1 : W.cell? ⟨g, 0, none⟩ = some (.slice A1 n1 c1)) (d2 : W.cell? ⟨g, 1, none⟩ = some (.slice A2 n2 c2)) (d3 : W.cell? ⟨g, 2, none⟩ = some (.slice A3 n3 c3)) (r1 : RowK .u8 W A1 n1 y1) (r2 : RowK .u8 W A2 n2 y2) (r3 : RowK .u8 W A3 n3 y3) :
    Pieces W g [⟨A1, n1, c1, y1⟩, ⟨A2, n2, c2, y2⟩, ⟨A3, n3, c3, y3⟩] := by
  intro i p e
  match i, e with
  | 0, e => simp at e; subst e; exact ⟨d1, r1⟩
  | 1, e => simp at e; subst e; exact ⟨d2, r2⟩
  | 2, e => simp at e; subst e; exact ⟨d3, r3⟩
  | i + 3, e => simp at e

/-- A row in a block that holds more cells. -/
theorem RowK.within {k : IntKind} {w : World} {g : Nat} {zs : List Int} (h : ∀ n ∈ zs, k.min ≤ n ∧ n ≤ k.max) (hc : ∀ i (_ : i < zs.length), w.cell? ⟨g, i, none⟩ = some (.int k zs[i])) : RowK k w (some ⟨g, 0, none⟩) zs.length zs :=
  ⟨rfl, h, fun _ => ⟨_, _, rfl, fun i hi => by rw [Nat.zero_add]; exact hc i hi⟩⟩

end Go.Proofs.Ytkhkmgblgonfoaa
