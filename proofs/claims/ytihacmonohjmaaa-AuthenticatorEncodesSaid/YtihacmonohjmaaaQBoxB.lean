/-
  What Read of package box returns.
-/
import Derived.Test.YtihacmonohjmaaaQBoxA
import Derived.BigQuiet
namespace Go.Proofs.Ytihacmonohjmaaa
open Go.RowKit

/-- What Read returns. -/
def ReadB (zs : List Int) (w : World) (e : Ending) (w' : World) : Prop :=
  ∃ A n cap, e = .returned (.tuple #[.agg #[.int .i64 (S4.rdK zs), .int .u64 (S4.rdY zs), .slice A n cap], .int .i64 (S4.rdN zs), .int .i64 (S4.rdE zs)]) ∧ Sl w' A n cap (S4.rdB zs) ∧ Below w.heap.size w w' ∧ Fresh w.heap.size A

theorem at0_of {zs : List Int} {i : Nat} {z : Int} (h : zs[i]? = some z) : S4.at0 zs i = z := by simp [S4.at0, List.getD, h]

theorem Sl.at {w : World} {b off n cap : Nat} {zs : List Int} (h : Sl w (some ⟨b, off, none⟩) n cap zs) {i : Nat} (hi : i < n) :
    0 ≤ S4.at0 zs i ∧ S4.at0 zs i ≤ 255 ∧ ∀ o, (w.alloc o).cell? ⟨b, off + i, none⟩ = some (.int .u8 (S4.at0 zs i)) := by
  obtain ⟨b', off', z, ha, hz, h1, h2, hc⟩ := h.row.at hi
  cases ha
  rw [at0_of hz]
  exact ⟨h1, h2, fun o => cell_keep ((Below.refl _ _).alloc (Nat.le_refl _) o) hc⟩

set_option maxHeartbeats 1600000 in
theorem bread_any (A : Option Addr) (n cap : Nat) (zs : List Int) (w : World) (h : Sl w A n cap zs) : Calls Try.prog 89 #[.slice A n cap] w (ReadB zs w) := by
  have hmax := h.max
  have hcap := h.2.1
  have hcm := h.2.2.1
  unfold maxLen at hmax hcm
  have hlen := Lib.hid h.len
  rcases Int.lt_or_le (n : Int) 12 with h12 | h12
  · have HR := Lib.hid (S4.rd_short (zs := zs) (by rw [hlen.out]; exact h12))
    go_enter Try.func89, Try.ntmps89
    go_wp2
    refine bodyPost_ret (v := .tuple #[.agg #[.int .i64 0, .int .u64 0, .slice none 0 0], .int .i64 0, .int .i64 101]) (by simp [results, Try.results89, go_sem]) rfl ⟨none, 0, 0, ?_, ?_, ?_, Fresh.nil _⟩
    · rw [HR.out.1, HR.out.2.1, HR.out.2.2.1, HR.out.2.2.2.2]
    · rw [HR.out.2.2.2.1]; exact Sl.nil _
    · exact (Below.refl _ _).alloc (Nat.le_refl _) _
  · have h0 : 0 < n := by omega
    obtain ⟨b, off, rfl⟩ : ∃ b off, A = some ⟨b, off, none⟩ := by
      obtain ⟨b, off, _, e, _⟩ := h.row.at h0
      exact ⟨b, off, e⟩
    obtain ⟨l0, u0, x0⟩ := h.at (i := 0) (by omega)
    obtain ⟨l1, u1, x1⟩ := h.at (i := 1) (by omega)
    obtain ⟨l10, u10, x10⟩ := h.at (i := 10) (by omega)
    obtain ⟨l11, u11, x11⟩ := h.at (i := 11) (by omega)
    rw [Nat.add_zero] at x0
    have hor := or16 _ _ l10 u10 l11 u11
    have hn12 := Lib.hid (show ¬ (zs.length : Int) < 12 by rw [hlen.out]; omega)
    replace h := Lib.hid h
    go_enter Try.func89, Try.ntmps89
    go_wp2_with (fail)
    refine (kread_any _ _ _ _ _ (RowK.keep ((Below.refl _ _).alloc (Nat.le_refl _) _) (h.out.row.part 2 8 (by omega))) (by decide)).mono ?_
    rintro e w' ⟨rfl, rfl⟩
    go_wp2_with (fail)
    go_quiet (fail)
    have hL : ∃ m : Nat, S4.at0 zs 10 * 256 + S4.at0 zs 11 = (m : Int) := ⟨(S4.at0 zs 10 * 256 + S4.at0 zs 11).toNat, by omega⟩
    obtain ⟨m, hL⟩ := hL
    rw [hL]
    have hLm : S4.lenOf zs = (m : Int) := hL
    have hm : m ≤ 65535 := by omega
    replace hL := Lib.hid hL
    replace hLm := Lib.hid hLm
    replace hlen := Lib.hid hlen.out
    clear hor x10 x11 l10 l11 u10 u11
    have HK : ∃ k, k = S3.readN (List.take 8 (List.drop 2 zs)) := ⟨_, rfl⟩
    obtain ⟨k, HK⟩ := HK
    rw [← HK]
    replace HK := Lib.hid HK
    have Bd : Below w.heap.size w ((w.alloc (Obj.cells #[Value.int IntKind.i64 0, Value.int IntKind.u64 0, Value.slice none 0 0] 93)).drewN nq) := below_drewN' ((Below.refl _ _).alloc (Nat.le_refl _) _) _
    have BAD : S4.bad zs = true → S4.rdE zs = 100 ∧ S4.rdK zs = 0 ∧ S4.rdY zs = 0 ∧ S4.rdB zs = [] ∧ S4.rdN zs = 0 := fun g => S4.rd_bad (by have := hn12.out; omega) g
    by_cases h66 : S4.at0 zs 0 = 66
    · rcases hk : S4.isK (S4.at0 zs 1)
      · have HR := Lib.hid (BAD (S4.bad_yes (.inr (.inl hk))))
        go_wp2_with (first | (go_at_call 69; refine (isKind_any _ _).mono ?_; rintro e w' ⟨rfl, rfl⟩))
        refine bodyPost_ret (v := .tuple #[.agg #[.int .i64 0, .int .u64 0, .slice none 0 0], .int .i64 0, .int .i64 100]) (by simp [results, Try.results89, go_sem]) rfl ⟨none, 0, 0, ?_, ?_, ?_, Fresh.nil _⟩
        · rw [HR.out.1, HR.out.2.1, HR.out.2.2.1, HR.out.2.2.2.2]
        · rw [HR.out.2.2.2.1]; exact Sl.nil _
        · repeat (first | exact Below.refl _ _ | apply below_drewN' | apply Below.drew | refine Below.setCell ?_ (by simp) _ | refine Below.alloc ?_ (by first | omega | (simp; done) | (simp; omega)) _)
      · rcases hy : S3.readOk (List.take 8 (List.drop 2 zs))
        · have HR := Lib.hid (BAD (S4.bad_yes (.inr (.inr (.inl hy)))))
          go_wp2_with (first | (go_at_call 69; refine (isKind_any _ _).mono ?_; rintro e w' ⟨rfl, rfl⟩))
          refine bodyPost_ret (v := .tuple #[.agg #[.int .i64 0, .int .u64 0, .slice none 0 0], .int .i64 0, .int .i64 100]) (by simp [results, Try.results89, go_sem]) rfl ⟨none, 0, 0, ?_, ?_, ?_, Fresh.nil _⟩
          · rw [HR.out.1, HR.out.2.1, HR.out.2.2.1, HR.out.2.2.2.2]
          · rw [HR.out.2.2.2.1]; exact Sl.nil _
          · repeat (first | exact Below.refl _ _ | apply below_drewN' | apply Below.drew | refine Below.setCell ?_ (by simp) _ | refine Below.alloc ?_ (by first | omega | (simp; done) | (simp; omega)) _)
        · rcases Int.lt_or_le 1000 (m : Int) with hg | hg
          · have HR := Lib.hid (BAD (S4.bad_yes (.inr (.inr (.inr (by rw [hLm.out]; exact hg))))))
            go_wp2_with (first | (go_at_call 69; refine (isKind_any _ _).mono ?_; rintro e w' ⟨rfl, rfl⟩))
            refine bodyPost_ret (v := .tuple #[.agg #[.int .i64 0, .int .u64 0, .slice none 0 0], .int .i64 0, .int .i64 100]) (by simp [results, Try.results89, go_sem]) rfl ⟨none, 0, 0, ?_, ?_, ?_, Fresh.nil _⟩
            · rw [HR.out.1, HR.out.2.1, HR.out.2.2.1, HR.out.2.2.2.2]
            · rw [HR.out.2.2.2.1]; exact Sl.nil _
            · repeat (first | exact Below.refl _ _ | apply below_drewN' | apply Below.drew | refine Below.setCell ?_ (by simp) _ | refine Below.alloc ?_ (by first | omega | (simp; done) | (simp; omega)) _)
          · have hgood := S4.good_parts h66 hk hy (by rw [hLm.out]; exact hg)
            rcases Int.lt_or_le (n : Int) (12 + (m : Int)) with he | he
            · have HR := Lib.hid (S4.rd_cut (by have := hn12.out; omega) hgood (by rw [hlen.out, hLm.out]; exact he))
              go_wp2_with (first | (go_at_call 69; refine (isKind_any _ _).mono ?_; rintro e w' ⟨rfl, rfl⟩))
              refine bodyPost_ret (v := .tuple #[.agg #[.int .i64 0, .int .u64 0, .slice none 0 0], .int .i64 0, .int .i64 101]) (by simp [results, Try.results89, go_sem]) rfl ⟨none, 0, 0, ?_, ?_, ?_, Fresh.nil _⟩
              · rw [HR.out.1, HR.out.2.1, HR.out.2.2.1, HR.out.2.2.2.2]
              · rw [HR.out.2.2.2.1]; exact Sl.nil _
              · repeat (first | exact Below.refl _ _ | apply below_drewN' | apply Below.drew | refine Below.setCell ?_ (by simp) _ | refine Below.alloc ?_ (by first | omega | (simp; done) | (simp; omega)) _)
            · have HR := Lib.hid (S4.rd_ok (by have := hn12.out; omega) hgood (by rw [hlen.out, hLm.out]; omega))
              have he' : 12 + m ≤ n := by omega
              clear hgood BAD hn12
              have hb1 := (S4.rdB_range (zs := zs) h.out.range)
              have hR := RowK.keep Bd (h.out.row.part 12 m (by omega))
              have e1 : S4.rdB zs = (zs.drop 12).take m := by rw [HR.out.2.2.2.1, hLm.out]; rfl
              rw [← e1] at hR
              have hb1 := Lib.hid hb1
              have hz0 : m = 0 → S4.rdB zs = [] := by rintro rfl; rw [e1]; rfl
              have hz0 := Lib.hid hz0
              clear e1
              rcases Nat.eq_zero_or_pos m with hm0 | hm0
              · have hR0 : RowK .u8 ((w.alloc (Obj.cells #[Value.int IntKind.i64 0, Value.int IntKind.u64 0, Value.slice none 0 0] 93)).drewN nq) (some ⟨b, off, none⟩) 0 (S4.rdB zs) := by
                  rw [hz0.out hm0]; exact RowK.empty _ _ _
                have CL := Lib.hid (bclone_any b off 0 0 _ _ hR0 (by omega))
                clear hR hR0
                subst hm0
                go_wp2_with (first | (go_at_call 69; refine (isKind_any _ _).mono ?_; rintro e w' ⟨rfl, rfl⟩))
                refine CL.out.mono ?_
                rintro e w2 ⟨v, rfl, own2, hb2⟩
                obtain ⟨A2, n2, c2, rfl, hs2, hf2⟩ := own2.slf hb1.out
                have B2 := below_keep hb2 Bd
                have y0 : w2.cell? ⟨w.heap.size, 0, none⟩ = some (.int .i64 0) := cell_keep hb2 (by simp [go_sem])
                have y1 : w2.cell? ⟨w.heap.size, 1, none⟩ = some (.int .u64 0) := cell_keep hb2 (by simp [go_sem])
                have y2 : w2.cell? ⟨w.heap.size, 2, none⟩ = some (.slice none 0 0) := cell_keep hb2 (by simp [go_sem])
                have y3 : ∀ o, w2.frozen? ⟨w.heap.size, o, none⟩ = false := fun o => by rw [(bcell hb2).2 _ _ (by simp)]; simp [go_sem]
                replace hs2 := Lib.hid hs2
                go_wp2_with (fail)
                refine bodyPost_ret (v := .tuple #[.agg #[.int .i64 (S4.at0 zs 1), .int .u64 k, .slice A2 n2 c2], .int .i64 (12), .int .i64 0]) (by simp [results, Try.results89, go_sem, y0, y1, y2]) rfl ⟨A2, n2, c2, ?_, ?_, ?_, hf2.le (by simp)⟩
                · rw [HR.out.1, HR.out.2.1, HR.out.2.2.1, HR.out.2.2.2.2, hLm.out, HK.out]; rfl
                · obtain ⟨A', n', c', e', hs'⟩ := (((own2.outside (p := ⟨w.heap.size, 0, none⟩) (by simp) _).outside (p := ⟨w.heap.size, 1, none⟩) (by simp) _).outside (p := ⟨w.heap.size, 2, none⟩) (by simp) _).sl hb1.out
                  cases e'; exact hs'
                · exact ((B2.setCell (by simp) _).setCell (by simp) _).setCell (by simp) _
              · have CL := Lib.hid (bclone_any b (off + 12) m m _ _ hR (by omega))
                clear hR
                have hm1 : ¬ m = 0 := by omega
                go_wp2_with (first | (go_at_call 69; refine (isKind_any _ _).mono ?_; rintro e w' ⟨rfl, rfl⟩))
                refine CL.out.mono ?_
                rintro e w2 ⟨v, rfl, own2, hb2⟩
                obtain ⟨A2, n2, c2, rfl, hs2, hf2⟩ := own2.slf hb1.out
                have B2 := below_keep hb2 Bd
                have y0 : w2.cell? ⟨w.heap.size, 0, none⟩ = some (.int .i64 0) := cell_keep hb2 (by simp [go_sem])
                have y1 : w2.cell? ⟨w.heap.size, 1, none⟩ = some (.int .u64 0) := cell_keep hb2 (by simp [go_sem])
                have y2 : w2.cell? ⟨w.heap.size, 2, none⟩ = some (.slice none 0 0) := cell_keep hb2 (by simp [go_sem])
                have y3 : ∀ o, w2.frozen? ⟨w.heap.size, o, none⟩ = false := fun o => by rw [(bcell hb2).2 _ _ (by simp)]; simp [go_sem]
                replace hs2 := Lib.hid hs2
                go_wp2_with (fail)
                refine bodyPost_ret (v := .tuple #[.agg #[.int .i64 (S4.at0 zs 1), .int .u64 k, .slice A2 n2 c2], .int .i64 (12 + (m : Int)), .int .i64 0]) (by simp [results, Try.results89, go_sem, y0, y1, y2]) rfl ⟨A2, n2, c2, ?_, ?_, ?_, hf2.le (by simp)⟩
                · rw [HR.out.1, HR.out.2.1, HR.out.2.2.1, HR.out.2.2.2.2, hLm.out, HK.out]; rfl
                · obtain ⟨A', n', c', e', hs'⟩ := (((own2.outside (p := ⟨w.heap.size, 0, none⟩) (by simp) _).outside (p := ⟨w.heap.size, 1, none⟩) (by simp) _).outside (p := ⟨w.heap.size, 2, none⟩) (by simp) _).sl hb1.out
                  cases e'; exact hs'
                · exact ((B2.setCell (by simp) _).setCell (by simp) _).setCell (by simp) _
    · have HR := Lib.hid (BAD (S4.bad_yes (.inl h66)))
      go_wp2_with (first | (go_at_call 69; refine (isKind_any _ _).mono ?_; rintro e w' ⟨rfl, rfl⟩))
      refine bodyPost_ret (v := .tuple #[.agg #[.int .i64 0, .int .u64 0, .slice none 0 0], .int .i64 0, .int .i64 100]) (by simp [results, Try.results89, go_sem]) rfl ⟨none, 0, 0, ?_, ?_, ?_, Fresh.nil _⟩
      · rw [HR.out.1, HR.out.2.1, HR.out.2.2.1, HR.out.2.2.2.2]
      · rw [HR.out.2.2.2.1]; exact Sl.nil _
      · repeat (first | exact Below.refl _ _ | apply below_drewN' | apply Below.drew | refine Below.setCell ?_ (by simp) _ | refine Below.alloc ?_ (by first | omega | (simp; done) | (simp; omega)) _)

end Go.Proofs.Ytihacmonohjmaaa
