/-
  slices.Compact of a row of keys that the call owns.
-/
import Derived.Test.YtlmifbbmppenoaaPush
import Derived.Test.YtlmifbbmppenoaaAscPlain
import Derived.Lib.SliceRun
import Derived.Lib.LazyBuf
import Derived.IntWalk
import Derived.Deep.QuietTactic
import Derived.BigQuiet
namespace Go.Proofs.Ytlmifbbmppenoaa
open Go.RowKit

/-- The row without what stands twice in a row; nothing but its block has changed. -/
def Compacted (g cap : Nat) (zs : List Int) (w : World) (e : Ending) (w' : World) : Prop := e = .returned (.slice (some ⟨g, 0, none⟩) (S3.comp zs).length cap) ∧ RowK .u64 w' (some ⟨g, 0, none⟩) (S3.comp zs).length (S3.comp zs) ∧ w.grownBy w' (some g)

theorem grown_trans {a b c : World} {row : Option Nat} (h : a.grownBy b row) (h' : b.grownBy c row) : a.grownBy c row :=
  ⟨h'.os.trans h.os, h'.tape.trans h.tape, h'.output.trans h.output, Nat.le_trans h.size h'.size, fun k hk hne => (h'.block k (Nat.lt_of_lt_of_le hk h.size) hne).trans (h.block k hk hne)⟩

theorem grown_setCells (g : Nat) : ∀ (vs : List Value) (o : Nat) (w : World), w.grownBy (w.setCells g o vs) (some g)
  | [], _, w => World.grownBy.refl w _
  | v :: r, o, w => grown_trans (b := w.setCell ⟨g, o, none⟩ v) ⟨rfl, rfl, rfl, by simp, fun k _ hk => heap_setCell_other w ⟨g, o, none⟩ k v (fun e => hk (by simp [e]))⟩ (grown_setCells g r (o + 1) (w.setCell ⟨g, o, none⟩ v))

theorem zero_key (w : World) : (zeroValue 24).run Try.prog w = .ok (.int .u64 0) w := by kernel_rfl

theorem grown_draw {a b : World} {row : Option Nat} (h : a.grownBy b row) (n : Nat) : a.grownBy (b.drewN n) row := ⟨h.os, h.tape, h.output, h.size, h.block⟩

set_option maxRecDepth 100000 in
set_option maxHeartbeats 3200000 in
theorem kcompact_any (w : World) (base g n cap : Nat) (zs : List Int) (hown : Own .u64 24 w base (.slice (some ⟨g, 0, none⟩) n cap) zs) (hn : n = zs.length) (hz : ∀ m ∈ zs, IntKind.u64.min ≤ m ∧ m ≤ IntKind.u64.max) (hl : n ≤ 100000) (hcm : cap ≤ 9223372036854775807) (hnc : n ≤ cap) :
    Calls Try.prog 33 #[.slice (some ⟨g, 0, none⟩) n cap] w (Compacted g cap zs w) := by
  have HZ := Lib.hid hz
  have HN := Lib.hid hn
  clear hz hn
  by_cases h2 : n < 2
  · have hc : S3.comp zs = zs := by
      have := HN.out
      rcases zs with _ | ⟨z, _ | ⟨y, r⟩⟩
      · rfl
      · rfl
      · simp at this; omega
    have HC := Lib.hid hc
    obtain ⟨a', n', c', hv, hr, _⟩ := hown.row HZ.out
    cases hv
    have hr := Lib.hid hr
    clear hc
    go_enter Try.func33, Try.ntmps33
    go_wp2_with (fail)
    go_ret
    exact ⟨by rw [HC.out, ← HN.out]; rfl, by rw [HC.out, ← HN.out]; exact hr.out, World.grownBy.refl _ _⟩
  · go_enter Try.func33, Try.ntmps33
    go_wp2
    go_loopw [3] (fun i wr => ∃ j : Nat, j + 1 ≤ n ∧ i = .int .i64 ((j : Int) + 1) ∧ S3.comp (zs.take (j + 1)) = zs.take (j + 1) ∧ Own .u64 24 wr base (.slice (some ⟨g, 0, none⟩) n cap) zs ∧ w.grownBy wr (some g)) (fun i _ => n - (intOf i).toNat)
    case atStart => exact ⟨0, by omega, rfl, S3.comp_one (by have := HN.out; omega), hown, World.grownBy.refl _ _⟩
    case round =>
      obtain ⟨j, hj, rfl, hc, hown, hg⟩ := hrel
      have hc := Lib.hid hc
      by_cases hlt : j + 1 < n
      · obtain ⟨a', n', c', hv, hr, _⟩ := hown.row HZ.out
        cases hv
        obtain ⟨y, hy, y0, y1, cy⟩ := hr.at0 (i := j) (by omega)
        obtain ⟨z, hzz, z0, z1, cz⟩ := hr.at0 (i := j + 1) (by omega)
        have q1 : (0 : Int) ≤ (j : Int) := by omega
        have q2 : (j : Int) < (n : Int) := by omega
        have q3 : (0 : Int) ≤ (j : Int) + 1 := by omega
        have q4 : (j : Int) + 1 < (n : Int) := by omega
        have q5 : ((j : Int) + 1).toNat = j + 1 := by omega
        have w1 : IntKind.i64.wrap ((j : Int) + 1 - 1) = (j : Int) := by rw [IntWalk.i64_in _ (by omega)]; omega
        by_cases hne : z = y
        · subst hne
          have HE := Lib.hid (show S3.comp (zs.take (j + 0 + 2)) = zs.take (j + 1) by have e := S3.comp_step hy hzz; rw [if_pos rfl, hc.out] at e; exact e)
          clear hy hzz
          go_wp2_with (fail)
          go_quiet (fail)
          go_wp2_with (fail)
          clear w1 q5
          go_wp2_with (fail)
          obtain ⟨wo, rfl⟩ : ∃ wo : World, wo = wr := ⟨_, rfl⟩
          go_loopw [3, 5] (fun s3 s5 wr => ∃ kk p : Nat, j + p + 2 ≤ n ∧ kk ≤ j + p + 1 ∧ s3 = .int .i64 kk ∧ s5 = .int .i64 ((p : Int) + 1) ∧ (S3.comp (zs.take (j + p + 2))).length = kk ∧ Own .u64 24 wr base (.slice (some ⟨g, 0, none⟩) n cap) (S3.comp (zs.take (j + p + 2)) ++ zs.drop kk) ∧ w.grownBy wr (some g)) (fun _ s5 _ => n - (intOf s5).toNat)
          case atStart => exact ⟨j + 1, 0, by omega, by omega, by simp, by simp, by rw [HE.out]; simp; have := HN.out; omega, by rw [HE.out, List.take_append_drop]; exact hown, grown_draw hg _⟩
          case round =>
            obtain ⟨kk, p, hp, hkk, rfl, rfl, hcl, hown, hg⟩ := hrel
            have hLn : (S3.comp (zs.take (j + p + 2)) ++ zs.drop kk).length = n := by rw [S3.mixed_len hcl (by have := HN.out; omega)]; exact HN.out.symm
            have hLz : ∀ m ∈ S3.comp (zs.take (j + p + 2)) ++ zs.drop kk, IntKind.u64.min ≤ m ∧ m ≤ IntKind.u64.max := by
              intro m hm
              rcases List.mem_append.1 hm with hm | hm
              · exact HZ.out m (List.mem_of_mem_take (S3.comp_mem hm))
              · exact HZ.out m (List.mem_of_mem_drop hm)
            obtain ⟨a', n', c', hv, hr, _⟩ := hown.row hLz
            cases hv
            by_cases hlt2 : j + p + 2 < n
            · obtain ⟨x, hx, x0, x1, cx⟩ := hr.at0 (i := j + 1 + p) (by omega)
              obtain ⟨u, hu, u0, u1, cu⟩ := hr.at0 (i := j + 1 + (p + 1)) (by omega)
              obtain ⟨old, _, _, _, ck⟩ := hr.at0 (i := kk) (by omega)
              have fk := hown.thawed kk
              rw [S3.mixed_at hcl (by omega)] at hx hu
              have hstep := S3.comp_step (j := j + p + 1) (y := x) (z := u) (by rw [← hx]; congr 1; omega) (by rw [← hu]; congr 1; omega)
              replace hstep := Lib.hid hstep
              clear hx hu hr hLn hLz
              replace hcl := Lib.hid hcl
              have p1 : (0 : Int) ≤ (p : Int) := by omega
              have p2 : (p : Int) + 1 < (n : Int) - ((j : Int) + 1) := by omega
              have p3 : (0 : Int) ≤ (p : Int) + 1 := by omega
              have p4 : p < n - (j + 1) := by omega
              have p5 : p + 1 < n - (j + 1) := by omega
              have p6 : ((p : Int) + 1).toNat = p + 1 := by omega
              have w2 : IntKind.i64.wrap ((p : Int) + 1 - 1) = (p : Int) := by rw [IntWalk.i64_in _ (by omega)]; omega
              by_cases hux : u = x
              · have hux' : (u == x) = true := by simpa using hux
                have H : Hid (S3.comp (zs.take (j + (p + 1) + 2)) = S3.comp (zs.take (j + p + 2))) := by have e := hstep.out; rw [if_pos hux] at e; exact e
                clear hux
                go_wp2_with (fail)
                go_quiet (fail)
                clear w2 p6
                go_wp2_with (fail)
                go_roundw
                case rel => exact ⟨kk, p + 1, by omega, by omega, rfl, by go_num, by rw [H.out]; exact hcl.out, by rw [H.out]; exact hown, grown_draw hg _⟩
                case measure => simp [intOf]; omega
              · have hux' : (u == x) = false := by simpa using hux
                have H : Hid (S3.comp (zs.take (j + (p + 1) + 2)) = S3.comp (zs.take (j + p + 2)) ++ [u]) := by have e := hstep.out; rw [if_neg hux] at e; exact e
                clear hux
                have HK := Lib.hid (show kk < zs.length by have := HN.out; omega)
                have k1 : (0 : Int) ≤ (kk : Int) := by omega
                have k2 : (kk : Int) < (n : Int) := by omega
                go_wp2_with (fail)
                go_quiet (fail)
                clear w2 p6
                go_wp2_with (fail)
                go_roundw
                case rel =>
                  obtain ⟨o1, o2⟩ := Own.store (w := wr.drewN nq) hown kk u
                  rw [S3.mixed_set hcl.out HK.out] at o1
                  exact ⟨kk + 1, p + 1, by omega, by omega, by go_num, by go_num, by rw [H.out]; simp [hcl.out], by rw [H.out]; exact o1, grown_trans (grown_draw hg _) o2⟩
                case measure => simp [intOf]; omega
            · have hjp : j + p + 2 = n := by omega
              have et : zs.take (j + p + 2) = zs := List.take_of_length_le (by have := HN.out; omega)
              rw [et] at hcl hr hown
              have hcl2 := S3.comp_len zs
              have hkn : kk < n := by omega
              have hclr : ∀ ty, (Builtin.clear_ #[33] ty #[.slice (some ⟨g, kk, none⟩) (n - kk) (cap - kk)]).run Try.prog wr = .ok (.tuple #[]) (wr.setCells g kk (List.replicate (n - kk) (.int .u64 0))) := fun ty =>
                Lib.run_clear_slice wr _ _ ty _ Try.underlying33 zero_key rfl rfl g kk _ _ (by omega) (fun i hi => by obtain ⟨v, _, _, _, e⟩ := hr.at0 (i := kk + i) (by omega); rw [e]; rfl) (fun i _ => hown.thawed _)
              have hfin : RowK .u64 (wr.setCells g kk (List.replicate (n - kk) (.int .u64 0))) (some ⟨g, 0, none⟩) kk (S3.comp zs) := by
                refine ⟨hcl, fun m hm => HZ.out m (S3.comp_mem hm), fun _ => ⟨g, 0, rfl, fun i hi => ?_⟩⟩
                rw [World.cell?_setCells_out]
                · obtain ⟨v, hv, _, _, e⟩ := hr.at0 (i := i) (by omega)
                  rw [List.getElem?_append_left hi, List.getElem?_eq_getElem hi] at hv
                  cases hv
                  rw [Nat.zero_add]; exact e
                · intro _ _
                  left
                  show 0 + i < kk
                  omega
              replace hcl := Lib.hid hcl
              replace hfin := Lib.hid hfin
              clear hr hLn hLz et hcl2 hjp
              have k1 : (0 : Int) ≤ (kk : Int) := by omega
              have k2 : (kk : Int) < (n : Int) := by omega
              have k3 : kk ≤ cap := by omega
              have k4 : ¬ cap = kk := by omega
              have k5 : kk ≤ n := by omega
              go_wp2_with (fail)
              go_ret
              exact ⟨by rw [hcl.out]; rfl, by rw [hcl.out]; exact hfin.out, grown_trans hg (grown_setCells g _ _ _)⟩
        · have hne' : (z == y) = false := by simpa using hne
          have H := Lib.hid (S3.comp_all hy hzz hc.out hne)
          clear hy hzz
          go_wp2_with (fail)
          go_quiet (fail)
          clear w1 q5
          go_wp2_with (fail)
          go_roundw
          case rel => exact ⟨j + 1, by omega, by go_num, H.out, hown, grown_draw hg _⟩
          case measure => simp [intOf]; omega
      · have et : zs.take (j + 1) = zs := List.take_of_length_le (by have := HN.out; omega)
        have hc2 := hc.out
        rw [et] at hc2
        have HC := Lib.hid hc2
        obtain ⟨a', n', c', hv, hr, _⟩ := hown.row HZ.out
        cases hv
        have hr := Lib.hid hr
        clear et hc2
        go_wp2_with (fail)
        go_ret
        exact ⟨by rw [HC.out, ← HN.out]; rfl, by rw [HC.out, ← HN.out]; exact hr.out, hg⟩

end Go.Proofs.Ytlmifbbmppenoaa
