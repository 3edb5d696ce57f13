/-
  What Text of the document's answer for fields returns.
-/
import Derived.Test.YtkhkmgblgonfoaaGreatQFieldR
namespace Go.Proofs.YtkhkmgblgonfoaaGreat
open Go.RowKit

set_option maxRecDepth 100000 in
set_option maxHeartbeats 1600000 in
theorem r5text_any (A : Option Addr) (bn cap : Nat) (zs : List Int) (at' : Int) (w : World) (h : Sl w A bn cap zs) (hn : bn ≤ 100000) :
    Calls Tryz.prog 86 #[.slice A bn cap, .int .i64 at'] w fun e w' => e = .returned (.tuple #[.string (strOfNums (S5.txS zs at')), .int .i64 (S5.txN zs at'), .int .i64 (S5.txE zs at')]) ∧ w = w' := by
  have hl := Lib.hid h.len
  have hcap := h.2.1
  have hcm := h.2.2.1
  unfold maxLen at hcm
  by_cases hr : at' < 0 ∨ (zs.length : Int) < at'
  · have HT := Lib.hid (S5.tx_range hr)
    have hr' : at' < 0 ∨ (bn : Int) < at' := by rw [← hl.out]; exact hr
    clear hr
    rcases hr' with hr' | hr'
    all_goals
      go_enter Tryz.func86, Tryz.ntmps86
      go_wp2
      refine bodyPost_ret (v := .tuple #[.string ⟨#[]⟩, .int .i64 0, .int .i64 104]) (by simp [results, Tryz.results86, go_sem]) rfl ⟨by rw [HT.out.1, HT.out.2.1, HT.out.2.2]; rfl, rfl⟩
  · obtain ⟨k, rfl⟩ := Int.eq_ofNat_of_zero_le (show 0 ≤ at' by omega)
    have hk : k ≤ bn := by have := hl.out; omega
    have hrh := Lib.hid hr
    clear hr
    have h' := Lib.hid h
    go_enter Tryz.func86, Tryz.ntmps86
    go_wp2
    go_loop [7] (fun i => ∃ m : Nat, m ≤ 40 ∧ i = .int .i64 m ∧ S5.Free zs (k : Int) m) (fun i => 40 - (intOf i).toNat)
    case atStart => exact ⟨0, by omega, rfl, S5.Free.zero _ _⟩
    case round =>
      obtain ⟨m, hm, rfl, hf⟩ := hrel
      replace hf := Lib.hid hf
      by_cases hlt : m ≤ 39
      · by_cases hend : k + m < bn
        · obtain ⟨b, off, z, rfl, hz, z0, z1, hc⟩ := h'.out.row.at hend
          have hzz : zs[(k : Int).toNat + m]? = some z := hz
          have z0 : 0 ≤ z := z0
          have z1 : z ≤ 255 := z1
          have hck : ¬ cap = k := by omega
          by_cases he : z = 0
          · subst he
            have HT := Lib.hid (S5.tx_hit hrh.out (by omega) hf.out hzz)
            have hcv := conv_at (cap := cap - k) (h'.out.row.part k m (by omega))
            clear hz hzz
            go_wp2
            refine bodyPost_ret (v := .tuple #[.string (strOfNums (List.take m (List.drop k zs))), .int .i64 ((k : Int) + (m : Int) + 1), .int .i64 0]) (by simp [results, Tryz.results86, go_sem]) rfl ⟨by rw [HT.out.1, HT.out.2.1, HT.out.2.2]; rfl, rfl⟩
          · have HS := Lib.hid (hf.out.step hzz he)
            have he' : (z == 0) = false := by simpa using he
            clear hz hzz he
            go_wp2
            go_round
            case rel => exact ⟨m + 1, by omega, by go_num, HS.out⟩
            case measure => simp [intOf]; omega
        · have HT := Lib.hid (S5.tx_end hrh.out (by omega) hf.out (by rw [hl.out]; omega))
          go_wp2
          refine bodyPost_ret (v := .tuple #[.string ⟨#[]⟩, .int .i64 0, .int .i64 101]) (by simp [results, Tryz.results86, go_sem]) rfl ⟨by rw [HT.out.1, HT.out.2.1, HT.out.2.2]; rfl, rfl⟩
      · have e : m = 40 := by omega
        subst e
        have HT := Lib.hid (S5.tx_long hrh.out hf.out)
        go_wp2
        refine bodyPost_ret (v := .tuple #[.string ⟨#[]⟩, .int .i64 0, .int .i64 105]) (by simp [results, Tryz.results86, go_sem]) rfl ⟨by rw [HT.out.1, HT.out.2.1, HT.out.2.2]; rfl, rfl⟩

end Go.Proofs.YtkhkmgblgonfoaaGreat
