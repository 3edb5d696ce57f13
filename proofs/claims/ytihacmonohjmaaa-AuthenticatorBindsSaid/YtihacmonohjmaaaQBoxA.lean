/-
  What isKind and Make of package box return.
-/
import Derived.Test.YtihacmonohjmaaaQSlicesB
import Derived.Test.YtihacmonohjmaaaQFieldPlain
import Derived.Test.YtihacmonohjmaaaQKeyA
import Derived.Test.YtihacmonohjmaaaQKeyBytes
namespace Go.Proofs.Ytihacmonohjmaaa
open Go.RowKit

theorem isKind_any (n : Int) (w : World) : Calls Try.prog 69 #[.int .i64 n] w fun e w' => e = .returned (.bool (S4.isK n)) ∧ w = w' := by
  rcases S4.isK_cases n with ⟨h, h1, h2⟩ | ⟨h, h1⟩ | ⟨h, h1, h2⟩
  all_goals
    have H := Lib.hid h
    clear h
    go_enter Try.func69, Try.ntmps69
    go_wp2
    go_ret
    exact ⟨ret_bool (by rw [H.out] <;> simp <;> omega), rfl⟩

/-- A new row of two behind another new block; ahead of one. -/
theorem newrow1 (q : IntKind) (w : World) (o : Obj) (zs : List Int) (t : TypeId) (h : ∀ n ∈ zs, q.min ≤ n ∧ n ≤ q.max) : RowK q ((w.alloc o).alloc (.cells (zs.map (Value.int q)).toArray t)) (some ⟨w.heap.size + 1, 0, none⟩) zs.length zs := by
  have e := RowK.new q (w.alloc o) zs t h
  rw [show (w.alloc o).heap.size = w.heap.size + 1 by simp] at e
  exact e
theorem newrow0 (q : IntKind) (w : World) (o : Obj) (zs : List Int) (t : TypeId) (h : ∀ n ∈ zs, q.min ≤ n ∧ n ≤ q.max) : RowK q ((w.alloc (.cells (zs.map (Value.int q)).toArray t)).alloc o) (some ⟨w.heap.size, 0, none⟩) zs.length zs :=
  RowK.keep ((Below.refl _ _).alloc (Nat.le_refl _) _) (RowK.new q w zs t h)

/-- What Make returns. -/
def MadeB (kind key : Int) (body : List Int) (w : World) (e : Ending) (w' : World) : Prop :=
  ∃ A n cap, e = .returned (.tuple #[.slice A n cap, .int .i64 (S4.mkE kind key body)]) ∧ Sl w' A n cap (S4.mkB kind key body) ∧ Below w.heap.size w w'

set_option maxHeartbeats 1600000 in
theorem bmake_any (kind key : Int) (A : Option Addr) (n cap : Nat) (body : List Int) (w : World) (h : Sl w A n cap body) (k0 : 0 ≤ key) (k1 : key ≤ 18446744073709551615) :
    Calls Try.prog 45 #[.int .i64 kind, .int .u64 key, .slice A n cap] w (MadeB kind key body w) := by
  have hmax := h.max
  unfold maxLen at hmax
  have hlen := Lib.hid h.len
  rcases hk : S4.isK kind
  · have HM := Lib.hid (S4.mk_kind (key := key) (body := body) hk)
    go_enter Try.func45, Try.ntmps45
    go_wp2_with (first | (go_at_call 69; refine (isKind_any _ _).mono ?_; rintro e w' ⟨rfl, rfl⟩))
    go_ret2
    exact ⟨none, 0, 0, ret_two rfl (ival HM.out.1.symm), by rw [HM.out.2]; exact Sl.nil w, Below.refl _ _⟩
  · rcases hv : S3.vk key
    · have HM := Lib.hid (S4.mk_key (body := body) hk hv)
      go_enter Try.func45, Try.ntmps45
      go_wp2_with (first | (go_at_call 69; refine (isKind_any _ _).mono ?_; rintro e w' ⟨rfl, rfl⟩) | (go_at_call 70; refine (kvalid_any _ _ k0 k1).mono ?_; rintro e w' ⟨rfl, rfl⟩))
      go_ret2
      exact ⟨none, 0, 0, ret_two rfl (ival HM.out.1.symm), by rw [HM.out.2]; exact Sl.nil w, Below.refl _ _⟩
    · rcases Int.lt_or_le 1000 (body.length : Int) with l | l
      · have HM := Lib.hid (S4.mk_long (body := body) hk hv l)
        have l' : 1000 < (n : Int) := by have := hlen.out; omega
        go_enter Try.func45, Try.ntmps45
        go_wp2_with (first | (go_at_call 69; refine (isKind_any _ _).mono ?_; rintro e w' ⟨rfl, rfl⟩) | (go_at_call 70; refine (kvalid_any _ _ k0 k1).mono ?_; rintro e w' ⟨rfl, rfl⟩))
        go_ret2
        exact ⟨none, 0, 0, ret_two rfl (ival HM.out.1.symm), by rw [HM.out.2]; exact Sl.nil w, Below.refl _ _⟩
      · have HM := Lib.hid (S4.mk_ok (body := body) hk hv l)
        have l' : (n : Int) ≤ 1000 := by have := hlen.out; omega
        have HR := Lib.hid (S4.boxOf_range (key := key) hk l h.range)
        obtain ⟨q0, q1⟩ := S4.isK_iff.1 hk
        clear l
        replace h := Lib.hid h
        go_enter Try.func45, Try.ntmps45
        go_wp2_with (first | (go_at_call 69; refine (isKind_any _ _).mono ?_; rintro e w' ⟨rfl, rfl⟩) | (go_at_call 70; refine (kvalid_any _ _ k0 k1).mono ?_; rintro e w' ⟨rfl, rfl⟩))
        refine (kbytes_any key _ k0 k1).mono ?_
        rintro e w1 ⟨g1, cap1, rfl, hg1, hcap1, R1, hb1⟩
        have F : Four (w1.alloc (.cells #[.slice (some ⟨w.heap.size + 1, 0, none⟩) 2 2, .slice (some ⟨g1, 0, none⟩) 8 cap1, .slice (some ⟨w.heap.size, 0, none⟩) 2 2, .slice A n cap] 26)) w1.heap.size
            (some ⟨w.heap.size + 1, 0, none⟩) 2 2 [66, kind] (some ⟨g1, 0, none⟩) 8 cap1 (S3.bytes8 key) (some ⟨w.heap.size, 0, none⟩) 2 2 [(n : Int) / 256, (n : Int) % 256] A n cap body := by
          have B1 : Below w.heap.size w w1 := below_keep hb1 (((Below.refl _ _).alloc (Nat.le_refl _) _).alloc (by simp) _)
          have BA : Below w1.heap.size w1 (w1.alloc (.cells #[.slice (some ⟨w.heap.size + 1, 0, none⟩) 2 2, .slice (some ⟨g1, 0, none⟩) 8 cap1, .slice (some ⟨w.heap.size, 0, none⟩) 2 2, .slice A n cap] 26)) := (Below.refl _ _).alloc (Nat.le_refl _) _
          refine ⟨by simp [go_sem], by simp [go_sem], by simp [go_sem], by simp [go_sem], ?_, R1.keep BA, ?_, ((h.out.keep B1).keep BA).row⟩
          · refine RowK.keep BA (RowK.keep hb1 (newrow1 .u8 w _ _ _ ?_))
            intro z hz
            simp at hz
            rcases hz with rfl | rfl
            · exact ⟨by decide, by decide⟩
            · exact ⟨by show 0 ≤ _; omega, by show _ ≤ 255; omega⟩
          · refine RowK.keep BA (RowK.keep hb1 (newrow0 .u8 w _ _ _ ?_))
            intro z hz
            simp at hz
            rcases hz with rfl | rfl
            · exact ⟨by show 0 ≤ _; omega, by show _ ≤ 255; omega⟩
            · exact ⟨by show 0 ≤ _; omega, by show _ ≤ 255; omega⟩
        have hB : Below w.heap.size w w1 := below_keep hb1 (((Below.refl _ _).alloc (Nat.le_refl _) _).alloc (by simp) _)
        have CC := Lib.hid (bconcat_any _ _ _ _ _ _ _ _ _ _ _ _ _ _ _ _ _ _ F (by omega) (by omega))
        clear F R1 hb1
        go_wp2_with (fail)
        refine CC.out.mono ?_
        rintro e w2 ⟨v, rfl, own2, hb2⟩
        go_wp2_with (fail)
        have he : ([] ++ [66, kind] ++ S3.bytes8 key ++ [(n : Int) / 256, (n : Int) % 256] ++ body : List Int) = S4.boxOf kind key body := by
          simp [S4.boxOf, hlen.out]
        rw [he] at own2
        obtain ⟨A2, n2, cap2, rfl, hs2⟩ := own2.sl HR.out
        go_ret2
        exact ⟨A2, n2, cap2, ret_two rfl (ival HM.out.1.symm), by rw [HM.out.2]; exact hs2, below_keep hb2 (hB.alloc hB.size _)⟩

end Go.Proofs.Ytihacmonohjmaaa
