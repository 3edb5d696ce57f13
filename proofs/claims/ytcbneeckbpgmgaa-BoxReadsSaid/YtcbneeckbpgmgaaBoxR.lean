/-
  What Make and Read of the document's answer for boxes return.
-/
import Derived.Test.YtcbneeckbpgmgaaBoxC
import Derived.Test.YtcbneeckbpgmgaaKeyR
import Derived.Test.YtcbneeckbpgmgaaKeyRB
import Derived.Deep.RegionLaw
namespace Go.Proofs.Ytcbneeckbpgmgaa
open Go.RowKit

set_option maxHeartbeats 1600000 in
theorem r4make_any (kind key : Int) (A : Option Addr) (n cap : Nat) (body : List Int) (w : World) (h : Sl w A n cap body) (k0 : 0 ≤ key) (k1 : key ≤ 18446744073709551615) :
    Calls Try.prog 12 #[.int .i64 kind, .int .u64 key, .slice A n cap] w (MadeB kind key body w) := by
  have hmax := h.max
  unfold maxLen at hmax
  have hlen := Lib.hid h.len
  rcases S4.isK_cases kind with ⟨hk, q0, q1⟩ | ⟨hk, q⟩ | ⟨hk, q, q'⟩
  · rcases hv : S3.vk key
    · have HM := Lib.hid (S4.mk_key (body := body) hk hv)
      clear hk
      go_enter Try.func12, Try.ntmps12
      go_wp2_with (first | (go_at_call 25; refine (r3valid_any _ _ k0 k1).mono ?_; rintro e w' ⟨rfl, rfl⟩))
      go_ret2
      exact ⟨none, 0, 0, ret_two rfl (ival HM.out.1.symm), by rw [HM.out.2]; exact Sl.nil w, Below.refl _ _⟩
    · rcases Int.lt_or_le 1000 (body.length : Int) with l | l
      · have HM := Lib.hid (S4.mk_long (body := body) hk hv l)
        have l' : 1000 < (n : Int) := by have := hlen.out; omega
        clear hk
        go_enter Try.func12, Try.ntmps12
        go_wp2_with (first | (go_at_call 25; refine (r3valid_any _ _ k0 k1).mono ?_; rintro e w' ⟨rfl, rfl⟩))
        go_ret2
        exact ⟨none, 0, 0, ret_two rfl (ival HM.out.1.symm), by rw [HM.out.2]; exact Sl.nil w, Below.refl _ _⟩
      · have HM := Lib.hid (S4.mk_ok (body := body) hk hv l)
        have l' : (n : Int) ≤ 1000 := by have := hlen.out; omega
        have HR := Lib.hid (S4.boxOf_range (key := key) hk l h.range)
        have B0 : Below w.heap.size w (w.alloc (.cells #[.int .u8 66, .int .u8 kind] 5)) := (Below.refl _ _).alloc (Nat.le_refl _) _
        have O0 : Own .u8 5 (w.alloc (.cells #[.int .u8 66, .int .u8 kind] 5)) w.heap.size (.slice (some ⟨w.heap.size, 0, none⟩) 2 2) [66, kind] := Own.new .u8 _ (Nat.le_refl _) [66, kind] (show 2 ≤ maxLen by decide)
        replace O0 := Lib.hid O0
        replace B0 := Lib.hid B0
        have hk2 := Lib.hid hk
        clear l hk hk2
        replace h := Lib.hid h
        go_enter Try.func12, Try.ntmps12
        go_wp2_with (first | (go_at_call 25; refine (r3valid_any _ _ k0 k1).mono ?_; rintro e w' ⟨rfl, rfl⟩))
        refine (r3bytes_any key _ k0 k1).mono ?_
        rintro e w1 ⟨g1, cap1, rfl, hg1, R1, hb1⟩
        have B1 := below_keep hb1 B0.out
        have O1 := Own.below hb1 O0.out
        replace R1 := Lib.hid R1
        replace B1 := Lib.hid B1
        replace O1 := Lib.hid O1
        clear hb1
        have hN : ∀ z ∈ [(n : Int) / 256, (n : Int) % 256], IntKind.u8.min ≤ z ∧ z ≤ IntKind.u8.max := by
          intro z hz
          simp at hz
          rcases hz with rfl | rfl
          · exact ⟨by show 0 ≤ _; omega, by show _ ≤ 255; omega⟩
          · exact ⟨by show 0 ≤ _; omega, by show _ ≤ 255; omega⟩
        replace hN := Lib.hid hN
        have Ba := Lib.hid (fun (x : World) (o : Obj) => (Below.refl x.heap.size x).alloc (Nat.le_refl _) o)
        go_wp2_with (at_builtin; first
          | (refine wpList_push_row rfl (.tmp 23) (.tmp 25) 24 rfl Try.underlying24 u8_infoB (base := w.heap.size) (v := .slice (some ⟨w.heap.size, 0, none⟩) 2 2) (zs := [66, kind]) (ys := S3.bytes8 key) (A := some ⟨g1, 0, none⟩) (m := 8) (c := cap1) rfl rfl O1.out R1.out (by simp) (by decide) B1.out.size ?_; intro v2 w2 O2 hg2 _; have B2 := Lib.hid (Own.grown B1.out O1.out hg2); replace O2 := Lib.hid O2; clear hg2)
          | (refine wpList_push_row rfl (.tmp 27) (.tmp 35) 24 rfl Try.underlying24 u8_infoB (base := w.heap.size) (v := v2) (zs := [66, kind] ++ S3.bytes8 key) (ys := [(n : Int) / 256, (n : Int) % 256]) (A := some ⟨w2.heap.size, 0, none⟩) (m := 2) (c := 2) rfl rfl (O2.out.alloc _) (RowK.new .u8 w2 _ _ hN.out) (by simp [S3.bytes8]) (by decide) (B2.out.alloc B2.out.size _).size ?_; intro v3 w3 O3 hg3 _; have B3 := Lib.hid (Own.grown (B2.out.alloc B2.out.size _) (O2.out.alloc _) hg3); replace O3 := Lib.hid O3; clear hg3)
          | (refine wpList_push_row rfl (.tmp 37) (.tmp 38) 24 rfl Try.underlying24 u8_infoB (base := w.heap.size) (v := v3) (zs := [66, kind] ++ S3.bytes8 key ++ [(n : Int) / 256, (n : Int) % 256]) (ys := body) (A := A) (m := n) (c := cap) rfl rfl O3.out (h.out.keep B3.out).row (by simp [S3.bytes8]; omega) (by decide) B3.out.size ?_; intro v4 w4 O4 hg4 _; have B4 := Own.grown B3.out O3.out hg4; clear hg4))
        have he : ([66, kind] ++ S3.bytes8 key ++ [(n : Int) / 256, (n : Int) % 256] ++ body : List Int) = S4.boxOf kind key body := by
          simp [S4.boxOf, hlen.out]
        rw [he] at O4
        obtain ⟨A2, n2, cap2, rfl, hs2⟩ := O4.sl HR.out
        go_ret2
        exact ⟨A2, n2, cap2, ret_two rfl (ival HM.out.1.symm), by rw [HM.out.2]; exact hs2, B4⟩
  all_goals
    have HM := Lib.hid (S4.mk_kind (key := key) (body := body) hk)
    clear hk
    go_enter Try.func12, Try.ntmps12
    go_wp2_with (fail)
    go_ret2
    exact ⟨none, 0, 0, ret_two rfl (ival HM.out.1.symm), by rw [HM.out.2]; exact Sl.nil w, Below.refl _ _⟩

end Go.Proofs.Ytcbneeckbpgmgaa
