/-
  The law KeyBytes: the bytes of any key, and which key any bytes are.
-/
import Derived.Test.YtlmifbbmppenoaaKeyH
import Derived.Test.YtlmifbbmppenoaaKeyBytes
import Derived.Test.YtlmifbbmppenoaaKeyRB
import Derived.Deep.RegionHeld3
import Derived.Deep.DeepCutAuto
import Derived.Laws.BytesArg
namespace Go.Proofs.Ytlmifbbmppenoaa
open Go.RowKit

/-- A row of bytes, made a text. -/
theorem conv_row {w : World} {g n cap : Nat} {zs : List Int} (h : RowK .u8 w (some ⟨g, 0, none⟩) n zs) (m : Nat) :
    (convert 31 9 (.slice (some ⟨g, 0, none⟩) n cap)).run Try.prog (w.drewN m) = .ok (.string (strOfNums zs)) (w.drewN m) := by
  refine run_convert_bytes_arg _ _ _ Try.underlying31 Try.underlying5 g 0 n cap zs h.len (fun i hi => ?_) _ Try.underlying9
  obtain ⟨z, h1, _, _, h4⟩ := h.at0 hi
  rw [Nat.zero_add, List.getD, h1]
  exact h4

/-- .. in the worlds that some draws later lie. -/
def Conv (w : World) (v : Value) (t : ByteArray) : Prop :=
  (convert 31 9 v).run Try.prog w = .ok (.string t) w ∧ (convert 31 9 v).run Try.prog w.drew = .ok (.string t) w.drew ∧ (convert 31 9 v).run Try.prog w.drew.drew = .ok (.string t) w.drew.drew ∧
  (convert 31 9 v).run Try.prog w.drew.drew.drew = .ok (.string t) w.drew.drew.drew ∧ (convert 31 9 v).run Try.prog w.drew.drew.drew.drew = .ok (.string t) w.drew.drew.drew.drew ∧
  (convert 31 9 v).run Try.prog w.drew.drew.drew.drew.drew = .ok (.string t) w.drew.drew.drew.drew.drew ∧ (convert 31 9 v).run Try.prog w.drew.drew.drew.drew.drew.drew = .ok (.string t) w.drew.drew.drew.drew.drew.drew

theorem conv_rows {w : World} {g n cap : Nat} {zs : List Int} (h : RowK .u8 w (some ⟨g, 0, none⟩) n zs) : Conv w (.slice (some ⟨g, 0, none⟩) n cap) (strOfNums zs) :=
  ⟨conv_row h 0, conv_row h 1, conv_row h 2, conv_row h 3, conv_row h 4, conv_row h 5, conv_row h 6⟩

/-- Reading back the bytes of a number. -/
theorem key_back {k : Int} (k0 : 0 ≤ k) (k1 : k ≤ 18446744073709551615) : (S3.vk k = false ∧ S3.readN (S3.bytes8 k) = 0 ∧ S3.readOk (S3.bytes8 k) = false) ∨ (S3.vk k = true ∧ S3.readN (S3.bytes8 k) = k ∧ S3.readOk (S3.bytes8 k) = true) := by
  obtain ⟨e1, e2⟩ := S3.read_bytes8 k0 k1
  rcases h : S3.vk k
  · left; rw [h] at e1 e2; exact ⟨rfl, by simpa using e2, e1⟩
  · right; rw [h] at e1 e2; exact ⟨rfl, by simpa using e2, e1⟩

theorem RowK.cut {k : IntKind} {w : World} {a : Option Addr} {n : Nat} {zs : List Int} (h : RowK k w a n zs) (m : Nat) (hm : m ≤ n) : RowK k w a m (zs.take m) := by
  obtain ⟨h1, h2, h3⟩ := h
  refine ⟨by simp; omega, fun x hx => h2 x (List.mem_of_mem_take hx), fun hp => ?_⟩
  obtain ⟨b, off, ha, hc⟩ := h3 (by omega)
  exact ⟨b, off, ha, fun i hi => by
    have hi' : i < zs.length := by have := hi; simp at this; omega
    rw [List.getElem_take]; exact hc i hi'⟩

set_option maxRecDepth 100000 in
set_option maxHeartbeats 1600000 in
theorem bytesLaw_walk (k : Int) (ba : Option Addr) (bn bcap : Nat) (bs : List Int) (cl : Bool) (s : Int) (cut : Int) (w : World) (k0 : 0 ≤ k) (k1 : k ≤ 18446744073709551615) (hB : RowK .u8 w ba bn bs) (hbn : bn ≤ maxLen) (s0 : 0 ≤ s) (s1 : s ≤ 4294967295) (c0 : 0 ≤ cut) (c1 : cut ≤ 255) :
    Calls Try.prog 4 #[.int .u64 k, .slice ba bn bcap, .bool cl, .int .u32 s, .int .u8 cut] w fun e w' => e = .returned (.bool true) ∧ Below w.heap.size w w' := by
  have hbn' := hbn
  unfold maxLen at hbn
  by_cases h1 : 40 < (bn : Int)
  · go_enter Try.func4, Try.ntmps4
    go_wp2_with (fail)
    refine (awake3_any _).mono ?_
    rintro e w1 ⟨rfl, B⟩
    go_wp2_with (fail)
    go_ret
    exact ⟨rfl, B⟩
  · obtain ⟨cn, rfl⟩ := Int.eq_ofNat_of_zero_le c0
    have hx : ∃ x : Int, 0 ≤ x ∧ x ≤ 18446744073709551615 ∧ x = S3.mk (if cl then 2 else 1) s := ⟨_, (S3.mk_range _ _).1, (S3.mk_range _ _).2, rfl⟩
    obtain ⟨x, x0, x1, hx⟩ := hx
    cases cl
    all_goals
      simp only [Bool.false_eq_true, if_false, if_true] at hx
      have HX := Lib.hid hx.symm
      clear hx
      go_enter Try.func4, Try.ntmps4
      go_wp2_with (fail)
      refine (awake3_any _).mono ?_
      rintro e w1 ⟨rfl, B⟩
      replace hB := hB.keep B
      go_wp2_with (go_at_call 10; refine (r3make_any _ _ _).mono ?_; rintro e w' ⟨rfl, rfl⟩; rw [HX.out])
      go_loopw [13] (fun i wr => ∃ p : Nat, p ≤ 2 ∧ i = .int .i64 p ∧ Below w.heap.size w wr ∧ RowK .u8 wr ba bn bs) (fun i _ => 2 - (intOf i).toNat)
      case atStart => exact ⟨0, by omega, rfl, B, hB⟩
      case round =>
        obtain ⟨p, hp, rfl, B, hB⟩ := hrel
        by_cases hlt : p < 2
        · have hp2 : p = 0 ∨ p = 1 := by omega
          rcases hp2 with rfl | rfl
          · have Y := key_back k0 k1
            go_wp2_with (fail)
            refine (kbytes_any _ _ k0 k1).mono ?_
            rintro e w4 ⟨g, cap, rfl, hg, hcap, hR, hb⟩
            replace B := below_keep hb (B.alloc B.size _)
            replace hB := (hB.keep ((Below.refl _ _).alloc (Nat.le_refl _) _)).keep hb
            clear hb
            go_upto_region 14 with (fail)
            go_cut [49] (fun s wx => s = .bool false ∧ RowK .u8 wx (some ⟨g, 0, none⟩) 8 (S3.bytes8 k) ∧ RowK .u8 wx ba bn bs ∧ Below w.heap.size w wx)
            case first =>
              obtain ⟨f0, f1, f2, f3, f4, f5, f6⟩ := conv_rows (cap := cap) hR
              replace hR := Lib.hid hR
              replace hB := Lib.hid hB
              replace B := Lib.hid B
              clear Y
              go_region_with (first | (go_at_call 18; refine (r3bytes_any _ _ k0 k1).mono ?_; rintro e w5 ⟨g2, cap2, rfl, hg2, hR2, hb2⟩; obtain ⟨p0, p1, p2, p3, p4, p5, p6⟩ := conv_rows (cap := cap2) hR2; obtain ⟨q0, q1, q2, q3, q4, q5, q6⟩ := conv_rows (cap := cap) (RowK.keep hb2 hR.out); replace hR2 := Lib.hid hR2))
              all_goals
                go_wp2_with (fail)
                go_meet
                exact ⟨rfl, RowK.keep hb2 hR.out, RowK.keep hb2 hB.out, by first | exact below_keep hb2 B.out | exact below_keep hb2 B.out.drew | exact below_keep hb2 B.out.drew.drew | exact below_keep hb2 B.out.drew.drew.drew⟩
            case rest =>
              obtain ⟨rfl, hR, hB, B⟩ := hcut
              rcases Y with ⟨hv, y1, y2⟩ | ⟨hv, y1, y2⟩
              all_goals
                have Y1 := Lib.hid y1
                have Y2 := Lib.hid y2
                clear y1 y2
                by_cases hcut : cn < 8
                · obtain ⟨r1, r2⟩ := S3.read_len (zs := (S3.bytes8 k).take cn) (by simp [S3.bytes8_len]; omega)
                  have R1 := Lib.hid r1
                  clear r1 r2
                  have c8 : ((cn : Int) != 8) = true := by simp; omega
                  go_wp2_with (fail)
                  refine (kread_any _ _ _ _ _ hR (by decide)).mono ?_
                  rintro e w' ⟨rfl, rfl⟩
                  rw [Y1.out, Y2.out]
                  go_wp2_with (go_at_call 14; refine (r3valid_any _ _ k0 k1).mono ?_; rintro e w' ⟨rfl, rfl⟩)
                  refine (kread_any _ _ _ _ _ (hR.cut cn (by omega)) (by unfold maxLen; omega)).mono ?_
                  rintro e w' ⟨rfl, rfl⟩
                  rw [R1.out]
                  go_wp2_with (fail)
                  go_roundw
                  case rel => exact ⟨1, by omega, by go_num, B, hB⟩
                  case measure => simp [intOf]
                · have c9 : ((cn : Int) != 8) = false ∨ ((cn : Int) != 8) = true := by
                    rcases ((cn : Int) != 8)
                    · exact .inl rfl
                    · exact .inr rfl
                  rcases c9 with c9 | c9
                  all_goals
                    go_wp2_with (fail)
                    refine (kread_any _ _ _ _ _ hR (by decide)).mono ?_
                    rintro e w' ⟨rfl, rfl⟩
                    rw [Y1.out, Y2.out]
                    go_wp2_with (go_at_call 14; refine (r3valid_any _ _ k0 k1).mono ?_; rintro e w' ⟨rfl, rfl⟩)
                    go_roundw
                    case rel => exact ⟨1, by omega, by go_num, B, hB⟩
                    case measure => simp [intOf]
          · have Y := key_back x0 x1
            go_wp2_with (fail)
            refine (kbytes_any _ _ x0 x1).mono ?_
            rintro e w4 ⟨g, cap, rfl, hg, hcap, hR, hb⟩
            replace B := below_keep hb (B.alloc B.size _)
            replace hB := (hB.keep ((Below.refl _ _).alloc (Nat.le_refl _) _)).keep hb
            clear hb
            go_upto_region 14 with (fail)
            go_cut [49] (fun s wx => s = .bool false ∧ RowK .u8 wx (some ⟨g, 0, none⟩) 8 (S3.bytes8 x) ∧ RowK .u8 wx ba bn bs ∧ Below w.heap.size w wx)
            case first =>
              obtain ⟨f0, f1, f2, f3, f4, f5, f6⟩ := conv_rows (cap := cap) hR
              replace hR := Lib.hid hR
              replace hB := Lib.hid hB
              replace B := Lib.hid B
              clear Y
              go_region_with (first | (go_at_call 18; refine (r3bytes_any _ _ x0 x1).mono ?_; rintro e w5 ⟨g2, cap2, rfl, hg2, hR2, hb2⟩; obtain ⟨p0, p1, p2, p3, p4, p5, p6⟩ := conv_rows (cap := cap2) hR2; obtain ⟨q0, q1, q2, q3, q4, q5, q6⟩ := conv_rows (cap := cap) (RowK.keep hb2 hR.out); replace hR2 := Lib.hid hR2))
              all_goals
                go_wp2_with (fail)
                go_meet
                exact ⟨rfl, RowK.keep hb2 hR.out, RowK.keep hb2 hB.out, by first | exact below_keep hb2 B.out | exact below_keep hb2 B.out.drew | exact below_keep hb2 B.out.drew.drew | exact below_keep hb2 B.out.drew.drew.drew⟩
            case rest =>
              obtain ⟨rfl, hR, hB, B⟩ := hcut
              rcases Y with ⟨hv, y1, y2⟩ | ⟨hv, y1, y2⟩
              all_goals
                have Y1 := Lib.hid y1
                have Y2 := Lib.hid y2
                clear y1 y2
                by_cases hcut : cn < 8
                · obtain ⟨r1, r2⟩ := S3.read_len (zs := (S3.bytes8 x).take cn) (by simp [S3.bytes8_len]; omega)
                  have R1 := Lib.hid r1
                  clear r1 r2
                  have c8 : ((cn : Int) != 8) = true := by simp; omega
                  go_wp2_with (fail)
                  refine (kread_any _ _ _ _ _ hR (by decide)).mono ?_
                  rintro e w' ⟨rfl, rfl⟩
                  rw [Y1.out, Y2.out]
                  go_wp2_with (go_at_call 14; refine (r3valid_any _ _ x0 x1).mono ?_; rintro e w' ⟨rfl, rfl⟩)
                  refine (kread_any _ _ _ _ _ (hR.cut cn (by omega)) (by unfold maxLen; omega)).mono ?_
                  rintro e w' ⟨rfl, rfl⟩
                  rw [R1.out]
                  go_wp2_with (fail)
                  go_roundw
                  case rel => exact ⟨2, by omega, by go_num, B, hB⟩
                  case measure => simp [intOf]
                · have c9 : ((cn : Int) != 8) = false ∨ ((cn : Int) != 8) = true := by
                    rcases ((cn : Int) != 8)
                    · exact .inl rfl
                    · exact .inr rfl
                  rcases c9 with c9 | c9
                  all_goals
                    go_wp2_with (fail)
                    refine (kread_any _ _ _ _ _ hR (by decide)).mono ?_
                    rintro e w' ⟨rfl, rfl⟩
                    rw [Y1.out, Y2.out]
                    go_wp2_with (go_at_call 14; refine (r3valid_any _ _ x0 x1).mono ?_; rintro e w' ⟨rfl, rfl⟩)
                    go_roundw
                    case rel => exact ⟨2, by omega, by go_num, B, hB⟩
                    case measure => simp [intOf]
        · go_wp2_with (fail)
          refine (kread_any _ _ _ _ _ hB hbn').mono ?_
          rintro e w' ⟨rfl, rfl⟩
          go_wp2_with (fail)
          refine (r3read_any _ _ _ _ _ hB hbn').mono ?_
          rintro e w' ⟨rfl, rfl⟩
          go_wp2_with (fail)
          go_ret
          exact ⟨ret_bool (by simp), B⟩

end Go.Proofs.Ytlmifbbmppenoaa
