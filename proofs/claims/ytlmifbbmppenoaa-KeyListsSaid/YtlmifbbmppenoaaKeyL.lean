/-
  The lists of keys that the laws of chapter 3 make of bytes.
-/
import Derived.Test.YtlmifbbmppenoaaKeyRA
import Derived.Test.YtlmifbbmppenoaaKeyR
import Derived.Deep.RegionHeld3
import Derived.IntWalk
namespace Go.Proofs.Ytlmifbbmppenoaa
open Go.RowKit

/-- The key of a byte. -/
def byteKey (b : Int) : Int := S3.mk (1 + b % 2) (1 + b / 2)
/-- The keys of the first bytes. -/
def keysOf (bs : List Int) : List Int := S3.adds byteKey (bs.take 60)

theorem byteKey_range (b : Int) : 0 ≤ byteKey b ∧ byteKey b ≤ 18446744073709551615 := S3.mk_range _ _
theorem keys_range (bs : List Int) : ∀ n ∈ S3.adds byteKey bs, IntKind.u64.min ≤ n ∧ n ≤ IntKind.u64.max := by
  intro n hn
  obtain ⟨b, _, rfl⟩ := (S3.adds_facts byteKey bs).2.2 n hn
  exact byteKey_range b
theorem keys_len (bs : List Int) (j : Nat) (hj : j ≤ 60) : (S3.adds byteKey (bs.take j)).length ≤ 60 := by
  have h1 := (S3.adds_facts byteKey (bs.take j)).2.1
  have h2 := List.length_take_le j bs
  omega

set_option maxHeartbeats 1600000 in
theorem list3_any (a : Option Addr) (len cap : Nat) (bs : List Int) (w : World) (h : RowK .u8 w a len bs) (hl : len ≤ maxLen) :
    Calls Try.prog 21 #[.slice a len cap] w (KeyRow (keysOf bs) w) := by
  unfold maxLen at hl
  have hlen := Lib.hid h.len
  go_enter Try.func21, Try.ntmps21
  go_wp2
  go_loopw [3, 4] (fun l i wr => ∃ j : Nat, j ≤ len ∧ j ≤ 60 ∧ i = .int .i64 j ∧ Own .u64 24 wr w.heap.size l (S3.adds byteKey (bs.take j)) ∧ Below w.heap.size w wr) (fun _ i _ => 60 - (intOf i).toNat)
  case atStart => exact ⟨0, by omega, by omega, rfl, Own.nil _ _ _ _, Below.refl _ _⟩
  case round =>
    obtain ⟨j, hj, hj6, rfl, hown, B⟩ := hrel
    by_cases hlt : j < len
    · by_cases hlt6 : j < 60
      · obtain ⟨b, off, z, rfl, hz, z0, z1, hc⟩ := h.at hlt
        have hc := cell_keep B hc
        have z0 : 0 ≤ z := z0
        have z1 : z ≤ 255 := z1
        have HS := Lib.hid (S3.adds_take (f := byteKey) hz)
        obtain ⟨a2, n2, c2, rfl, hR, r1, r2, r3, hsh⟩ := hown.reads (keys_range _)
        replace r3 := Lib.hid r3
        replace hsh := Lib.hid hsh
        have r4 : n2 ≤ 1000 := by have := keys_len bs j (by omega); have := r3.out; omega
        have i1 : (0 : Int) ≤ (j : Int) := by omega
        have i2 : (j : Int) < (len : Int) := by omega
        clear hz
        have hRd : RowK .u64 wr.drew a2 n2 (S3.adds byteKey (bs.take j)) := hR
        have C4 := r3add_any (S3.mk (1 + z % 2) (1 + z / 2)) a2 n2 c2 (S3.adds byteKey (bs.take j)) wr.drew hRd hsh.out r1 r4 r2 (S3.mk_range _ _).1 (S3.mk_range _ _).2
        replace C4 := Lib.hid C4
        have hw0 : IntKind.i64.wrap z = z := IntWalk.i64_in _ (by omega)
        have hw1 : z.tmod 2 = z % 2 := Int.tmod_eq_emod_of_nonneg z0
        have hw2 : z.tdiv 2 = z / 2 := Int.tdiv_eq_ediv_of_nonneg z0
        have hw3 : IntKind.i64.wrap (1 + z % 2) = 1 + z % 2 := IntWalk.i64_in _ (by omega)
        have hw4 : IntKind.i64.wrap (z / 2) = z / 2 := IntWalk.i64_in _ (by omega)
        have hw5 : IntKind.i64.wrap (1 + z / 2) = 1 + z / 2 := IntWalk.i64_in _ (by omega)
        go_wp2_with (fail)
        go_region_held3 (fun W => Below wr.heap.size wr W ∧ W.cell? ⟨b, off + j, none⟩ = some (.int .u8 z)) (first | (go_keep; done) | ((repeat' apply And.intro) <;> first | (go_keep; done) | exact (Below.refl _ _).drew | exact below_keep hb4 (by go_keep) | exact cell_keep hb4 (by go_keep)))
          (first
            | (go_at_call 10; refine (r3make_any _ _ _).mono ?_; rintro e w' ⟨rfl, rfl⟩)
            | (go_at_call 26; refine C4.out.mono ?_; rintro e w4 ⟨v4, rfl, hown4, hb4⟩))
        clear hw0 hw1 hw2 hw3 hw4 hw5
        all_goals
          have hS := ‹Below wr.heap.size wr _ ∧ _›
          go_wp2_with (fail)
          go_roundw
          case rel => exact ⟨j + 1, by omega, by omega, by go_num, by rw [HS.out]; exact Own.base hown4 B.size, below_keep hS.1 B⟩
          case measure => simp [intOf]; omega
      · have e : j = 60 := by omega
        subst e
        go_wp2_with (fail)
        go_ret
        exact ⟨_, rfl, hown, B⟩
    · have e : keysOf bs = S3.adds byteKey (bs.take j) := by
        unfold keysOf
        have := hlen.out
        rw [List.take_of_length_le (show bs.length ≤ 60 by omega), List.take_of_length_le (show bs.length ≤ j by omega)]
      have H := Lib.hid e
      clear e
      go_wp2_with (fail)
      go_ret
      exact ⟨_, rfl, by rw [H.out]; exact hown, B⟩

end Go.Proofs.Ytlmifbbmppenoaa
