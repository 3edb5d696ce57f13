/-
  The law KeyLists: Has and Add, also that Add keeps an ascending list ascending, with each key once.
-/
import Derived.Test.YtlmifbbmppenoaaKeyH
import Derived.Test.YtlmifbbmppenoaaKeyRD
import Derived.Test.YtlmifbbmppenoaaKeyL
import Derived.Test.YtlmifbbmppenoaaKeyHas
import Derived.Test.YtlmifbbmppenoaaKeyAdd
namespace Go.Proofs.Ytlmifbbmppenoaa
open Go.RowKit

/-- Two lists that are equal. -/
def Equal (w : World) (e : Ending) (w' : World) : Prop := e = .returned (.bool true) ∧ ∃ n, w' = w.drewN n

set_option maxHeartbeats 800000 in
theorem r3same_any (a1 a2 : Option Addr) (n c1 c2 : Nat) (zs : List Int) (w : World) (h1 : RowK .u64 w a1 n zs) (h2 : RowK .u64 w a2 n zs) (hl : n ≤ 100000) :
    Calls Try.prog 25 #[.slice a1 n c1, .slice a2 n c2] w (Equal w) := by
  go_enter Try.func25, Try.ntmps25
  go_wp2
  go_loopw [5] (fun i wr => ∃ p q : Nat, p ≤ n ∧ i = .int .i64 p ∧ wr = w.drewN q) (fun i _ => n - (intOf i).toNat)
  case atStart => exact ⟨0, 0, by omega, rfl, rfl⟩
  case round =>
    obtain ⟨p, q, hp, rfl, rfl⟩ := hrel
    by_cases hlt : p < n
    · obtain ⟨b1, o1, z, rfl, hz, z0, z1, d1⟩ := h1.at hlt
      obtain ⟨b2, o2, z', rfl, hz', _, _, d2⟩ := h2.at hlt
      obtain rfl : z = z' := by rw [hz] at hz'; injection hz'
      clear hz hz'
      have p1 : (0 : Int) ≤ (p : Int) := by omega
      have p2 : (p : Int) < (n : Int) := by omega
      go_wp2_with (fail)
      go_quiet (fail)
      go_wp2_with (fail)
      go_roundw
      case rel => exact ⟨p + 1, _, by omega, by go_num, rfl⟩
      case measure => simp [intOf]; omega
    · go_wp2_with (fail)
      go_ret
      exact ⟨rfl, _, rfl⟩

set_option maxRecDepth 100000 in
set_option maxHeartbeats 1600000 in
theorem listsLaw_walk (la : Option Addr) (ln lcap : Nat) (ls : List Int) (ra : Option Addr) (rn rcap : Nat) (rs : List Int) (k n : Int) (w : World)
    (hL : RowK .u8 w la ln ls) (hln : ln ≤ maxLen) (hR : RowK .u64 w ra rn rs) (hrn : rn ≤ maxLen) (_ : 0 ≤ k) (_ : k ≤ 18446744073709551615) (n0 : 0 ≤ n) (n1 : n ≤ 255) :
    Calls Try.prog 5 #[.slice la ln lcap, .slice ra rn rcap, .int .u64 k, .int .u8 n] w fun e w' => e = .returned (.bool true) ∧ Below w.heap.size w w' := by
  have hrn' := hrn
  unfold maxLen at hrn
  by_cases h1 : 60 < (rn : Int)
  · go_enter Try.func5, Try.ntmps5
    go_wp2_with (fail)
    refine (awake3_any _).mono ?_
    rintro e w1 ⟨rfl, B⟩
    go_wp2_with (fail)
    go_ret
    exact ⟨rfl, B⟩
  · obtain ⟨x, hx⟩ : ∃ x, x = S3.mk (1 + n % 2) (1 + n / 2) := ⟨_, rfl⟩
    have hxr := S3.mk_range (1 + n % 2) (1 + n / 2)
    rw [← hx] at hxr
    obtain ⟨x0, x1⟩ := hxr
    replace hx := Lib.hid hx.symm
    have hasc := Lib.hid (show S3.Asc (keysOf ls) from (S3.adds_facts byteKey (ls.take 60)).1)
    have hkr := Lib.hid (show ∀ m ∈ keysOf ls, IntKind.u64.min ≤ m ∧ m ≤ IntKind.u64.max from keys_range _)
    have hkl := Lib.hid (show (keysOf ls).length ≤ 60 from keys_len ls 60 (by omega))
    obtain ⟨ks, hks⟩ : ∃ ks, ks = keysOf ls := ⟨_, rfl⟩
    have HK := Lib.hid hks.symm
    rw [← hks] at hasc hkr hkl
    clear hks
    have has2 := Lib.hid (S3.has_iff.2 (S3.add_has x ks))
    have hal := Lib.hid (S3.add_len x ks)
    have haa := Lib.hid (hasc.out.add (k := x))
    go_enter Try.func5, Try.ntmps5
    go_wp2_with (fail)
    refine (awake3_any _).mono ?_
    rintro e w2 ⟨rfl, B⟩
    replace hL := hL.keep B
    replace hR := hR.keep B
    go_wp2_with (fail)
    refine (list3_any _ _ _ ls _ hL hln).mono ?_
    rintro e w3 ⟨v3, rfl, hown, hb⟩
    rw [HK.out] at hown
    replace hR := hR.keep hb
    have hB2 := B.size
    replace B := below_keep hb B
    clear hb hL
    replace hown := hown.base hB2
    obtain ⟨a3, n3, c3, rfl, hA, r1, r2, r3, hsh⟩ := hown.reads hkr.out
    replace hsh := Lib.hid hsh
    have r4 : n3 ≤ 60 := by have := hkl.out; omega
    have r5 : n3 ≤ maxLen := Nat.le_trans r1 r2
    replace r3 := Lib.hid r3
    clear hown
    go_wp2_with (fail)
    refine (r3make_any _ _ _).mono ?_
    rintro e w' ⟨rfl, rfl⟩
    rw [hx.out]
    go_wp2_with (fail)
    refine (khas_any k _ _ _ rs _ hR hrn').mono ?_
    rintro e w' ⟨rfl, rfl⟩
    go_wp2_with (fail)
    refine (r3has_any k _ _ _ rs _ hR hrn').mono ?_
    rintro e w' ⟨rfl, rfl⟩
    go_wp2_with (fail)
    refine (khas_any x _ _ _ ks _ hA r5).mono ?_
    rintro e w' ⟨rfl, rfl⟩
    go_wp2_with (fail)
    refine (r3has_any x _ _ _ ks _ hA r5).mono ?_
    rintro e w' ⟨rfl, rfl⟩
    clear hR
    go_wp2_with (fail)
    refine (kadd_any x _ _ _ ks _ hA hsh.out r1 (by omega) r2 hasc.out x0 x1).mono ?_
    rintro e w4 ⟨g4, m4, c4, rfl, _, hA4, _, _, hb⟩
    replace B := below_keep hb B
    replace hA := hA.keep hb
    clear hb
    go_wp2_with (fail)
    refine (r3add_any x _ _ _ ks _ hA hsh.out r1 (by omega) r2 x0 x1).mono ?_
    rintro e w5 ⟨v5, rfl, hown5, hb⟩
    replace B := below_keep hb B
    replace hA4 := hA4.keep hb
    clear hb hA
    obtain ⟨a5, n5, c5, rfl, hA5, _, _, q3, _⟩ := hown5.reads hA4.2.1
    have q4 := hA4.len
    have q5 : m4 ≤ 61 := by have := hkl.out; have := hal.out; omega
    obtain rfl : n5 = m4 := by omega
    replace q3 := Lib.hid q3
    replace q4 := Lib.hid q4
    clear hown5
    go_wp2_with (fail)
    refine (r3same_any _ _ _ _ _ _ _ hA4 hA5 (by omega)).mono ?_
    rintro e w' ⟨rfl, nq, rfl⟩
    replace B := below_drewN' B nq
    replace hA4 := hA4.drewN nq
    clear hA5
    go_wp2_with (fail)
    refine (khas_any x _ _ _ _ _ hA4 (by unfold maxLen; omega)).mono ?_
    rintro e w' ⟨rfl, rfl⟩
    rw [has2.out]
    go_wp2_with (fail)
    generalize w5.drewN nq = w6 at B hA4 ⊢
    go_loopw [12] (fun i wr => ∃ p : Nat, i = .int .i64 ((p : Int) + 1) ∧ Below w.heap.size w wr ∧ RowK .u64 wr (some ⟨g4, 0, none⟩) n5 (S3.add x ks)) (fun i _ => n5 - (intOf i).toNat)
    case atStart => exact ⟨0, by simp, B, hA4⟩
    case round =>
      obtain ⟨p, rfl, B, hA4⟩ := hrel
      by_cases hlt : p + 1 < n5
      · obtain ⟨y, hy, y0, y1, cy⟩ := hA4.at0 (i := p) (by omega)
        obtain ⟨z, hz, z0, z1, cz⟩ := hA4.at0 (i := p + 1) (by omega)
        have hyz := haa.out.at hy hz (by omega)
        clear hy hz
        have hge : decide (z ≤ y) = false := by simp; omega
        have i1 : (0 : Int) ≤ (p : Int) := by omega
        have i2 : (p : Int) < (n5 : Int) := by omega
        have i3 : (0 : Int) ≤ (p : Int) + 1 := by omega
        have i4 : (p : Int) + 1 < (n5 : Int) := by omega
        have i5 : ((p : Int) + 1).toNat = p + 1 := by omega
        have w1 : IntKind.i64.wrap ((p : Int) + 1 - 1) = (p : Int) := by rw [IntWalk.i64_in _ (by omega)]; omega
        go_wp2_with (fail)
        go_quiet (fail)
        clear w1 i5
        go_wp2_with (fail)
        go_roundw
        case rel => exact ⟨p + 1, by go_num, below_drewN' B _, hA4.drewN _⟩
        case measure => simp [intOf]; omega
      · go_wp2_with (fail)
        go_ret
        exact ⟨rfl, B⟩

end Go.Proofs.Ytlmifbbmppenoaa
