/-
  '|' and '&' of 64-bit words where they are sums and remainders.
-/
import Derived.Test.YtcbneeckbpgmgaaBase
import Derived.Laws.Bits64b
namespace Go.Proofs.Ytcbneeckbpgmgaa
open Go.RowKit

theorem cast_pow (i : Nat) : ((2 ^ i : Nat) : Int) = 2 ^ i := Int.natCast_pow 2 i

theorem or64 (i : Nat) (a b : Int) (a0 : 0 ≤ a) (b0 : 0 ≤ b) (hb : b < 2 ^ i) (ha : a * 2 ^ i + b ≤ 18446744073709551615) : bits .or .u64 (a * 2 ^ i) b = a * 2 ^ i + b := by
  obtain ⟨m, rfl⟩ := Int.eq_ofNat_of_zero_le a0
  obtain ⟨n, rfl⟩ := Int.eq_ofNat_of_zero_le b0
  have hn : n < 2 ^ i := by exact_mod_cast hb
  have e : ((m : Int) * 2 ^ i) = ((m * 2 ^ i : Nat) : Int) := by rw [Int.natCast_mul, cast_pow]
  rw [e] at ha ⊢
  have hor : m * 2 ^ i ||| n = m * 2 ^ i + n := by rw [Nat.mul_comm, ← Nat.two_pow_add_eq_or_of_lt hn]
  rw [bits_or_u64_nat _ _ (by omega) (by omega), hor, Int.natCast_add]

theorem or64_byte (a b : Int) (a0 : 0 ≤ a) (b0 : 0 ≤ b) (hb : b ≤ 255) (ha : a ≤ 72057594037927935) : bits .or .u64 (a * 256) b = a * 256 + b :=
  or64 8 a b a0 b0 (by show b < 256; omega) (by show a * 256 + b ≤ _; omega)

theorem and64 (i : Nat) (a : Int) (a0 : 0 ≤ a) (ha : a ≤ 18446744073709551615) (m : Int) (hm : m = 2 ^ i - 1) (hi : i ≤ 64) : bits .and .u64 a m = a % 2 ^ i := by
  obtain ⟨n, rfl⟩ := Int.eq_ofNat_of_zero_le a0
  have hp : 0 < 2 ^ i := Nat.two_pow_pos i
  have hp' : 2 ^ i ≤ 2 ^ 64 := Nat.pow_le_pow_right (by decide) hi
  have e : m = ((2 ^ i - 1 : Nat) : Int) := by
    rw [hm, Int.natCast_sub hp, cast_pow]; rfl
  rw [e, bits_and_u64_nat _ _ (by omega) (by omega), Nat.and_two_pow_sub_one_eq_mod, Int.natCast_emod, cast_pow]

end Go.Proofs.Ytcbneeckbpgmgaa
