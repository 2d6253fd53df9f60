/-
  Bits of words; no program, no condition but that each number fits.
-/
import Derived.Test.YtafmmffgenolaaaBase
namespace Go.Proofs.Ytafmmffgenolaaa
open Go.ChangeShapes Go.WideShapes Go.ChangeAt Go.RowKit
set_option linter.unusedVariables false
set_option linter.unusedSimpArgs false
set_option maxRecDepth 100000
theorem nat_bit (n k : Nat) : n &&& 2^k = 2^k * (n / 2^k % 2^1) := by
  apply Nat.eq_of_testBit_eq; intro i
  rw [Nat.testBit_and, Nat.testBit_two_pow, Nat.testBit_two_pow_mul, Nat.testBit_mod_two_pow, Nat.testBit_div_two_pow]
  by_cases h : k = i
  · subst h; simp
  · by_cases h2 : k < i
    · have e1 : decide (k = i) = false := by simp; omega
      simp [e1]; omega
    · have e1 : decide (k = i) = false := by simp; omega
      have e3 : decide (i ≥ k) = false := by simp; omega
      simp [e1, e3]
theorem and256 (b : Int) (h1 : 0 ≤ b) (h2 : b < 65536) : bits .and .u16 b 256 = 256 * (b / 256 % 2) := by
  rw [u16_and b 256 h1 h2 (by decide) (by decide)]
  obtain ⟨n, rfl⟩ := Int.eq_ofNat_of_zero_le h1
  have e := nat_bit n 8
  have e3 : ((n : Int).toNat &&& (256 : Int).toNat : Nat) = 256 * (n / 256 % 2) := by simpa using e
  rw [e3]; omega
theorem and16384 (b : Int) (h1 : 0 ≤ b) (h2 : b < 65536) : bits .and .u16 b 16384 = 16384 * (b / 16384 % 2) := by
  rw [u16_and b 16384 h1 h2 (by decide) (by decide)]
  obtain ⟨n, rfl⟩ := Int.eq_ofNat_of_zero_le h1
  have e := nat_bit n 14
  have e3 : ((n : Int).toNat &&& (16384 : Int).toNat : Nat) = 16384 * (n / 16384 % 2) := by simpa using e
  rw [e3]; omega
theorem and16383 (b : Int) (h1 : 0 ≤ b) (h2 : b < 65536) : bits .and .u16 b 16383 = b % 16384 := by
  rw [u16_and b 16383 h1 h2 (by decide) (by decide)]
  obtain ⟨n, rfl⟩ := Int.eq_ofNat_of_zero_le h1
  have e3 : ((n : Int).toNat &&& (16383 : Int).toNat : Nat) = n % 16384 := Nat.and_two_pow_sub_one_eq_mod n 14
  rw [e3]; omega
theorem and32767 (b : Int) (h1 : 0 ≤ b) (h2 : b < 65536) : bits .and .u16 b 32767 = b % 32768 := by
  rw [u16_and b 32767 h1 h2 (by decide) (by decide)]
  obtain ⟨n, rfl⟩ := Int.eq_ofNat_of_zero_le h1
  have e3 : ((n : Int).toNat &&& (32767 : Int).toNat : Nat) = n % 32768 := Nat.and_two_pow_sub_one_eq_mod n 15
  rw [e3]; omega
theorem or32768 (b : Int) (h1 : 0 ≤ b) (h2 : b < 65536) : bits .or .u16 b 32768 = b % 32768 + 32768 := by
  rw [u16_or b 32768 h1 h2 (by decide) (by decide)]
  obtain ⟨n, rfl⟩ := Int.eq_ofNat_of_zero_le h1
  have e3 : ((n : Int).toNat ||| (32768 : Int).toNat : Nat) = n % 32768 + 32768 := by
    show n ||| 2 ^ 15 = _
    by_cases h : n < 2 ^ 15
    · rw [Nat.or_comm, show 2 ^ 15 ||| n = 2 ^ 15 * 1 ||| n from by rw [Nat.mul_one], ← Nat.two_pow_add_eq_or_of_lt h]; omega
    · have e : n = 2 ^ 15 * 1 + (n - 2 ^ 15) := by omega
      have e2 := Nat.two_pow_add_eq_or_of_lt (i := 15) (b := n - 2 ^ 15) (by omega) 1
      rw [e2] at e
      rw [e, Nat.or_comm, ← Nat.or_assoc, Nat.mul_one, Nat.or_self, show 2 ^ 15 ||| (n - 2 ^ 15) = 2 ^ 15 * 1 ||| (n - 2 ^ 15) from by rw [Nat.mul_one], ← Nat.two_pow_add_eq_or_of_lt (by omega)]
      omega
  rw [e3]; omega
theorem orNear (c d : Int) (h1 : 0 ≤ c) (h2 : c < 2) (h3 : 0 ≤ d) (h4 : d < 16384) : bits .or .u16 (16384 * c) d = 16384 * c + d := by
  rw [u16_or _ _ (by omega) (by omega) (by omega) (by omega)]
  obtain ⟨m, rfl⟩ := Int.eq_ofNat_of_zero_le h1
  obtain ⟨k, rfl⟩ := Int.eq_ofNat_of_zero_le h3
  have e1 : (16384 * (m : Int)).toNat = 2 ^ 14 * m := by omega
  have e2 : (k : Int).toNat = k := rfl
  rw [e1, e2, ← Nat.two_pow_add_eq_or_of_lt (by omega)]
  omega
end Go.Proofs.Ytafmmffgenolaaa
