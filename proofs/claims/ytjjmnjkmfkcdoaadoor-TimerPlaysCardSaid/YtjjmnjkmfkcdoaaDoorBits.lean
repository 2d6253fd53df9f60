/-
  Bits of bytes and of words, as sums; no program, no condition.
-/
import Derived.Test.YtjjmnjkmfkcdoaaDoorPure
namespace Go.Proofs.YtjjmnjkmfkcdoaaDoor
theorem byte_all {P : Int → Prop} (h : ∀ n : Fin 256, P (n.val : Int)) (a : Int) (h1 : 0 ≤ a) (h2 : a < 256) : P a := by
  have := h ⟨a.toNat, by omega⟩
  rwa [show ((a.toNat : Nat) : Int) = a by omega] at this
theorem and3 (a : Int) (h1 : 0 ≤ a) (h2 : a < 256) : bits .and .u8 a 3 = a % 4 := byte_all (P := fun a => bits .and .u8 a 3 = a % 4) (by decide +kernel) a h1 h2
theorem and4 (a : Int) (h1 : 0 ≤ a) (h2 : a < 256) : bits .and .u8 a 4 = a / 4 % 2 * 4 := byte_all (P := fun a => bits .and .u8 a 4 = a / 4 % 2 * 4) (by decide +kernel) a h1 h2
theorem and7 (a : Int) (h1 : 0 ≤ a) (h2 : a < 256) : bits .and .u8 a 7 = a % 8 := byte_all (P := fun a => bits .and .u8 a 7 = a % 8) (by decide +kernel) a h1 h2
theorem or248 (a : Int) (h1 : 0 ≤ a) (h2 : a < 256) : bits .or .u8 a 248 = 248 + a % 8 := byte_all (P := fun a => bits .or .u8 a 248 = 248 + a % 8) (by decide +kernel) a h1 h2
theorem or248b (a : Int) (h1 : 0 ≤ a) (h2 : a < 256) : bits .or .u8 248 a = 248 + a % 8 := byte_all (P := fun a => bits .or .u8 248 a = 248 + a % 8) (by decide +kernel) a h1 h2
theorem or4 (a : Int) (h1 : 0 ≤ a) (h2 : a < 4) : bits .or .u8 4 a = 4 + a := by
  rcases (by omega : a = 0 ∨ a = 1 ∨ a = 2 ∨ a = 3) with rfl | rfl | rfl | rfl <;> decide +kernel
theorem wbit (c : Int) (i : Nat) (h1 : 0 ≤ c) (h2 : c < 65536) (hi : i < 16) : bits .and .u16 c ((2 ^ i : Nat) : Int) = c / ((2 ^ i : Nat) : Int) % 2 * ((2 ^ i : Nat) : Int) := by
  obtain ⟨n, rfl⟩ := Int.eq_ofNat_of_zero_le h1
  rw [u16_and_nat n (2 ^ i) (by omega) (by have : (2 : Nat) ^ i ≤ 2 ^ 15 := Nat.pow_le_pow_right (by decide) (by omega); omega), nat_bit]
  push_cast
  rfl
theorem w512 (c : Int) (h1 : 0 ≤ c) (h2 : c < 65536) : bits .and .u16 c 512 = c / 512 % 2 * 512 := wbit c 9 h1 h2 (by decide)
theorem w8 (c : Int) (h1 : 0 ≤ c) (h2 : c < 65536) : bits .and .u16 c 8 = c / 8 % 2 * 8 := wbit c 3 h1 h2 (by decide)
theorem w32 (c : Int) (h1 : 0 ≤ c) (h2 : c < 65536) : bits .and .u16 c 32 = c / 32 % 2 * 32 := wbit c 5 h1 h2 (by decide)
theorem w128 (c : Int) (h1 : 0 ≤ c) (h2 : c < 65536) : bits .and .u16 c 128 = c / 128 % 2 * 128 := wbit c 7 h1 h2 (by decide)
theorem w3not (c : Int) (h1 : 0 ≤ c) (h2 : c < 65536) : bits .andNot .u16 c 3 = c / 4 * 4 := by
  obtain ⟨n, rfl⟩ := Int.eq_ofNat_of_zero_le h1
  have e := u16_andNot_nat n 3 (by omega) (by decide)
  have e2 : n &&& 65532 = n / 4 * 4 := by
    have a1 : n &&& 65535 = n := by rw [Nat.and_two_pow_sub_one_eq_mod n 16]; omega
    apply Nat.eq_of_testBit_eq
    intro i
    have q : n / 4 * 4 = (n >>> 2) <<< 2 := by rw [Nat.shiftRight_eq_div_pow, Nat.shiftLeft_eq]
    have hm : ∀ i : Nat, i < 16 → (65532 : Nat).testBit i = decide (2 ≤ i) := by decide
    rw [q, Nat.testBit_and, Nat.testBit_shiftLeft, Nat.testBit_shiftRight]
    by_cases h16 : 16 ≤ i
    · have hn : n.testBit i = false := Nat.testBit_lt_two_pow (Nat.lt_of_lt_of_le (by omega : n < 2 ^ 16) (Nat.pow_le_pow_right (by decide) h16))
      rw [show 2 + (i - 2) = i by omega, hn]; simp
    · rw [hm i (by omega)]
      by_cases h2 : 2 ≤ i
      · rw [show 2 + (i - 2) = i by omega]; simp [h2]
      · simp [h2]
  rw [show (3 : Int) = ((3 : Nat) : Int) from rfl, e, show 65535 - 3 = 65532 from rfl, e2]
  push_cast
  rfl
end Go.Proofs.YtjjmnjkmfkcdoaaDoor
