/-
  Bits and numbers: what goes bit by bit is the sum, the difference, and, or, xor of bytes; plain numbers, no condition but that each is a byte.
-/
import Derived.Test.YtiodaonehbkgcaaRefC
namespace Go.Proofs.Ytiodaonehbkgcaa
open Go.ChangeShapes Go.WideShapes Go.ChangeAt Go.RowKit
set_option linter.unusedVariables false

theorem val8 (f : Nat → Int) : val (bl f 8) = f 0 + 2 * f 1 + 4 * f 2 + 8 * f 3 + 16 * f 4 + 32 * f 5 + 64 * f 6 + 128 * f 7 := by
  simp [bl, val]; omega
theorem bits8 (a : Int) (h1 : 0 ≤ a) (h2 : a < 256) : a = bt a 0 + 2 * bt a 1 + 4 * bt a 2 + 8 * bt a 3 + 16 * bt a 4 + 32 * bt a 5 + 64 * bt a 6 + 128 * bt a 7 :=
  byte_all (P := fun a => a = bt a 0 + 2 * bt a 1 + 4 * bt a 2 + 8 * bt a 3 + 16 * bt a 4 + 32 * bt a 5 + 64 * bt a 6 + 128 * bt a 7) (by decide +kernel) a h1 h2
theorem bits4 (a : Int) (h1 : 0 ≤ a) (h2 : a < 256) : a % 16 = bt a 0 + 2 * bt a 1 + 4 * bt a 2 + 8 * bt a 3 :=
  byte_all (P := fun a => a % 16 = bt a 0 + 2 * bt a 1 + 4 * bt a 2 + 8 * bt a 3) (by decide +kernel) a h1 h2

theorem adds_step (a b : Int) (c : Bool) (k : Nat) : adds a b c k = bt a k + bt b k + addc a b c k - 2 * addc a b c (k + 1) := by
  show (bt a k + bt b k + addc a b c k) % 2 = bt a k + bt b k + addc a b c k - 2 * ((bt a k + bt b k + addc a b c k) / 2); omega
theorem subs_step (a b : Int) (c : Bool) (k : Nat) : subs a b c k = bt a k - bt b k - subc a b c k + 2 * subc a b c (k + 1) := by
  show subs a b c k = bt a k - bt b k - subc a b c k + 2 * (if bt a k - bt b k - subc a b c k < 0 then 1 else 0)
  unfold subs; split <;> omega

theorem addc4 (a b : Int) (c : Bool) (h1 : 0 ≤ a) (h2 : a < 256) (h3 : 0 ≤ b) (h4 : b < 256) :
    adds a b c 0 + 2 * adds a b c 1 + 4 * adds a b c 2 + 8 * adds a b c 3 + 16 * addc a b c 4 = a % 16 + b % 16 + fl 1 c := by
  have e0 := adds_step a b c 0; have e1 := adds_step a b c 1; have e2 := adds_step a b c 2; have e3 := adds_step a b c 3
  have z : addc a b c 0 = fl 1 c := rfl
  rw [bits4 a h1 h2, bits4 b h3 h4, e0, e1, e2, e3, z]; simp only [Nat.reduceAdd]; omega
theorem addc8 (a b : Int) (c : Bool) (h1 : 0 ≤ a) (h2 : a < 256) (h3 : 0 ≤ b) (h4 : b < 256) :
    val (bl (adds a b c) 8) + 256 * addc a b c 8 = a + b + fl 1 c := by
  have h := addc4 a b c h1 h2 h3 h4
  have e0 := adds_step a b c 4; have e1 := adds_step a b c 5; have e2 := adds_step a b c 6; have e3 := adds_step a b c 7
  have za := bits8 a h1 h2; have zb := bits8 b h3 h4
  rw [bits4 a h1 h2, bits4 b h3 h4] at h
  simp only [Nat.reduceAdd] at e0 e1 e2 e3
  rw [val8]; omega
theorem subc4 (a b : Int) (c : Bool) (h1 : 0 ≤ a) (h2 : a < 256) (h3 : 0 ≤ b) (h4 : b < 256) :
    subs a b c 0 + 2 * subs a b c 1 + 4 * subs a b c 2 + 8 * subs a b c 3 - 16 * subc a b c 4 = a % 16 - b % 16 - fl 1 c := by
  have e0 := subs_step a b c 0; have e1 := subs_step a b c 1; have e2 := subs_step a b c 2; have e3 := subs_step a b c 3
  have z : subc a b c 0 = fl 1 c := rfl
  rw [bits4 a h1 h2, bits4 b h3 h4, e0, e1, e2, e3, z]; simp only [Nat.reduceAdd]; omega
theorem subc8 (a b : Int) (c : Bool) (h1 : 0 ≤ a) (h2 : a < 256) (h3 : 0 ≤ b) (h4 : b < 256) :
    val (bl (subs a b c) 8) - 256 * subc a b c 8 = a - b - fl 1 c := by
  have h := subc4 a b c h1 h2 h3 h4
  have e0 := subs_step a b c 4; have e1 := subs_step a b c 5; have e2 := subs_step a b c 6; have e3 := subs_step a b c 7
  have za := bits8 a h1 h2; have zb := bits8 b h3 h4
  rw [bits4 a h1 h2, bits4 b h3 h4] at h
  simp only [Nat.reduceAdd] at e0 e1 e2 e3
  rw [val8]; omega

theorem add_bits (a b : Int) (c : Bool) (h1 : 0 ≤ a) (h2 : a < 256) (h3 : 0 ≤ b) (h4 : b < 256) :
    val (bl (adds a b c) 8) = addR a b c ∧ FL (val (bl (adds a b c) 8) == 0) false (addc a b c 4 == 1) (addc a b c 8 == 1) = addF a b c := by
  have e8 := addc8 a b c h1 h2 h3 h4
  have e4 := addc4 a b c h1 h2 h3 h4
  have c4 := addc_b a b c 4; have c8 := addc_b a b c 8
  have v := val_b (bl (adds a b c) 8) (by rw [bl_len]; omega) (bl_mem _ (adds_b a b c) 8)
  have s0 := adds_b a b c 0; have s1 := adds_b a b c 1; have s2 := adds_b a b c 2; have s3 := adds_b a b c 3
  have er : val (bl (adds a b c) 8) = addR a b c := by unfold addR; omega
  refine ⟨er, ?_⟩
  rw [er]; unfold addF
  congr 1
  · rw [Bool.eq_iff_iff]; simp; omega
  · rw [Bool.eq_iff_iff]; simp; omega
theorem sub_bits (a b : Int) (c : Bool) (h1 : 0 ≤ a) (h2 : a < 256) (h3 : 0 ≤ b) (h4 : b < 256) :
    val (bl (subs a b c) 8) = subR a b c ∧ FL (val (bl (subs a b c) 8) == 0) true (subc a b c 4 == 1) (subc a b c 8 == 1) = subF a b c := by
  have e8 := subc8 a b c h1 h2 h3 h4
  have e4 := subc4 a b c h1 h2 h3 h4
  have c4 := subc_b a b c 4; have c8 := subc_b a b c 8
  have v := val_b (bl (subs a b c) 8) (by rw [bl_len]; omega) (bl_mem _ (subs_b a b c) 8)
  have s0 := subs_b a b c 0; have s1 := subs_b a b c 1; have s2 := subs_b a b c 2; have s3 := subs_b a b c 3
  have er : val (bl (subs a b c) 8) = subR a b c := by unfold subR; omega
  refine ⟨er, ?_⟩
  rw [er]; unfold subF
  congr 1
  · rw [Bool.eq_iff_iff]; simp; omega
  · rw [Bool.eq_iff_iff]; simp; omega

/-! ### And, or, xor -/
theorem sh_nat (x k : Nat) : sh (x : Int) k = ((x / 2 ^ k : Nat) : Int) := by
  induction k with
  | zero => simp [sh]
  | succ k ih => show sh x k / 2 = _; rw [ih, Nat.pow_succ, ← Nat.div_div_eq_div_mul]; omega
theorem bt_nat (x k : Nat) : bt (x : Int) k = if x.testBit k then 1 else 0 := by
  unfold bt; rw [sh_nat, Nat.testBit_eq_decide_div_mod_eq]
  generalize x / 2 ^ k = y
  simp only [decide_eq_true_eq]; split <;> omega
theorem and_bits (a b : Int) (h1 : 0 ≤ a) (h2 : a < 256) (h3 : 0 ≤ b) (h4 : b < 256) : val (bl (lg0 a b) 8) = bits .and .u8 a b := by
  rw [u8_and a b h1 h2 h3 h4]
  have hb : a.toNat &&& b.toNat < 256 := Nat.lt_of_le_of_lt Nat.and_le_left (by omega)
  rw [bits8 ((a.toNat &&& b.toNat : Nat) : Int) (by omega) (by omega), val8]
  have e : ∀ k, lg0 a b k = bt ((a.toNat &&& b.toNat : Nat) : Int) k := by
    intro k
    rw [bt_nat, Nat.testBit_and]
    unfold lg0
    rw [show bt a k = bt ((a.toNat : Nat) : Int) k by rw [Int.toNat_of_nonneg h1], show bt b k = bt ((b.toNat : Nat) : Int) k by rw [Int.toNat_of_nonneg h3], bt_nat, bt_nat]
    cases a.toNat.testBit k <;> cases b.toNat.testBit k <;> rfl
  simp only [e]
theorem or_bits (a b : Int) (h1 : 0 ≤ a) (h2 : a < 256) (h3 : 0 ≤ b) (h4 : b < 256) : val (bl (lg1 a b) 8) = bits .or .u8 a b := by
  rw [u8_or a b h1 h2 h3 h4]
  have hb : a.toNat ||| b.toNat < 2 ^ 8 := Nat.or_lt_two_pow (by omega) (by omega)
  rw [bits8 ((a.toNat ||| b.toNat : Nat) : Int) (by omega) (by omega), val8]
  have e : ∀ k, lg1 a b k = bt ((a.toNat ||| b.toNat : Nat) : Int) k := by
    intro k
    rw [bt_nat, Nat.testBit_or]
    unfold lg1
    rw [show bt a k = bt ((a.toNat : Nat) : Int) k by rw [Int.toNat_of_nonneg h1], show bt b k = bt ((b.toNat : Nat) : Int) k by rw [Int.toNat_of_nonneg h3], bt_nat, bt_nat]
    cases a.toNat.testBit k <;> cases b.toNat.testBit k <;> rfl
  simp only [e]
theorem xor_bits (a b : Int) (h1 : 0 ≤ a) (h2 : a < 256) (h3 : 0 ≤ b) (h4 : b < 256) : val (bl (lg2 a b) 8) = bits .xor .u8 a b := by
  rw [u8_xor a b h1 h2 h3 h4]
  have hb : a.toNat ^^^ b.toNat < 2 ^ 8 := Nat.xor_lt_two_pow (by omega) (by omega)
  rw [bits8 ((a.toNat ^^^ b.toNat : Nat) : Int) (by omega) (by omega), val8]
  have e : ∀ k, lg2 a b k = bt ((a.toNat ^^^ b.toNat : Nat) : Int) k := by
    intro k
    rw [bt_nat, Nat.testBit_xor]
    unfold lg2
    rw [show bt a k = bt ((a.toNat : Nat) : Int) k by rw [Int.toNat_of_nonneg h1], show bt b k = bt ((b.toNat : Nat) : Int) k by rw [Int.toNat_of_nonneg h3], bt_nat, bt_nat]
    cases a.toNat.testBit k <;> cases b.toNat.testBit k <;> rfl
  simp only [e]

/-! ### The contracts, told in numbers -/
theorem add_r' (a b : Int) (c : Bool) (h1 : 0 ≤ a) (h2 : a < 256) (h3 : 0 ≤ b) (h4 : b < 256) (w : World) :
    Calls Try.prog 12 #[.int .u8 a, .int .u8 b, .bool c] w fun e w' => e = .returned (.tuple #[.int .u8 (addR a b c), .int .u8 (addF a b c)]) ∧ Below w.heap.size w w' := by
  have e := add_bits a b c h1 h2 h3 h4
  rw [← e.1, ← e.2]; exact add_r a b c h1 h2 h3 h4 w
theorem sub_r' (a b : Int) (c : Bool) (h1 : 0 ≤ a) (h2 : a < 256) (h3 : 0 ≤ b) (h4 : b < 256) (w : World) :
    Calls Try.prog 14 #[.int .u8 a, .int .u8 b, .bool c] w fun e w' => e = .returned (.tuple #[.int .u8 (subR a b c), .int .u8 (subF a b c)]) ∧ Below w.heap.size w w' := by
  have e := sub_bits a b c h1 h2 h3 h4
  rw [← e.1, ← e.2]; exact sub_r a b c h1 h2 h3 h4 w
theorem and_r (a b : Int) (h1 : 0 ≤ a) (h2 : a < 256) (h3 : 0 ≤ b) (h4 : b < 256) (w : World) :
    Calls Try.prog 16 #[.int .i64 0, .int .u8 a, .int .u8 b] w fun e w' => e = .returned (.tuple #[.int .u8 (bits .and .u8 a b), .int .u8 (FL (bits .and .u8 a b == 0) false true false)]) ∧ Below w.heap.size w w' := by
  rw [← and_bits a b h1 h2 h3 h4]; exact logic0_r a b h1 h2 h3 h4 w
theorem or_r (a b : Int) (h1 : 0 ≤ a) (h2 : a < 256) (h3 : 0 ≤ b) (h4 : b < 256) (w : World) :
    Calls Try.prog 16 #[.int .i64 1, .int .u8 a, .int .u8 b] w fun e w' => e = .returned (.tuple #[.int .u8 (bits .or .u8 a b), .int .u8 (FL (bits .or .u8 a b == 0) false false false)]) ∧ Below w.heap.size w w' := by
  rw [← or_bits a b h1 h2 h3 h4]; exact logic1_r a b h1 h2 h3 h4 w
theorem xor_r (a b : Int) (h1 : 0 ≤ a) (h2 : a < 256) (h3 : 0 ≤ b) (h4 : b < 256) (w : World) :
    Calls Try.prog 16 #[.int .i64 2, .int .u8 a, .int .u8 b] w fun e w' => e = .returned (.tuple #[.int .u8 (bits .xor .u8 a b), .int .u8 (FL (bits .xor .u8 a b == 0) false false false)]) ∧ Below w.heap.size w w' := by
  rw [← xor_bits a b h1 h2 h3 h4]; exact logic2_r a b h1 h2 h3 h4 w
end Go.Proofs.Ytiodaonehbkgcaa
