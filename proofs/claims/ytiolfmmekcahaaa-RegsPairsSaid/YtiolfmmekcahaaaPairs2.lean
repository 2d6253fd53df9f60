/-
  RegsPairs returns true, for every set of registers, numbers and word: the numbers' facts, and the walk at all of them; no condition but that each argument fits its kind.
-/
import Derived.Test.YtiolfmmekcahaaaPairs
namespace Go.Proofs.Ytiolfmmekcahaaa.regsPairs
open Go.ChangeShapes Go.WideShapes Go.ChangeAt Go.RowKit

theorem nat_not15 (a : Nat) (h : a < 65536) : a &&& 65520 = a / 16 * 16 := by
  have e : a / 16 * 16 = (a >>> 4) <<< 4 := by rw [Nat.shiftLeft_eq, Nat.shiftRight_eq_div_pow]
  rw [e]
  apply Nat.eq_of_testBit_eq
  intro i
  rw [Nat.testBit_and, Nat.testBit_shiftLeft, Nat.testBit_shiftRight]
  by_cases h4 : 4 ≤ i
  · by_cases h16 : i < 16
    · have : ∀ k : Fin 16, 4 ≤ k.val → (65520 : Nat).testBit k.val = true := by decide +kernel
      have t := this ⟨i, h16⟩ h4
      simp only at t
      rw [t, show 4 + (i - 4) = i by omega]
      simp [h4]
    · have : a.testBit i = false := Nat.testBit_lt_two_pow (Nat.lt_of_lt_of_le (by omega : a < 2 ^ 16) (Nat.pow_le_pow_right (by omega) (by omega)))
      rw [this, show 4 + (i - 4) = i by omega, this]
      simp
  · have : ∀ k : Fin 4, (65520 : Nat).testBit k.val = false := by decide +kernel
    have t := this ⟨i, by omega⟩
    simp only at t
    rw [t]
    simp [h4]
theorem not15w (x : Int) (h1 : 0 ≤ x) (h2 : x < 65536) : bits .andNot .u16 x 15 = x / 16 * 16 := by
  rw [u16_andNot _ _ h1 h2 (by omega) (by omega), show 65535 - (15 : Int).toNat = 65520 from rfl, nat_not15 _ (by omega)]
  omega
theorem not15b (a : Int) (h1 : 0 ≤ a) (h2 : a < 256) : bits .andNot .u8 a 15 = a / 16 * 16 :=
  byte_all (P := fun a => bits .andNot .u8 a 15 = a / 16 * 16) (by decide +kernel) a h1 h2

theorem setP_ok (r : RR) (i x : Int) (ok : r.ok) (x1 : 0 ≤ x) (x2 : x < 65536) (i1 : 0 ≤ i) (i2 : i < 5) : (setP r i x).ok := by
  obtain ⟨ha, hf, hb, hc, hd, he, hh, hl, hs, hp⟩ := ok
  rcases (by omega : i = 0 ∨ i = 1 ∨ i = 2 ∨ i = 3 ∨ i = 4) with rfl | rfl | rfl | rfl | rfl
  all_goals
    simp only [setP]
    refine ⟨?_, ?_, ?_, ?_, ?_, ?_, ?_, ?_, ?_, ?_⟩
    all_goals (first | assumption | (simp only; omega) | (simp; omega))

theorem fits (r : RR) (i j x : Int) (i1 : 0 ≤ i) (i2 : i < 5) (j1 : 0 ≤ j) (j2 : j < 5) :
    pairE i = 0 ∧ ((setP r i x).pc != r.pc) = false ∧ ((i != j) = false ∨ ((i != j) = true ∧ (pairV (setP r i x) j != pairV r j) = false)) := by
  rcases (by omega : i = 0 ∨ i = 1 ∨ i = 2 ∨ i = 3 ∨ i = 4) with rfl | rfl | rfl | rfl | rfl
  all_goals
    rcases (by omega : j = 0 ∨ j = 1 ∨ j = 2 ∨ j = 3 ∨ j = 4) with rfl | rfl | rfl | rfl | rfl
    all_goals simp [pairE, pairV, setP]

theorem orw (x : Int) (x1 : 0 ≤ x) (x2 : x < 65536) : (bits .or .u16 (x / 256 * 256) (x % 256) == x) = true := by
  rw [or16 _ _ (by omega) (by omega) (by omega) (by omega)]; simp; omega

theorem walk (r : RR) (n k x : Int) (ok : r.ok) (n1 : 0 ≤ n) (n2 : n < 256) (k1 : 0 ≤ k) (k2 : k < 256) (x1 : 0 ≤ x) (x2 : x < 65536) (w : World) :
    Calls Try.prog 6 #[.agg #[.int .u8 r.a, .int .u8 r.f, .int .u8 r.b, .int .u8 r.c, .int .u8 r.d, .int .u8 r.e, .int .u8 r.h, .int .u8 r.l, .int .u16 r.sp, .int .u16 r.pc], .int .u8 n, .int .u8 k, .int .u16 x] w fun e w' => e = .returned (.bool true) ∧ Below w.heap.size w w' := by
  have i1 : 0 ≤ n % 5 := by omega
  have i2 : n % 5 < 5 := by omega
  obtain ⟨a, b, c⟩ := fits r (n % 5) (k % 5) x i1 i2 (by omega) (by omega)
  have okt := setP_ok r (n % 5) x ok x1 x2 i1 i2
  have q := orw x x1 x2
  generalize hi : n % 5 = i at *
  rcases (by omega : i = 0 ∨ i = 1 ∨ i = 2 ∨ i = 3 ∨ i = 4) with h | h | h | h | h
  · have e : pairV (setP r i x) i = x := by subst h; simp [pairV, setP]; omega
    exact walkL r n k x ok n1 n2 k1 k2 x1 x2 _ okt i _ _ _ _ _ i1 i2 hi rfl rfl a rfl rfl rfl rfl b c (by simp; omega) (by simp; omega) (by rw [e]; simp) (x / 256) (x % 256) _ _ (by omega) (by omega) (by omega) (by omega)
      (by subst h; simp [getV, setP]) rfl (by subst h; simp [getV, setP]) rfl q w
  · have e : pairV (setP r i x) i = x := by subst h; simp [pairV, setP]; omega
    exact walkL r n k x ok n1 n2 k1 k2 x1 x2 _ okt i _ _ _ _ _ i1 i2 hi rfl rfl a rfl rfl rfl rfl b c (by simp; omega) (by simp; omega) (by rw [e]; simp) (x / 256) (x % 256) _ _ (by omega) (by omega) (by omega) (by omega)
      (by subst h; simp [getV, setP]) rfl (by subst h; simp [getV, setP]) rfl q w
  · have e : pairV (setP r i x) i = x := by subst h; simp [pairV, setP]; omega
    exact walkL r n k x ok n1 n2 k1 k2 x1 x2 _ okt i _ _ _ _ _ i1 i2 hi rfl rfl a rfl rfl rfl rfl b c (by simp; omega) (by simp; omega) (by rw [e]; simp) (x / 256) (x % 256) _ _ (by omega) (by omega) (by omega) (by omega)
      (by subst h; simp [getV, setP]) rfl (by subst h; simp [getV, setP]) rfl q w
  · have e : pairV (setP r i x) i = x := by subst h; simp [pairV, setP]
    exact walkS r n k x ok n1 n2 k1 k2 x1 x2 _ okt i _ _ _ _ _ i1 i2 hi rfl rfl a rfl rfl rfl rfl b c (by simp; omega) (by simp; omega) (by simp; omega) (by rw [e]; simp) (by subst h; simp [setP]) w
  · have e : pairV (setP r i x) i = bits .andNot .u16 x 15 := by rw [not15w x x1 x2]; subst h; simp [pairV, setP]; omega
    exact walkA r n k x ok n1 n2 k1 k2 x1 x2 _ okt i _ _ _ _ _ i1 i2 hi rfl rfl a rfl rfl rfl rfl b c (by simp; omega) (by simp; omega) (by simp; omega) (by rw [e]; simp) (by subst h; simp [setP])
      (by rw [not15b _ (by omega) (by omega)]; subst h; simp [setP]) w
end Go.Proofs.Ytiolfmmekcahaaa.regsPairs
