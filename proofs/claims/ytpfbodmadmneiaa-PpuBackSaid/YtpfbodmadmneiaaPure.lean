/-
  Plain data: a memory as a function to bytes, a dot, a tile's number, a place of a map, a line; no program, no condition.
-/
import Derived.Test.YtpfbodmadmneiaaBase
import Derived.Laws.BitsLemmas
namespace Go.Proofs.Ytpfbodmadmneiaa
set_option linter.unusedVariables false
set_option linter.unusedSimpArgs false
theorem byte_all {P : Int → Prop} (h : ∀ n : Fin 256, P (n.val : Int)) (a : Int) (h1 : 0 ≤ a) (h2 : a < 256) : P a := by
  have := h ⟨a.toNat, by omega⟩
  simpa [Int.toNat_of_nonneg h1] using this
abbrev M := Nat → Int
def okB (f : Nat → Int) : Prop := ∀ i, 0 ≤ f i ∧ f i < 256
def upd (m : M) (o : Nat) (x : Int) : M := fun i => if i = o then x else m i
def zeroM : M := fun _ => 0
/-- A line's cells. -/
def enc (m : M) : Array Value := Array.ofFn (n := 160) fun i => .int .u8 (m i.val)
theorem enc_size (m : M) : (enc m).size = 160 := by simp [enc]
theorem enc_get (m : M) (o : Nat) (h : o < 160) : (enc m)[o]? = some (.int .u8 (m o)) := by simp [enc, h]
theorem enc_set (m : M) (o : Nat) (x : Int) (h : o < 160) : (enc m).setIfInBounds o (.int .u8 x) = enc (upd m o x) := by
  apply Array.ext_getElem?
  intro i
  by_cases hi : i < 160
  · by_cases e : o = i
    · subst e
      rw [Array.getElem?_setIfInBounds_self, enc_get _ _ hi]
      simp [enc_size, hi, upd]
    · rw [Array.getElem?_setIfInBounds_ne e, enc_get _ _ hi, enc_get _ _ hi, upd, if_neg (fun h => e h.symm)]
  · rw [Array.getElem?_eq_none (by simp [enc_size]; omega), Array.getElem?_eq_none (by simp [enc_size]; omega)]
theorem enc_one (m : M) : (enc m).all (·.oneCell') = true := by
  rw [Array.all_eq_true]
  intro i hi
  simp [enc, Value.oneCell']
/-- The cells of a line of dots. -/
def enc2 (m : M) : Array Value := Array.ofFn (n := 320) fun i => .int .u8 (m i.val)
theorem enc2_size (m : M) : (enc2 m).size = 320 := by simp [enc2]
theorem enc2_get (m : M) (o : Nat) (h : o < 320) : (enc2 m)[o]? = some (.int .u8 (m o)) := by simp [enc2, h]
theorem enc2_set (m : M) (o : Nat) (x : Int) (h : o < 320) : (enc2 m).setIfInBounds o (.int .u8 x) = enc2 (upd m o x) := by
  apply Array.ext_getElem?
  intro i
  by_cases hi : i < 320
  · by_cases e : o = i
    · subst e
      rw [Array.getElem?_setIfInBounds_self, enc2_get _ _ hi]
      simp [enc2_size, hi, upd]
    · rw [Array.getElem?_setIfInBounds_ne e, enc2_get _ _ hi, enc2_get _ _ hi, upd, if_neg (fun h => e h.symm)]
  · rw [Array.getElem?_eq_none (by simp [enc2_size]; omega), Array.getElem?_eq_none (by simp [enc2_size]; omega)]
theorem enc2_one (m : M) : (enc2 m).all (·.oneCell') = true := by
  rw [Array.all_eq_true]
  intro i hi
  simp [enc2, Value.oneCell']
/-- The first t dots of a line L; behind them 0. -/
def firstN (L : M) (t : Nat) : M := fun i => if i < t then L i else 0
theorem first_zero (L : M) : firstN L 0 = zeroM := by
  funext i
  simp [firstN, zeroM]
theorem first_succ (L : M) (t : Nat) : upd (firstN L t) t (L t) = firstN L (t + 1) := by
  funext i
  unfold upd firstN
  by_cases h : i = t
  · subst h; rw [if_pos rfl, if_pos (by omega)]
  · rw [if_neg h]
    by_cases h2 : i < t
    · rw [if_pos h2, if_pos (by omega)]
    · rw [if_neg h2, if_neg (by omega)]
/-- Bits. -/
def hv (x : Int) : Nat → Int
  | 0 => x
  | n + 1 => hv x n / 2
def bit (x : Int) (n : Nat) : Int := hv x n % 2
theorem bit_bd (x : Int) (n : Nat) : bit x n = 0 ∨ bit x n = 1 := by unfold bit; omega
theorem hv_bd (x : Int) (h0 : 0 ≤ x) (h1 : x < 256) : ∀ n, 0 ≤ hv x n ∧ hv x n < 256
  | 0 => ⟨h0, h1⟩
  | n + 1 => by have := hv_bd x h0 h1 n; unfold hv; omega
theorem and7 (n : Int) : bits .and .i64 n 7 = n % 8 := by
  have key : (BitVec.ofInt 64 n &&& BitVec.ofInt 64 7).toNat = (n % ((2 ^ 64 : Nat) : Int)).toNat % 2 ^ 3 := by
    rw [BitVec.toNat_and, BitVec.toNat_ofInt, show (BitVec.ofInt 64 7).toNat = 2 ^ 3 - 1 by decide, Nat.and_two_pow_sub_one_eq_mod]
  show IntKind.i64.wrap ((BitVec.ofInt 64 n &&& BitVec.ofInt 64 7).toNat : Nat) = n % 8
  rw [key, IntKind.wrap_i64]
  omega
theorem an1 (a : Int) (h1 : 0 ≤ a) (h2 : a < 256) : bits .and .u8 a 2 = 2 * bit a 1 := byte_all (P := fun a => bits .and .u8 a 2 = 2 * bit a 1) (by decide +kernel) a h1 h2
theorem an2 (a : Int) (h1 : 0 ≤ a) (h2 : a < 256) : bits .and .u8 a 4 = 4 * bit a 2 := byte_all (P := fun a => bits .and .u8 a 4 = 4 * bit a 2) (by decide +kernel) a h1 h2
theorem an4 (a : Int) (h1 : 0 ≤ a) (h2 : a < 256) : bits .and .u8 a 16 = 16 * bit a 4 := byte_all (P := fun a => bits .and .u8 a 16 = 16 * bit a 4) (by decide +kernel) a h1 h2
theorem an5 (a : Int) (h1 : 0 ≤ a) (h2 : a < 256) : bits .and .u8 a 32 = 32 * bit a 5 := byte_all (P := fun a => bits .and .u8 a 32 = 32 * bit a 5) (by decide +kernel) a h1 h2
theorem an6 (a : Int) (h1 : 0 ≤ a) (h2 : a < 256) : bits .and .u8 a 64 = 64 * bit a 6 := byte_all (P := fun a => bits .and .u8 a 64 = 64 * bit a 6) (by decide +kernel) a h1 h2
theorem an7 (a : Int) (h1 : 0 ≤ a) (h2 : a < 256) : bits .and .u8 a 128 = 128 * bit a 7 := byte_all (P := fun a => bits .and .u8 a 128 = 128 * bit a 7) (by decide +kernel) a h1 h2
theorem an3k (a : Int) (h1 : 0 ≤ a) (h2 : a < 256) : bits .and .u8 a 3 = a % 4 := byte_all (P := fun a => bits .and .u8 a 3 = a % 4) (by decide +kernel) a h1 h2
theorem an254 (a : Int) (h1 : 0 ≤ a) (h2 : a < 256) : bits .and .u8 a 254 = a / 2 * 2 := byte_all (P := fun a => bits .and .u8 a 254 = a / 2 * 2) (by decide +kernel) a h1 h2
/-- A dot. -/
def dotV (F : M) (t x y : Int) : Int := if t < 0 ∨ 383 < t then 0 else bit (F (16 * t.toNat + 2 * (y % 8).toNat)) (7 - x % 8).toNat + 2 * bit (F (16 * t.toNat + 2 * (y % 8).toNat + 1)) (7 - x % 8).toNat
theorem dotV_bd (F : M) (t x y : Int) : 0 ≤ dotV F t x y ∧ dotV F t x y < 4 := by
  unfold dotV
  split
  · decide
  · have := bit_bd (F (16 * t.toNat + 2 * (y % 8).toNat)) (7 - x % 8).toNat
    have := bit_bd (F (16 * t.toNat + 2 * (y % 8).toNat + 1)) (7 - x % 8).toNat
    omega
def shadeV (p k : Int) : Int := bit p (2 * (k % 4)).toNat + 2 * bit p ((2 * (k % 4)).toNat + 1)
def filledV (F : M) (n : Nat) : M := fun k => if k < 8192 ∧ 0 < n then F ((k + k / 97) % n) else 0
theorem ok_filled {F : M} (h : okB F) (n : Nat) : okB (filledV F n) := fun k => by
  unfold filledV
  split
  · exact h _
  · decide
/-- A slice of bytes that lies below the block n. -/
def MemB (n_ : Nat) (w : World) (s : Value) (F : M) : Prop := ∃ (a : Option Addr) (n c : Nat), s = .slice a n c ∧ n ≤ 8192 ∧ n ≤ c ∧ okB F ∧ (∀ k, n ≤ k → F k = 0) ∧ (0 < n → ∃ b o, a = some ⟨b, o, none⟩ ∧ b < n_ ∧ ∀ j, j < n → w.cell? ⟨b, o + j, none⟩ = some (.int .u8 (F j)))
abbrev Mem (w : World) (s : Value) (F : M) : Prop := MemB w.heap.size w s F
theorem MemB.ok {n_ : Nat} {w : World} {s : Value} {F : M} (h : MemB n_ w s F) : okB F := by
  obtain ⟨_, _, _, _, _, _, h, _⟩ := h
  exact h
theorem MemB.at {n_ : Nat} {W0 u : World} {s : Value} {F : M} (h : MemB n_ W0 s F) (hn : n_ ≤ W0.heap.size) (hb : Go.RowKit.Below n_ W0 u) : Mem u s F := by
  obtain ⟨a, n, c, h1, h2, h3, h4, h5, h6⟩ := h
  refine ⟨a, n, c, h1, h2, h3, h4, h5, fun h0 => ?_⟩
  obtain ⟨b, o, e1, e2, e3⟩ := h6 h0
  exact ⟨b, o, e1, Nat.lt_of_lt_of_le (Nat.lt_of_lt_of_le e2 hn) hb.size, fun j hj => (hb.cell (p := ⟨b, o + j, none⟩) e2).trans (e3 j hj)⟩
theorem shade_all (p k : Int) (h0 : 0 ≤ p) (h1 : p < 256) (j : Nat) (hj : j < 4) (hk : k % 4 = (j : Int)) : bits .and .u8 (p / 2 ^ (j * 2)) 3 = shadeV p k := by
  unfold shadeV
  rw [hk]
  have h : ∀ (p : Fin 256) (j : Fin 4), bits .and .u8 ((p.val : Int) / 2 ^ (j.val * 2)) 3 = bit p.val (2 * (j.val : Int)).toNat + 2 * bit p.val ((2 * (j.val : Int)).toNat + 1) := by decide +kernel
  obtain ⟨P, rfl⟩ := Int.eq_ofNat_of_zero_le h0
  exact h ⟨P, by omega⟩ ⟨j, hj⟩
theorem dot_all (x : Int) (h0 : 0 ≤ x) (h1 : x < 256) (i : Nat) (hi : i < 8) : bits .and .u8 (x / 2 ^ i) 1 = bit x i := by
  have h : ∀ (p : Fin 256) (j : Fin 8), bits .and .u8 ((p.val : Int) / 2 ^ j.val) 1 = bit p.val j.val := by decide +kernel
  obtain ⟨P, rfl⟩ := Int.eq_ofNat_of_zero_le h0
  exact h ⟨P, by omega⟩ ⟨i, hi⟩
theorem shadeV_bd (p k : Int) : 0 ≤ shadeV p k ∧ shadeV p k < 4 := by
  unfold shadeV
  have := bit_bd p (2 * (k % 4)).toNat
  have := bit_bd p ((2 * (k % 4)).toNat + 1)
  omega
attribute [irreducible] enc
attribute [irreducible] enc2
end Go.Proofs.Ytpfbodmadmneiaa
