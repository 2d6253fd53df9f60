/-
  Plain data: sums over a whole picture; no program, no condition.
-/
import Derived.Test.YtpfbodmadmneiaaIt
namespace Go.Proofs.Ytpfbodmadmneiaa
set_option linter.unusedVariables false
set_option linter.unusedSimpArgs false
def sumN (f : Nat → Nat) : Nat → Nat
  | 0 => 0
  | n + 1 => sumN f n + f n
theorem sum_congr {f g : Nat → Nat} : ∀ n, (∀ i, i < n → f i = g i) → sumN f n = sumN g n
  | 0, _ => rfl
  | n + 1, h => by
    show sumN f n + f n = sumN g n + g n
    rw [sum_congr n (fun i hi => h i (by omega)), h n (by omega)]
theorem sum_add (f : Nat → Nat) (a : Nat) : ∀ b, sumN f (a + b) = sumN f a + sumN (fun i => f (a + i)) b
  | 0 => by simp [sumN]
  | b + 1 => by
    show sumN f (a + b) + f (a + b) = sumN f a + (sumN (fun i => f (a + i)) b + f (a + b))
    rw [sum_add f a b]; omega
theorem sum_lines (f : Nat → Nat) : ∀ L, sumN f (114 * L) = sumN (fun l => sumN (fun d => f (114 * l + d)) 114) L
  | 0 => rfl
  | L + 1 => by
    show sumN f (114 * L + 114) = _
    rw [sum_add f (114 * L) 114, sum_lines f L]
    rfl
theorem sum_shift (h : Nat → Nat) (p : Nat) : ∀ n, sumN (fun s => h (p + 1 + s)) n + h p = sumN (fun s => h (p + s)) n + h (p + n)
  | 0 => by simp [sumN]
  | n + 1 => by
    show sumN (fun s => h (p + 1 + s)) n + h (p + 1 + n) + h p = sumN (fun s => h (p + s)) n + h (p + n) + h (p + (n + 1))
    have := sum_shift h p n
    have e : p + 1 + n = p + (n + 1) := by omega
    rw [e]; omega
/-- A sum over a whole turn does not hang on where it begins. -/
theorem sum_turn (f : Nat → Nat) (n : Nat) : ∀ p, sumN (fun s => f ((p + s) % n)) n = sumN f n
  | 0 => sum_congr n (fun i hi => by rw [Nat.zero_add, Nat.mod_eq_of_lt hi])
  | p + 1 => by
    have := sum_shift (fun s => f (s % n)) p n
    have e := sum_turn f n p
    simp only [Nat.add_mod_right] at this
    omega
/-- How often a mode is in a picture, by the place. -/
def modeN (r : Nat) : Nat := if 16416 ≤ r then 1 else if r % 114 < 20 then 2 else if r % 114 < 63 then 3 else 0
def isN (v r : Nat) : Nat := if modeN r = v then 1 else 0
def blN (r : Nat) : Nat := if r = 16416 then 1 else 0
theorem all_0 : sumN (isN 0) 17556 = 7344 := (sum_lines _ 154).trans (by decide +kernel)
theorem all_1 : sumN (isN 1) 17556 = 1140 := (sum_lines _ 154).trans (by decide +kernel)
theorem all_2 : sumN (isN 2) 17556 = 2880 := (sum_lines _ 154).trans (by decide +kernel)
theorem all_3 : sumN (isN 3) 17556 = 6192 := (sum_lines _ 154).trans (by decide +kernel)
theorem all_b : sumN blN 17556 = 1 := (sum_lines _ 154).trans (by decide +kernel)
theorem modeP_nat (p : Nat) : modeP (p : Int) = (modeN p : Nat) := by
  unfold modeP modeN
  by_cases a : 16416 ≤ p
  · rw [if_pos (by omega), if_pos a]; rfl
  · rw [if_neg (by omega), if_neg a]
    by_cases b : p % 114 < 20
    · rw [if_pos (by omega), if_pos b]; rfl
    · rw [if_neg (by omega), if_neg b]
      by_cases c : p % 114 < 63
      · rw [if_pos (by omega), if_pos c]; rfl
      · rw [if_neg (by omega), if_neg c]; rfl
theorem modeN_bd (p : Nat) : modeN p < 4 := by unfold modeN; (repeat' split) <;> omega
/-- So often behind t cycles, from the place p on. -/
def cntN (f : Nat → Nat) (p t : Nat) : Nat := sumN (fun s => f ((p + 1 + s) % 17556)) t
theorem cnt_zero (f : Nat → Nat) (p : Nat) : cntN f p 0 = 0 := rfl
theorem cnt_succ (f : Nat → Nat) (p t : Nat) : cntN f p (t + 1) = cntN f p t + f ((p + 1 + t) % 17556) := rfl
theorem cnt_all (f : Nat → Nat) (p : Nat) : cntN f p 17556 = sumN f 17556 := sum_turn f 17556 (p + 1)
theorem cnt_le (f : Nat → Nat) (hf : ∀ i, f i ≤ 1) (p : Nat) : ∀ t, cntN f p t ≤ t
  | 0 => Nat.le_refl _
  | t + 1 => by have := cnt_le f hf p t; have := hf ((p + 1 + t) % 17556); rw [cnt_succ]; omega
theorem isN_le (v r : Nat) : isN v r ≤ 1 := by unfold isN; split <;> omega
theorem blN_le (r : Nat) : blN r ≤ 1 := by unfold blN; split <;> omega
theorem pos_nat {m : M} (h : Ok m) (hc : 128 ≤ m 8352) (p : Nat) (hp : pos m = p) (t : Nat) : pos (itM t m) = ((p + t) % 17556 : Nat) := by
  rw [pos_it h hc t, hp]; omega
theorem pos_nat1 {m : M} (h : Ok m) (hc : 128 ≤ m 8352) (p : Nat) (hp : pos m = p) (t : Nat) : pos (itM (t + 1) m) = ((p + 1 + t) % 17556 : Nat) := by
  rw [pos_nat h hc p hp (t + 1)]; congr 2; omega
theorem mode_nat {m : M} (h : Ok m) (hc : 128 ≤ m 8352) (p : Nat) (hp : pos m = p) : modeM m = (modeN p : Nat) := by
  rw [mode_pos h hc, hp, modeP_nat]
theorem turnR_blank {m : M} (h : Ok m) (hc : 128 ≤ m 8352) (p : Nat) (hp : pos (tickM m) = p) : turnR m = (blN p : Nat) := by
  have a := h.line
  have b := h.dot
  have c := h.byte 8356 (by decide) (by decide)
  have d := h.byte 8363 (by decide) (by decide)
  rw [pos_tick h hc] at hp
  unfold pos at hp
  unfold turnR nextR blN
  rw [mid_line]
  by_cases g : m 8363 + 1 = 114
  · rw [if_pos g]
    by_cases g2 : m 8356 + 1 = 144
    · rw [if_pos g2, if_pos (by omega)]; rfl
    · rw [if_neg g2, if_neg (by omega)]; rfl
  · rw [if_neg g, if_neg (by omega)]; rfl
theorem ask_cases (m : M) : askM m = 0 ∨ askM m = 2 := by unfold askM; split <;> simp
theorem and1 (r : Int) (h : 0 ≤ r ∧ r ≤ 3) : bits .and .u8 r 1 = r % 2 ∧ (bits .and .u8 r 2 != 0) = decide (2 ≤ r) := by
  have q : ∀ v : Fin 4, bits .and .u8 (v.val : Int) 1 = (v.val : Int) % 2 ∧ (bits .and .u8 (v.val : Int) 2 != 0) = decide (2 ≤ (v.val : Int)) := by decide +kernel
  obtain ⟨n, rfl⟩ := Int.eq_ofNat_of_zero_le h.1
  exact q ⟨n, by omega⟩
theorem tickR_sum {m : M} (hc : 128 ≤ m 8352) : tickR m = turnR m + askM (turnM m) := by unfold tickR; rw [if_pos hc]
theorem turnR_bd (m : M) : turnR m = 0 ∨ turnR m = 1 := by
  unfold turnR nextR
  repeat' split
  all_goals simp
/-- Blank is asked for just where the place comes to be 16416. -/
theorem tick_blank {m : M} (h : Ok m) (hc : 128 ≤ m 8352) (p : Nat) (hp : pos (tickM m) = p) : (bits .and .u8 (tickR m) 1 != 0) = decide (blN p = 1) := by
  have e := turnR_blank h hc p hp
  have hb := blN_le p
  have k := ask_cases (turnM m)
  have t := turnR_bd m
  rw [(and1 _ (by rw [tickR_sum hc]; omega)).1, tickR_sum hc]
  rcases t with t | t <;> rcases k with k | k <;> rw [t] at e <;> rw [t, k]
  all_goals
    have e2 : blN p = 0 ∨ blN p = 1 := by omega
    rcases e2 with e2 | e2 <;> rw [e2] at e ⊢ <;> first | rfl | (exfalso; simp at e)
attribute [irreducible] cntN
attribute [irreducible] sumN
end Go.Proofs.Ytpfbodmadmneiaa
