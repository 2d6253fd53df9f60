/-
  Plain data: a joypad's lines as bits, and a plan's keys; no program, no condition.
-/
import Derived.Test.YtbpfeppgonhclaaRows
import Derived.Laws.BitsAllLaws
namespace Go.Proofs.Ytbpfeppgonhclaa
set_option linter.unusedVariables false
theorem byte_all {P : Int → Prop} (h : ∀ n : Fin 256, P (n.val : Int)) (a : Int) (h1 : 0 ≤ a) (h2 : a < 256) : P a := by
  have := h ⟨a.toNat, by omega⟩
  rwa [show ((a.toNat : Nat) : Int) = a by omega] at this
theorem nib_all {P : Int → Prop} (h : ∀ n : Fin 16, P (n.val : Int)) (a : Int) (h1 : 0 ≤ a) (h2 : a < 16) : P a := by
  have := h ⟨a.toNat, by omega⟩
  rwa [show ((a.toNat : Nat) : Int) = a by omega] at this
def bt (x k : Int) : Bool := x / k % 2 == 1
/-- A line is 1. -/
def lnB (s d k K : Int) : Bool := !(!bt s 16 && bt d k) && !(!bt s 32 && bt d K)
def lnk (s d : Int) : Nat → Bool
  | 0 => lnB s d 1 16
  | 1 => lnB s d 2 32
  | 2 => lnB s d 4 64
  | _ => lnB s d 8 128
def vB (b : Bool) (k : Int) : Int := if b = true then k else 0
def lnV (s d : Int) : Int := vB (lnk s d 0) 1 + vB (lnk s d 1) 2 + vB (lnk s d 2) 4 + vB (lnk s d 3) 8
def selV (s : Int) : Int := s / 16 % 4 * 16
def rdV (s d : Int) : Int := 192 + selV s + lnV s d
/-- A line falls. -/
def flB (s d s' d' : Int) : Bool := (lnk s d 0 && !lnk s' d' 0) || (lnk s d 1 && !lnk s' d' 1) || (lnk s d 2 && !lnk s' d' 2) || (lnk s d 3 && !lnk s' d' 3)
theorem vB_bd (b : Bool) (k : Int) (hk : 0 ≤ k) : 0 ≤ vB b k ∧ vB b k ≤ k := by cases b <;> simp [vB] <;> omega
theorem ln_bd (s d : Int) : 0 ≤ lnV s d ∧ lnV s d < 16 := by
  unfold lnV
  have a := vB_bd (lnk s d 0) 1 (by omega)
  have b := vB_bd (lnk s d 1) 2 (by omega)
  have c := vB_bd (lnk s d 2) 4 (by omega)
  have e := vB_bd (lnk s d 3) 8 (by omega)
  omega
theorem sel_bd (s : Int) : 0 ≤ selV s ∧ selV s ≤ 48 := by unfold selV; omega
theorem rd_bd (s d : Int) : 192 ≤ rdV s d ∧ rdV s d < 256 := by
  have a := ln_bd s d
  have b := sel_bd s
  unfold rdV; omega
/-- The lines hang on two bits of what is selected. -/
theorem ln_sel (s s' d : Int) (h4 : s / 16 % 2 = s' / 16 % 2) (h5 : s / 32 % 2 = s' / 32 % 2) (n : Nat) : lnk s d n = lnk s' d n := by
  have e : ∀ k K, lnB s d k K = lnB s' d k K := by intro k K; unfold lnB bt; rw [h4, h5]
  match n with
  | 0 => exact e _ _
  | 1 => exact e _ _
  | 2 => exact e _ _
  | _ + 3 => exact e _ _
theorem lnV_sel (s s' d : Int) (h4 : s / 16 % 2 = s' / 16 % 2) (h5 : s / 32 % 2 = s' / 32 % 2) : lnV s d = lnV s' d := by
  unfold lnV; rw [ln_sel s s' d h4 h5, ln_sel s s' d h4 h5, ln_sel s s' d h4 h5, ln_sel s s' d h4 h5]
theorem lnk_selV (s d : Int) (n : Nat) : lnk (selV s) d n = lnk s d n := ln_sel _ _ _ (by unfold selV; omega) (by unfold selV; omega) n
theorem lnV_selV (s d : Int) : lnV (selV s) d = lnV s d := lnV_sel _ _ _ (by unfold selV; omega) (by unfold selV; omega)
theorem selV_selV (s : Int) : selV (selV s) = selV s := by unfold selV; omega
theorem ln11 (s d : Int) (h4 : s / 16 % 2 = 1) (h5 : s / 32 % 2 = 1) : bits .andNot .u8 15 0 = lnV s d := by
  rw [lnV_sel s 48 d (by omega) (by omega)]
  simp [lnV, lnk, lnB, bt, vB]
  decide +kernel
theorem ln01 (s d : Int) (h1 : 0 ≤ d) (h2 : d < 256) (h4 : s / 16 % 2 = 0) (h5 : s / 32 % 2 = 1) : bits .andNot .u8 15 d = lnV s d := by
  rw [lnV_sel s 32 d (by omega) (by omega)]
  exact byte_all (P := fun d => bits .andNot .u8 15 d = lnV 32 d) (by decide +kernel) d h1 h2
theorem ln10 (s d : Int) (h1 : 0 ≤ d) (h2 : d < 256) (h4 : s / 16 % 2 = 1) (h5 : s / 32 % 2 = 0) : bits .andNot .u8 15 (d / 16) = lnV s d := by
  rw [lnV_sel s 16 d (by omega) (by omega)]
  exact byte_all (P := fun d => bits .andNot .u8 15 (d / 16) = lnV 16 d) (by decide +kernel) d h1 h2
theorem ln00 (s d : Int) (h1 : 0 ≤ d) (h2 : d < 256) (h4 : s / 16 % 2 = 0) (h5 : s / 32 % 2 = 0) : bits .andNot .u8 15 (bits .or .u8 d (d / 16)) = lnV s d := by
  rw [lnV_sel s 0 d (by omega) (by omega)]
  exact byte_all (P := fun d => bits .andNot .u8 15 (bits .or .u8 d (d / 16)) = lnV 0 d) (by decide +kernel) d h1 h2
theorem and16 (a : Int) (h1 : 0 ≤ a) (h2 : a < 256) : bits .and .u8 a 16 = a / 16 % 2 * 16 := byte_all (P := fun a => bits .and .u8 a 16 = a / 16 % 2 * 16) (by decide +kernel) a h1 h2
theorem and32 (a : Int) (h1 : 0 ≤ a) (h2 : a < 256) : bits .and .u8 a 32 = a / 32 % 2 * 32 := byte_all (P := fun a => bits .and .u8 a 32 = a / 32 % 2 * 32) (by decide +kernel) a h1 h2
theorem and48 (a : Int) (h1 : 0 ≤ a) (h2 : a < 256) : bits .and .u8 a 48 = selV a := byte_all (P := fun a => bits .and .u8 a 48 = selV a) (by decide +kernel) a h1 h2
theorem orz (a : Int) (h1 : 0 ≤ a) (h2 : a < 256) : bits .or .u8 0 a = a := byte_all (P := fun a => bits .or .u8 0 a = a) (by decide +kernel) a h1 h2
theorem or_sel (a : Int) (h1 : 0 ≤ a) (h2 : a < 256) : bits .or .u8 192 (selV a) = 192 + selV a := byte_all (P := fun a => bits .or .u8 192 (selV a) = 192 + selV a) (by decide +kernel) a h1 h2
theorem or_ln (q l : Int) (h1 : 0 ≤ q) (h2 : q < 16) (h3 : 0 ≤ l) (h4 : l < 16) : bits .or .u8 (q * 16) l = q * 16 + l := by
  have : ∀ q : Fin 16, ∀ l : Fin 16, bits .or .u8 ((q.val : Int) * 16) (l.val : Int) = (q.val : Int) * 16 + (l.val : Int) := by decide +kernel
  exact nib_all (P := fun q => bits .or .u8 (q * 16) l = q * 16 + l) (fun q => nib_all (P := fun l => bits .or .u8 ((q.val : Int) * 16) l = (q.val : Int) * 16 + l) (fun l => this q l) l h3 h4) q h1 h2
theorem rd_or (s d : Int) (h1 : 0 ≤ s) (h2 : s < 256) : bits .or .u8 (192 + selV s) (lnV s d) = rdV s d := by
  have a := ln_bd s d
  have e : 192 + selV s = (12 + s / 16 % 4) * 16 := by unfold selV; omega
  unfold rdV
  rw [e, or_ln _ _ (by omega) (by omega) a.1 a.2]
/-- Two nibbles, bit by bit. -/
theorem nib_fall (a b : Int) (h1 : 0 ≤ a) (h2 : a < 16) (h3 : 0 ≤ b) (h4 : b < 16) :
    (bits .andNot .u8 a b != 0) = ((bt a 1 && !bt b 1) || (bt a 2 && !bt b 2) || (bt a 4 && !bt b 4) || (bt a 8 && !bt b 8)) := by
  have : ∀ a : Fin 16, ∀ b : Fin 16, (bits .andNot .u8 (a.val : Int) (b.val : Int) != 0) = ((bt a.val 1 && !bt b.val 1) || (bt a.val 2 && !bt b.val 2) || (bt a.val 4 && !bt b.val 4) || (bt a.val 8 && !bt b.val 8)) := by decide +kernel
  exact nib_all (P := fun a => (bits .andNot .u8 a b != 0) = ((bt a 1 && !bt b 1) || (bt a 2 && !bt b 2) || (bt a 4 && !bt b 4) || (bt a 8 && !bt b 8))) (fun a => nib_all (P := fun b => (bits .andNot .u8 a.val b != 0) = ((bt a.val 1 && !bt b 1) || (bt a.val 2 && !bt b 2) || (bt a.val 4 && !bt b 4) || (bt a.val 8 && !bt b 8))) (fun b => this a b) b h3 h4) a h1 h2
theorem nibs (a b c e : Bool) : bt (vB a 1 + vB b 2 + vB c 4 + vB e 8) 1 = a ∧ bt (vB a 1 + vB b 2 + vB c 4 + vB e 8) 2 = b ∧ bt (vB a 1 + vB b 2 + vB c 4 + vB e 8) 4 = c ∧ bt (vB a 1 + vB b 2 + vB c 4 + vB e 8) 8 = e := by
  cases a <;> cases b <;> cases c <;> cases e <;> decide
theorem fall_eq (s d s' d' : Int) : (bits .andNot .u8 (lnV s d) (lnV s' d') != 0) = flB s d s' d' := by
  have a := ln_bd s d
  have b := ln_bd s' d'
  rw [nib_fall _ _ a.1 a.2 b.1 b.2]
  have h := nibs (lnk s d 0) (lnk s d 1) (lnk s d 2) (lnk s d 3)
  have h' := nibs (lnk s' d' 0) (lnk s' d' 1) (lnk s' d' 2) (lnk s' d' 3)
  unfold lnV flB
  rw [h.1, h.2.1, h.2.2.1, h.2.2.2, h'.1, h'.2.1, h'.2.2.1, h'.2.2.2]
theorem fl_selV (s d s' d' : Int) : flB s d (selV s') d' = flB s d s' d' := by
  unfold flB; rw [lnk_selV, lnk_selV, lnk_selV, lnk_selV]
theorem fl_self (s d : Int) : flB s d s d = false := by
  unfold flB; cases lnk s d 0 <;> cases lnk s d 1 <;> cases lnk s d 2 <;> cases lnk s d 3 <;> rfl
theorem bt0 (k : Int) : bt 0 k = false := by unfold bt; simp
theorem lnk0 (s : Int) (n : Nat) : lnk s 0 n = true := by
  have e : ∀ k K, lnB s 0 k K = true := by intro k K; unfold lnB; rw [bt0, bt0]; cases bt s 16 <;> cases bt s 32 <;> rfl
  match n with
  | 0 => exact e _ _
  | 1 => exact e _ _
  | 2 => exact e _ _
  | _ + 3 => exact e _ _
theorem fl_none (s d : Int) : flB s d s 0 = false := by
  unfold flB; rw [lnk0, lnk0, lnk0, lnk0]; cases lnk s d 0 <;> cases lnk s d 1 <;> cases lnk s d 2 <;> cases lnk s d 3 <;> rfl
theorem ln_zero (s : Int) : lnV s 0 = 15 := by unfold lnV; rw [lnk0, lnk0, lnk0, lnk0]; rfl
/-- What is read, cut to the lines. -/
theorem rd_and (s d : Int) : bits .and .u8 (rdV s d) 15 = lnV s d := by
  have a := ln_bd s d
  have b := rd_bd s d
  rw [byte_all (P := fun a => bits .and .u8 a 15 = a % 16) (by decide +kernel) _ (by omega) b.2]
  unfold rdV selV; omega
theorem bt_bit (x : Int) (h : 0 ≤ x) (i : Nat) : bt x ((2 ^ i : Nat) : Int) = x.toNat.testBit i := by
  obtain ⟨n, rfl⟩ := Int.eq_ofNat_of_zero_le h
  rw [Nat.testBit_eq_decide_div_mod_eq]
  unfold bt
  rw [show ((n : Int) / ((2 ^ i : Nat) : Int) % 2) = ((n / 2 ^ i % 2 : Nat) : Int) by simp]
  rw [Int.toNat_natCast]
  by_cases e : n / 2 ^ i % 2 = 1
  · rw [e]; rfl
  · rw [show n / 2 ^ i % 2 = 0 by omega]; rfl
theorem and_bt (d x : Int) (h1 : 0 ≤ d) (h2 : d < 256) (h3 : 0 ≤ x) (h4 : x < 256) (i : Nat) : bt (bits .and .u8 d x) ((2 ^ i : Nat) : Int) = (bt d ((2 ^ i : Nat) : Int) && bt x ((2 ^ i : Nat) : Int)) := by
  rw [u8_and d x h1 h2 h3 h4, bt_bit _ (by omega), bt_bit _ h1, bt_bit _ h3, Int.toNat_natCast, Nat.testBit_and]
theorem and_bd (d x : Int) (h1 : 0 ≤ d) (h2 : d < 256) (h3 : 0 ≤ x) (h4 : x < 256) : 0 ≤ bits .and .u8 d x ∧ bits .and .u8 d x < 256 := by
  rw [u8_and d x h1 h2 h3 h4]
  have := @Nat.and_le_left d.toNat x.toNat
  omega
theorem lnk_and (s d x : Int) (h1 : 0 ≤ d) (h2 : d < 256) (h3 : 0 ≤ x) (h4 : x < 256) (n : Nat) : (lnk s d n && !lnk s (bits .and .u8 d x) n) = false := by
  have e : ∀ i j : Nat, (lnB s d ((2 ^ i : Nat) : Int) ((2 ^ j : Nat) : Int) && !lnB s (bits .and .u8 d x) ((2 ^ i : Nat) : Int) ((2 ^ j : Nat) : Int)) = false := by
    intro i j; unfold lnB; rw [and_bt d x h1 h2 h3 h4, and_bt d x h1 h2 h3 h4]
    cases bt s 16 <;> cases bt s 32 <;> cases bt d ((2 ^ i : Nat) : Int) <;> cases bt d ((2 ^ j : Nat) : Int) <;> cases bt x ((2 ^ i : Nat) : Int) <;> cases bt x ((2 ^ j : Nat) : Int) <;> rfl
  match n with
  | 0 => exact e 0 4
  | 1 => exact e 1 5
  | 2 => exact e 2 6
  | _ + 3 => exact e 3 7
theorem fl_and (s d x : Int) (h1 : 0 ≤ d) (h2 : d < 256) (h3 : 0 ≤ x) (h4 : x < 256) : flB s d s (bits .and .u8 d x) = false := by
  unfold flB; rw [lnk_and s d x h1 h2 h3 h4, lnk_and s d x h1 h2 h3 h4, lnk_and s d x h1 h2 h3 h4, lnk_and s d x h1 h2 h3 h4]; rfl
theorem and15 (x y : Int) (h1 : 0 ≤ x) (h2 : x < 256) (h3 : 0 ≤ y) (h4 : y < 256) : bits .and .u8 (bits .andNot .u8 x y) 15 = bits .andNot .u8 (x % 16) (y % 16) := by
  have a := @Nat.and_le_left x.toNat (255 - y.toNat)
  rw [u8_andNot x y h1 h2 h3 h4, u8_andNot _ _ (by omega) (by omega) (by omega) (by omega), u8_and _ _ (by omega) (by omega) (by omega) (by omega)]
  congr 1
  rw [Int.toNat_natCast, show (15 : Int).toNat = 15 from rfl, nat_mask4]
  rw [show (x % 16).toNat = x.toNat % 16 by omega, show (y % 16).toNat = y.toNat % 16 by omega]
  have b := @Nat.and_le_left (x.toNat % 16) (255 - y.toNat % 16)
  rw [← Nat.mod_eq_of_lt (show (x.toNat % 16) &&& (255 - y.toNat % 16) < 16 by omega)]
  rw [show (16 : Nat) = 2 ^ 4 from rfl, Nat.and_mod_two_pow, Nat.and_mod_two_pow]
  congr 1
  · omega
  · omega
/-- What both read, cut to the lines. -/
theorem fall_rd (s d s' d' : Int) : (bits .and .u8 (bits .andNot .u8 (rdV s d) (rdV s' d')) 15 != 0) = flB s d s' d' := by
  have a := rd_bd s d
  have b := rd_bd s' d'
  have c := ln_bd s d
  have e := ln_bd s' d'
  rw [and15 _ _ (by omega) a.2 (by omega) b.2, show rdV s d % 16 = lnV s d by unfold rdV selV; omega, show rdV s' d' % 16 = lnV s' d' by unfold rdV selV; omega]
  exact fall_eq s d s' d'
end Go.Proofs.Ytbpfeppgonhclaa
