/-
  Plain data: Stat is asked for where the signal comes on; no program, no condition.
-/
import Derived.Test.YtpfbodmadmneiaaAp
namespace Go.Proofs.Ytpfbodmadmneiaa
open Go.ChangeShapes Go.WideShapes Go.ChangeAt Go.RowKit
set_option linter.unusedVariables false
set_option linter.unusedSimpArgs false
theorem sig_q {m : M} (h : Ok m) (hc : 128 ≤ m 8352) (p : Nat) (hp : pos m = p) (ly : Nat) (hy : m 8357 = ly) (b6 b3 b4 b5 : Bool) (h6 : decide (bit (m 8353) 6 = 1) = b6) (h3 : decide (bit (m 8353) 3 = 1) = b3) (h4 : decide (bit (m 8353) 4 = 1) = b4) (h5 : decide (bit (m 8353) 5 = 1) = b5) :
    sigM m = sgQ b6 b3 b4 b5 ly p := by
  have bd := pos_bd h
  obtain ⟨e1, e2⟩ := pos_line h
  have hm : modeV (m 8352) (m 8356) (m 8363) = (modeN p : Nat) := mode_nat h hc p hp
  have el : decide (m 8356 = m 8357) = decide (p / 114 = ly) := by
    rw [e1, hp, hy]
    by_cases g : p / 114 = ly
    · have : (p : Int) / 114 = (ly : Int) := by omega
      simp [g, this]
    · have : ¬ (p : Int) / 114 = (ly : Int) := by omega
      simp [g, this]
  unfold sigM sigV
  rw [hm, h6, h3, h4, h5, el]
  have hon : decide (128 ≤ m 8352) = true := by simpa using hc
  rw [hon]
  unfold sgQ sgL modeN
  rw [hp] at bd
  by_cases v : p / 114 < 144
  · have v2 : ¬ 16416 ≤ p := by omega
    rw [if_neg v2, show decide (p / 114 < 144) = true by simpa using v]
    by_cases d1 : p % 114 < 20
    · rw [if_pos d1, if_pos d1]; cases b6 <;> cases b3 <;> cases b4 <;> cases b5 <;> simp
    · rw [if_neg d1, if_neg d1]
      by_cases d2 : p % 114 < 63
      · rw [if_pos d2, if_pos d2]; cases b6 <;> cases b3 <;> cases b4 <;> cases b5 <;> simp
      · rw [if_neg d2, if_neg d2]; cases b6 <;> cases b3 <;> cases b4 <;> cases b5 <;> simp
  · have v2 : 16416 ≤ p := by omega
    rw [if_pos v2, show decide (p / 114 < 144) = false by simpa using v]
    cases b6 <;> cases b3 <;> cases b4 <;> cases b5 <;> simp
theorem turn_sig (m : M) (hc : 128 ≤ m 8352) : sigM (turnM m) = sigM (tickM m) := by
  have e : tickM m = sgM (turnM m) := by unfold tickM; rw [if_pos hc]
  have e1 : ∀ o, o ≠ 8366 → sgM (turnM m) o = turnM m o := fun o ho => upd_ne _ _ _ _ ho
  rw [e]
  unfold sigM
  rw [e1 _ (by omega), e1 _ (by omega), e1 _ (by omega), e1 _ (by omega), e1 _ (by omega)]
theorem turn_act (m : M) : turnM m 8366 = m 8366 := by
  have e : midM m 8366 = m 8366 := mid_at m _ (by omega) (by omega) (by omega)
  unfold turnM
  split
  · rw [next_at _ _ (by omega) (by omega) (by omega) (by omega)]; exact e
  · exact e
theorem tf_zero (b : Bool) : (tf b = 0) ↔ b = false := by cases b <;> simp [tf]
theorem tick_stat {m : M} (h : Ok m) (hc : 128 ≤ m 8352) (ha : m 8366 = tf (sigM m)) (p q : Nat) (hp : pos m = p) (hq : q = (p + 1) % 17556) (ly : Nat) (hy : m 8357 = ly) (b6 b3 b4 b5 : Bool) (h6 : decide (bit (m 8353) 6 = 1) = b6) (h3 : decide (bit (m 8353) 3 = 1) = b3) (h4 : decide (bit (m 8353) 4 = 1) = b4) (h5 : decide (bit (m 8353) 5 = 1) = b5) :
    (bits .and .u8 (tickR m) 2 != 0) = decide (riseQ b6 b3 b4 b5 ly q = 1) := by
  have bd := pos_bd h
  rw [hp] at bd
  have k := ask_cases (turnM m)
  have t := turnR_bd m
  have l := lies_tick m
  have hpq : pos (tickM m) = q := by rw [pos_tick h hc, hp, hq]; omega
  have s1 := sig_q (ok_tick h) (by rw [l _ (by omega) (by omega)]; exact hc) q hpq ly (by rw [l _ (by omega) (by omega)]; exact hy) b6 b3 b4 b5 (by rw [l _ (by omega) (by omega)]; exact h6) (by rw [l _ (by omega) (by omega)]; exact h3) (by rw [l _ (by omega) (by omega)]; exact h4) (by rw [l _ (by omega) (by omega)]; exact h5)
  have s0 := sig_q h hc p hp ly hy b6 b3 b4 b5 h6 h3 h4 h5
  rw [(and1 _ (by rw [tickR_sum hc]; omega)).2, tickR_sum hc]
  have ek : askM (turnM m) = if sgQ b6 b3 b4 b5 ly q = true ∧ sgQ b6 b3 b4 b5 ly p = false then 2 else 0 := by
    unfold askM
    rw [turn_sig m hc, s1, turn_act, ha, s0]
    simp only [tf_zero]
  have er : riseQ b6 b3 b4 b5 ly q = if sgQ b6 b3 b4 b5 ly q = true ∧ sgQ b6 b3 b4 b5 ly p = false then 1 else 0 := by
    unfold riseQ
    have : (q + 17555) % 17556 = p := by omega
    rw [this]
    cases sgQ b6 b3 b4 b5 ly q <;> cases sgQ b6 b3 b4 b5 ly p <;> rfl
  rw [ek, er]
  by_cases g : sgQ b6 b3 b4 b5 ly q = true ∧ sgQ b6 b3 b4 b5 ly p = false
  · rw [if_pos g, if_pos g]; simp; omega
  · rw [if_neg g, if_neg g]; simp; omega
theorem it_act {m : M} (hc : 128 ≤ m 8352) (ha : m 8366 = tf (sigM m)) : ∀ t, itM t m 8366 = tf (sigM (itM t m))
  | 0 => by rw [it_zero]; exact ha
  | t + 1 => by rw [it_succ]; exact tick_act _ (by rw [it_ctl]; exact hc)
theorem sg_act (m : M) : sgM m 8366 = tf (sigM (sgM m)) := by
  have e1 : ∀ o, o ≠ 8366 → sgM m o = m o := fun o ho => upd_ne _ _ _ _ ho
  have : sigM (sgM m) = sigM m := by
    unfold sigM
    rw [e1 _ (by omega), e1 _ (by omega), e1 _ (by omega), e1 _ (by omega), e1 _ (by omega)]
  rw [this]; exact upd_same _ _ _
theorem riseQ_le (b6 b3 b4 b5 : Bool) (ly q : Nat) : riseQ b6 b3 b4 b5 ly q ≤ 1 := by unfold riseQ; split <;> omega
/-- The start of PpuAsks. -/
theorem write_ly (m : M) (y : Int) (h1 : m 8352 < 128) : writeM m 65349 y = sgM (upd m 8357 y) := by
  have hm : modeM m = 0 := by unfold modeM modeV; rw [if_neg (by omega)]
  unfold writeM
  rw [hm, if_neg (by decide)]
  unfold putM
  rw [if_pos (by decide), show regno 65349 = 5 from by decide]
  unfold setM
  rw [if_neg (by decide), if_neg (by decide), if_neg (by decide)]
theorem write_st (m : M) (y : Int) (h1 : m 8352 < 128) : writeM m 65345 y = sgM (upd m 8353 (y / 8 % 16 * 8)) := by
  have hm : modeM m = 0 := by unfold modeM modeV; rw [if_neg (by omega)]
  unfold writeM
  rw [hm, if_neg (by decide)]
  unfold putM
  rw [if_pos (by decide), show regno 65345 = 1 from by decide]
  unfold setM
  rw [if_pos rfl]
def asM (y h : Int) : M := writeM (writeM (writeM zeroM 65349 y) 65345 h) 65344 128
theorem as_eq (y h : Int) : asM y h = sgM (upd (sgM (upd (sgM (upd zeroM 8357 y)) 8353 (h / 8 % 16 * 8))) 8352 128) := by
  unfold asM
  rw [write_ly zeroM y (by decide)]
  have e1 : sgM (upd zeroM 8357 y) 8352 < 128 := by rw [sg_at _ _ (by omega), upd_ne _ _ _ _ (by omega)]; decide
  rw [write_st _ h e1]
  have e2 : sgM (upd (sgM (upd zeroM 8357 y)) 8353 (h / 8 % 16 * 8)) 8352 < 128 := by rw [sg_at _ _ (by omega), upd_ne _ _ _ _ (by omega)]; exact e1
  rw [write_ctl _ _ e2]
theorem as_ok (y h : Int) (y1 : 0 ≤ y ∧ y < 256) (h1 : 0 ≤ h ∧ h < 256) : Ok (asM y h) := ok_write (ok_write (ok_write ok_zero _ _ y1) _ _ h1) _ _ (by decide)
theorem as_on (y h : Int) : asM y h 8352 = 128 := by rw [as_eq, sg_at _ _ (by omega), upd_same]
theorem as_ly (y h : Int) : asM y h 8357 = y := by
  rw [as_eq, sg_at _ _ (by omega), upd_ne _ _ _ _ (by omega), sg_at _ _ (by omega), upd_ne _ _ _ _ (by omega), sg_at _ _ (by omega), upd_same]
theorem as_st (y h : Int) : asM y h 8353 = h / 8 % 16 * 8 := by
  rw [as_eq, sg_at _ _ (by omega), upd_ne _ _ _ _ (by omega), sg_at _ _ (by omega), upd_same]
theorem as_pos (y h : Int) : pos (asM y h) = 0 := by
  rw [as_eq, sg_pos]
  unfold pos
  rw [upd_ne _ _ _ _ (by omega), upd_ne _ _ _ _ (by omega), sg_at _ _ (by omega), sg_at _ _ (by omega), upd_ne _ _ _ _ (by omega), upd_ne _ _ _ _ (by omega), sg_at _ _ (by omega), sg_at _ _ (by omega), upd_ne _ _ _ _ (by omega), upd_ne _ _ _ _ (by omega)]
  rfl
theorem as_act (y h : Int) : asM y h 8366 = tf (sigM (asM y h)) := by rw [as_eq]; exact sg_act _
end Go.Proofs.Ytpfbodmadmneiaa
