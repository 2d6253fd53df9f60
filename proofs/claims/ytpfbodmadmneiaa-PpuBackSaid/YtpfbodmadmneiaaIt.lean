/-
  Plain data: a unit some cycles later: where it is; no program, no condition.
-/
import Derived.Test.YtpfbodmadmneiaaTb
namespace Go.Proofs.Ytpfbodmadmneiaa
open Go.ChangeShapes Go.WideShapes Go.ChangeAt Go.RowKit
set_option linter.unusedVariables false
set_option linter.unusedSimpArgs false
def itM : Nat → M → M
  | 0, m => m
  | t + 1, m => tickM (itM t m)
theorem it_zero (m : M) : itM 0 m = m := rfl
theorem it_succ (t : Nat) (m : M) : itM (t + 1) m = tickM (itM t m) := rfl
theorem it_add (m : M) (s : Nat) : ∀ t, itM (t + s) m = itM t (itM s m)
  | 0 => by rw [Nat.zero_add]; rfl
  | t + 1 => by rw [show t + 1 + s = (t + s) + 1 by omega]; exact congrArg tickM (it_add m s t)
theorem it_ok {m : M} (h : Ok m) : ∀ t, Ok (itM t m)
  | 0 => h
  | t + 1 => ok_tick (it_ok h t)
theorem it_lies (m : M) : ∀ t, Lies m (itM t m)
  | 0 => Lies.refl m
  | t + 1 => (it_lies m t).trans (lies_tick _)
theorem it_ctl (m : M) (t : Nat) : itM t m 8352 = m 8352 := it_lies m t 8352 (by omega) (by omega)
theorem turn_dot (m : M) : turnM m 8363 = if m 8363 + 1 = 114 then 0 else m 8363 + 1 := by
  unfold turnM
  split
  · exact next_dot _
  · exact mid_dot m
theorem turn_line (m : M) : turnM m 8356 = if m 8363 + 1 = 114 then (if m 8356 + 1 = 154 then 0 else m 8356 + 1) else m 8356 := by
  unfold turnM
  split
  · rw [next_line, mid_line]
  · exact mid_line m
theorem tick_dot (m : M) (h : 128 ≤ m 8352) : tickM m 8363 = if m 8363 + 1 = 114 then 0 else m 8363 + 1 := by
  unfold tickM
  rw [if_pos h]
  exact (upd_ne _ _ _ _ (by omega)).trans (turn_dot m)
theorem tick_line (m : M) (h : 128 ≤ m 8352) : tickM m 8356 = if m 8363 + 1 = 114 then (if m 8356 + 1 = 154 then 0 else m 8356 + 1) else m 8356 := by
  unfold tickM
  rw [if_pos h]
  exact (upd_ne _ _ _ _ (by omega)).trans (turn_line m)
theorem tick_act (m : M) (h : 128 ≤ m 8352) : tickM m 8366 = tf (sigM (tickM m)) := by
  have e : tickM m = sgM (turnM m) := by unfold tickM; rw [if_pos h]
  have e1 : ∀ o, o ≠ 8366 → sgM (turnM m) o = turnM m o := fun o ho => upd_ne _ _ _ _ ho
  rw [e]
  have e2 : sigM (sgM (turnM m)) = sigM (turnM m) := by
    unfold sigM
    rw [e1 _ (by omega), e1 _ (by omega), e1 _ (by omega), e1 _ (by omega), e1 _ (by omega)]
  rw [e2]
  exact upd_same _ _ _
/-- The place in the picture. -/
def pos (m : M) : Int := 114 * m 8356 + m 8363
theorem pos_bd {m : M} (h : Ok m) : 0 ≤ pos m ∧ pos m < 17556 := by
  have a := h.line
  have b := h.dot
  have c := h.byte 8356 (by decide) (by decide)
  have d := h.byte 8363 (by decide) (by decide)
  unfold pos
  omega
theorem pos_line {m : M} (h : Ok m) : m 8356 = pos m / 114 ∧ m 8363 = pos m % 114 := by
  have b := h.dot
  have d := h.byte 8363 (by decide) (by decide)
  unfold pos
  omega
theorem pos_tick {m : M} (h : Ok m) (hc : 128 ≤ m 8352) : pos (tickM m) = (pos m + 1) % 17556 := by
  have a := h.line
  have b := h.dot
  have c := h.byte 8356 (by decide) (by decide)
  have d := h.byte 8363 (by decide) (by decide)
  unfold pos
  rw [tick_dot m hc, tick_line m hc]
  split
  · split <;> omega
  · omega
theorem pos_it {m : M} (h : Ok m) (hc : 128 ≤ m 8352) : ∀ t : Nat, pos (itM t m) = (pos m + t) % 17556
  | 0 => by
    have := pos_bd h
    show pos m = _
    simp only [Int.natCast_zero, Int.add_zero]
    omega
  | t + 1 => by
    rw [it_succ, pos_tick (it_ok h t) (by rw [it_ctl]; exact hc), pos_it h hc t]
    push_cast
    omega
/-- The mode, by the place. -/
def modeP (p : Int) : Int := if 16416 ≤ p then 1 else if p % 114 < 20 then 2 else if p % 114 < 63 then 3 else 0
theorem mode_pos {m : M} (h : Ok m) (hc : 128 ≤ m 8352) : modeM m = modeP (pos m) := by
  obtain ⟨e1, e2⟩ := pos_line h
  unfold modeM modeV modeP
  rw [if_pos hc, ← e2]
  have q : (144 ≤ m 8356) ↔ 16416 ≤ pos m := by rw [e1]; omega
  by_cases g : 144 ≤ m 8356
  · rw [if_pos g, if_pos (q.1 g)]
  · rw [if_neg g, if_neg (fun x => g (q.2 x))]
/-- Switched on from its beginning. -/
theorem write_ctl (m : M) (x : Int) (h1 : m 8352 < 128) : writeM m 65344 x = sgM (upd m 8352 x) := by
  have hh : hidV (modeM m) 65344 = false := by
    have : modeM m = 0 := by unfold modeM modeV; rw [if_neg (by omega)]
    rw [this]; rfl
  unfold writeM
  rw [if_neg (by rw [hh]; decide)]
  unfold putM
  rw [if_pos (by decide), show regno 65344 = 0 from by decide]
  unfold setM
  rw [if_neg (by decide), if_neg (by decide), if_pos rfl]
  unfold ctlM
  rw [if_neg (by omega)]
theorem sg_at (m : M) (o : Nat) (h : o ≠ 8366) : sgM m o = m o := upd_ne _ _ _ _ h
theorem sg_pos (m : M) : pos (sgM m) = pos m := by unfold pos; rw [sg_at _ _ (by omega), sg_at _ _ (by omega)]
def awM : M := itM 114 (writeM zeroM 65344 128)
theorem aw0 : writeM zeroM 65344 128 = sgM (upd zeroM 8352 128) := write_ctl zeroM 128 (by decide)
theorem aw_ok0 : Ok (writeM zeroM 65344 128) := ok_write ok_zero _ _ (by decide)
theorem aw_on : writeM zeroM 65344 128 8352 = 128 := by rw [aw0, sg_at _ _ (by omega), upd_same]
theorem aw_pos : pos (writeM zeroM 65344 128) = 0 := by
  rw [aw0, sg_pos]
  unfold pos
  rw [upd_ne _ _ _ _ (by omega), upd_ne _ _ _ _ (by omega)]
  rfl
theorem aw_ok : Ok awM := it_ok aw_ok0 114
theorem aw_pos2 : pos awM = 114 := by
  unfold awM
  rw [pos_it aw_ok0 (by rw [aw_on]; decide), aw_pos]
  decide
theorem aw_line : awM 8356 = 1 := by rw [(pos_line aw_ok).1, aw_pos2]; decide
theorem aw_dot : awM 8363 = 0 := by rw [(pos_line aw_ok).2, aw_pos2]; decide
theorem aw_mode : modeM awM = 2 := by
  rw [mode_pos aw_ok (by unfold awM; rw [it_ctl, aw_on]; decide), aw_pos2]
  decide
theorem aw_read : readM awM 65348 = 1 := by
  unfold readM
  rw [aw_mode, if_neg (by decide)]
  unfold peekM
  rw [if_neg (by decide), if_neg (by decide), if_pos (by decide), show regno 65348 = 4 from by decide, if_neg (by decide)]
  exact aw_line
attribute [irreducible] itM
end Go.Proofs.Ytpfbodmadmneiaa
