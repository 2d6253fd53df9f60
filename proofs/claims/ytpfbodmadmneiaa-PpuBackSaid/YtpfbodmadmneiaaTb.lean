/-
  Plain data: what is read of a unit, and what a write does; no program, no condition.
-/
import Derived.Test.YtpfbodmadmneiaaTk
namespace Go.Proofs.Ytpfbodmadmneiaa
open Go.ChangeShapes Go.WideShapes Go.ChangeAt Go.RowKit
set_option linter.unusedVariables false
set_option linter.unusedSimpArgs false
def isV (a : Int) : Bool := decide (32768 ≤ a) && decide (a < 40960)
def isO (a : Int) : Bool := decide (65024 ≤ a) && decide (a < 65184)
def isR (a : Int) : Bool := decide (65344 ≤ a) && (decide (a ≤ 65355) && decide (a ≠ 65350))
def regno (a : Int) : Nat := if a < 65350 then (a - 65344).toNat else (a - 65345).toNat
def hidV (v a : Int) : Bool := if v = 2 then isO a else if v = 3 then isO a || isV a else false
def modeM (m : M) : Int := modeV (m 8352) (m 8356) (m 8363)
def statV (c st L ly d : Int) : Int := st + 128 + modeV c L d + (if 128 ≤ c ∧ L = ly then 4 else 0)
def statM (m : M) : Int := statV (m 8352) (m 8353) (m 8356) (m 8357) (m 8363)
def peekM (m : M) (a : Int) : Int :=
  if isV a = true then m (a - 32768).toNat else if isO a = true then m (8192 + (a - 65024).toNat) else if isR a = true then (if regno a = 1 then statM m else m (8352 + regno a)) else 255
def readM (m : M) (a : Int) : Int := if hidV (modeM m) a = true then 255 else peekM m a
def ctlM (m : M) (x : Int) : M := if 128 ≤ m 8352 ∧ x < 128 then upd (upd (upd (upd m 8352 x) 8356 0) 8363 0) 8364 0 else upd m 8352 x
def setM (m : M) (n : Nat) (x : Int) : M := if n = 1 then upd m 8353 (x / 8 % 16 * 8) else if n = 4 then m else if n = 0 then ctlM m x else upd m (8352 + n) x
def putM (m : M) (a x : Int) : M :=
  if isR a = true then sgM (setM m (regno a) x) else if isV a = true then upd m (a - 32768).toNat x else if isO a = true then upd m (8192 + (a - 65024).toNat) x else m
def putR (m : M) (a x : Int) : Int := if isR a = true then askM (setM m (regno a) x) else 0
def writeM (m : M) (a x : Int) : M := if hidV (modeM m) a = true then m else putM m a x
def writeR (m : M) (a x : Int) : Int := if hidV (modeM m) a = true then 0 else putR m a x
def sprM (m : M) (n x : Int) : M := if 0 ≤ n ∧ n < 160 then upd m (8192 + n.toNat) x else m
theorem regno_bd (a : Int) (h : isR a = true) : regno a < 11 := by
  unfold isR at h
  simp at h
  unfold regno
  split <;> omega
theorem ok_ctl {m : M} (h : Ok m) (x : Int) (h1 : 0 ≤ x ∧ x < 256) : Ok (ctlM m x) := by
  have ha : Ok (upd m 8352 x) := ok_upd h 8352 x h1 (by omega) (by omega)
  unfold ctlM
  split
  · obtain ⟨a, b, c, d, e, f, g, i⟩ := ha
    have n : ∀ k, k ≠ 8356 → k ≠ 8363 → k ≠ 8364 → upd (upd (upd (upd m 8352 x) 8356 0) 8363 0) 8364 0 k = upd m 8352 x k := fun k h1 h2 h3 => by rw [upd_ne _ _ _ _ h3, upd_ne _ _ _ _ h2, upd_ne _ _ _ _ h1]
    have n1 : upd (upd (upd (upd m 8352 x) 8356 0) 8363 0) 8364 0 8356 = 0 := by rw [upd_ne _ _ _ _ (by omega), upd_ne _ _ _ _ (by omega), upd_same]
    have n2 : upd (upd (upd (upd m 8352 x) 8356 0) 8363 0) 8364 0 8363 = 0 := by rw [upd_ne _ _ _ _ (by omega), upd_same]
    have n3 : upd (upd (upd (upd m 8352 x) 8356 0) 8363 0) 8364 0 8364 = 0 := by rw [upd_same]
    refine ⟨fun o p1 p2 => ?_, by rw [n _ (by omega) (by omega) (by omega)]; exact b, by rw [n _ (by omega) (by omega) (by omega)]; exact c, by rw [n1]; omega, by rw [n2]; omega, by rw [n1, n2, n3]; decide, by rw [n _ (by omega) (by omega) (by omega)]; exact g, fun o p1 p2 => by rw [n _ (by omega) (by omega) (by omega)]; exact i o p1 p2⟩
    by_cases q1 : o = 8356
    · subst q1; rw [n1]; omega
    by_cases q2 : o = 8363
    · subst q2; rw [n2]; omega
    by_cases q3 : o = 8364
    · subst q3; rw [n3]; omega
    rw [n o q1 q2 q3]; exact a o p1 p2
  · exact ha
theorem ok_set {m : M} (h : Ok m) (n : Nat) (hn : n < 11) (x : Int) (h1 : 0 ≤ x ∧ x < 256) : Ok (setM m n x) := by
  unfold setM
  by_cases a1 : n = 1
  · rw [if_pos a1]; exact ok_upd h _ _ (by omega) (by omega) (by omega)
  · rw [if_neg a1]
    by_cases a4 : n = 4
    · rw [if_pos a4]; exact h
    · rw [if_neg a4]
      by_cases a0 : n = 0
      · rw [if_pos a0]; exact ok_ctl h x h1
      · rw [if_neg a0]; exact ok_upd h _ _ h1 (by omega) (by omega)
theorem ok_put {m : M} (h : Ok m) (a x : Int) (h1 : 0 ≤ x ∧ x < 256) : Ok (putM m a x) := by
  unfold putM
  by_cases hr : isR a = true
  · rw [if_pos hr]; exact ok_sg (ok_set h _ (regno_bd a hr) x h1)
  · rw [if_neg hr]
    by_cases hv : isV a = true
    · rw [if_pos hv]
      unfold isV at hv
      simp at hv
      exact ok_upd h _ _ h1 (by omega) (by omega)
    · rw [if_neg hv]
      by_cases ho : isO a = true
      · rw [if_pos ho]
        unfold isO at ho
        simp at ho
        exact ok_upd h _ _ h1 (by omega) (by omega)
      · rw [if_neg ho]; exact h
theorem ok_write {m : M} (h : Ok m) (a x : Int) (h1 : 0 ≤ x ∧ x < 256) : Ok (writeM m a x) := by
  unfold writeM
  split
  · exact h
  · exact ok_put h a x h1
theorem ok_spr {m : M} (h : Ok m) (n x : Int) (h1 : 0 ≤ x ∧ x < 256) : Ok (sprM m n x) := by
  unfold sprM
  split
  · exact ok_upd h _ _ h1 (by omega) (by omega)
  · exact h
end Go.Proofs.Ytpfbodmadmneiaa
