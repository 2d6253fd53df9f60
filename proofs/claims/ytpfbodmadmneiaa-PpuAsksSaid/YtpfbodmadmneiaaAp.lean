/-
  Plain data: how often the signal comes on in a picture; no program, no condition.
-/
import Derived.Test.YtpfbodmadmneiaaSu
namespace Go.Proofs.Ytpfbodmadmneiaa
open Go.ChangeShapes Go.WideShapes Go.ChangeAt Go.RowKit
set_option linter.unusedVariables false
set_option linter.unusedSimpArgs false
/-- The signal in a line: what it is for all the line, whether it is seen, and what is selected. -/
def sgL (a vis b3 b4 b5 : Bool) (d : Nat) : Bool := a || (if vis then (if d < 20 then b5 else if d < 63 then false else b3) else b4)
def riseL (E a vis b3 b4 b5 : Bool) (d : Nat) : Nat := if sgL a vis b3 b4 b5 d && !(if d = 0 then E else sgL a vis b3 b4 b5 (d - 1)) then 1 else 0
def bN (b : Bool) : Nat := if b then 1 else 0
def lineF (E a vis b3 b4 b5 : Bool) : Nat := if vis then bN ((a || b5) && !E) + bN ((a || b3) && !a) else bN ((a || b4) && !E)
theorem line_sum (E a vis b3 b4 b5 : Bool) : sumN (riseL E a vis b3 b4 b5) 114 = lineF E a vis b3 b4 b5 := by
  revert E a vis b3 b4 b5
  unfold sumN
  decide +kernel
def sgQ (b6 b3 b4 b5 : Bool) (ly q : Nat) : Bool := sgL (b6 && decide (q / 114 = ly)) (decide (q / 114 < 144)) b3 b4 b5 (q % 114)
def riseQ (b6 b3 b4 b5 : Bool) (ly q : Nat) : Nat := if sgQ b6 b3 b4 b5 ly q && !sgQ b6 b3 b4 b5 ly ((q + 17555) % 17556) then 1 else 0
/-- What the signal is at the end of the line ahead. -/
def endQ (b6 b3 b4 : Bool) (ly l : Nat) : Bool := (b6 && decide ((l + 153) % 154 = ly)) || (if decide ((l + 153) % 154 < 144) then b3 else b4)
def lineQ (b6 b3 b4 b5 : Bool) (ly l : Nat) : Nat := lineF (endQ b6 b3 b4 ly l) (b6 && decide (l = ly)) (decide (l < 144)) b3 b4 b5
theorem rise_line (b6 b3 b4 b5 : Bool) (ly l d : Nat) (hl : l < 154) (hd : d < 114) : riseQ b6 b3 b4 b5 ly (114 * l + d) = riseL (endQ b6 b3 b4 ly l) (b6 && decide (l = ly)) (decide (l < 144)) b3 b4 b5 d := by
  have e1 : (114 * l + d) / 114 = l := by omega
  have e2 : (114 * l + d) % 114 = d := by omega
  have e3 : sgQ b6 b3 b4 b5 ly (114 * l + d) = sgL (b6 && decide (l = ly)) (decide (l < 144)) b3 b4 b5 d := by unfold sgQ; rw [e1, e2]
  have e4 : sgQ b6 b3 b4 b5 ly ((114 * l + d + 17555) % 17556) = if d = 0 then endQ b6 b3 b4 ly l else sgL (b6 && decide (l = ly)) (decide (l < 144)) b3 b4 b5 (d - 1) := by
    by_cases h : d = 0
    · rw [if_pos h]
      have f1 : (114 * l + d + 17555) % 17556 / 114 = (l + 153) % 154 := by omega
      have f2 : (114 * l + d + 17555) % 17556 % 114 = 113 := by omega
      unfold sgQ endQ sgL
      rw [f1, f2, if_neg (show ¬ (113 : Nat) < 20 by decide), if_neg (show ¬ (113 : Nat) < 63 by decide)]
    · rw [if_neg h]
      have f1 : (114 * l + d + 17555) % 17556 / 114 = l := by omega
      have f2 : (114 * l + d + 17555) % 17556 % 114 = d - 1 := by omega
      unfold sgQ
      rw [f1, f2]
  unfold riseQ riseL
  rw [e3, e4]
theorem all_rise (b6 b3 b4 b5 : Bool) (ly : Nat) : sumN (riseQ b6 b3 b4 b5 ly) 17556 = sumN (lineQ b6 b3 b4 b5 ly) 154 :=
  (sum_lines _ 154).trans (sum_congr 154 (fun l hl => (sum_congr 114 (fun d hd => rise_line b6 b3 b4 b5 ly l d hl hd)).trans (line_sum _ _ _ _ _ _)))
def okN (b6 b3 b4 b5 : Bool) (n : Nat) : Bool :=
  match b6, b5, b4, b3 with
  | false, false, false, false => n == 0
  | true, false, false, false => n == 1
  | false, false, false, true => n == 144
  | false, true, false, false => n == 144
  | false, false, true, false => n == 1
  | false, false, true, true => n == 144
  | _, _, _, _ => decide (0 < n) && decide (n ≤ 300)
theorem low_ok (b3 b4 b5 : Bool) : okN false b3 b4 b5 (sumN (lineQ false b3 b4 b5 200) 154) = true := by
  revert b3 b4 b5
  unfold sumN
  decide +kernel
theorem high_ok (b3 b4 b5 : Bool) (ly : Fin 154) : okN true b3 b4 b5 (sumN (lineQ true b3 b4 b5 ly.val) 154) = true := by
  revert b3 b4 b5 ly
  unfold sumN
  decide +kernel
theorem line_low (b3 b4 b5 : Bool) (ly : Nat) : lineQ false b3 b4 b5 ly = lineQ false b3 b4 b5 200 := by
  funext l
  unfold lineQ endQ
  simp only [Bool.false_and]
theorem line_none (b3 b4 b5 : Bool) (ly : Nat) (h : 154 ≤ ly) : sumN (lineQ true b3 b4 b5 ly) 154 = sumN (lineQ false b3 b4 b5 200) 154 := sum_congr 154 (fun l hl => by
  have e1 : decide (l = ly) = false := by simp; omega
  have e2 : decide ((l + 153) % 154 = ly) = false := by simp; omega
  unfold lineQ endQ
  rw [e1, e2]
  simp only [Bool.and_false, Bool.false_and])
end Go.Proofs.Ytpfbodmadmneiaa
