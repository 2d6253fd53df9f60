/-
  The walk through TimerCounts: for every numbers; no condition but that the table lies as it is laid.
-/
import Derived.Test.YtjjmnjkmfkcdoaaDoorOpn
import Derived.Test.YtjjmnjkmfkcdoaaDoorAwk
import Derived.Deep.Cut
import Derived.Deep.LoopGhost
import Derived.BigQuiet
namespace Go.Proofs.YtjjmnjkmfkcdoaaDoor
open Go.ChangeShapes Go.WideShapes Go.ChangeAt Go.RowKit
set_option linter.unusedVariables false
set_option linter.unusedSimpArgs false
set_option maxRecDepth 100000
/-- How far a timer counts in so many cycles of the counter. -/
def evV (k : Int) : Int := if k % 4 = 0 then 256 else if k % 4 = 1 then 4 else if k % 4 = 2 then 16 else 64
/-- The timer behind f cycles from 0, with what was counted. -/
def cntV (f : Nat) (l tac : Int) : TV := ⟨4 * (f : Int) % 65536, l, 0, tac, false⟩
theorem sig_cnt (f : Nat) (k : Int) (h : k / 4 % 2 = 1) : sigV (4 * (f : Int) % 65536) k = decide ((f : Int) / (evV k / 2) % 2 = 1) := by
  unfold sigV bitV evV
  rw [h]
  rcases (by omega : k % 4 = 0 ∨ k % 4 = 1 ∨ k % 4 = 2 ∨ k % 4 = 3) with g | g | g | g
  all_goals
    rw [g]
    simp
    congr 1
    omega
theorem cnt_off (f : Nat) (l tac : Int) (h : tac / 4 % 2 = 0) : tickV (cntV f l tac) = cntV (f + 1) l tac := by
  unfold tickV preV cntV
  rw [fall_not _ _ (Or.inl (sig_0 _ _ h))]
  simp
  omega
/-- Whether the timer counts in the cycle behind f. -/
def hitV (f : Nat) (tac : Int) : Bool := decide (((f : Int) + 1) % evV tac = 0)
theorem ev_cases (k : Int) : evV k = 256 ∨ evV k = 4 ∨ evV k = 16 ∨ evV k = 64 := by
  unfold evV; repeat' split
  all_goals omega
theorem cnt_on (f : Nat) (l tac : Int) (h : tac / 4 % 2 = 1) : tickV (cntV f l tac) = if ((f : Int) + 1) % evV tac = 0 then { cntV (f + 1) ((l + 1) % 256) tac with o := if (l + 1) % 256 = 0 then true else false } else cntV (f + 1) l tac := by
  have e1 := sig_cnt f tac h
  have e2 := sig_cnt (f + 1) tac h
  have ec : (4 * (f : Int) % 65536 + 4) % 65536 = 4 * ((f + 1 : Nat) : Int) % 65536 := by omega
  have ex := ev_cases tac
  unfold tickV preV cntV
  simp only [Bool.false_eq_true, if_false]
  rw [ec]
  generalize evV tac = E at e1 e2 ex ⊢
  by_cases g : ((f : Int) + 1) % E = 0
  · rw [if_pos g]
    have s1 : sigV (4 * (f : Int) % 65536) tac = true := by rw [e1]; apply decide_eq_true; rcases ex with rfl | rfl | rfl | rfl <;> omega
    have s2 : sigV (4 * ((f + 1 : Nat) : Int) % 65536) tac = false := by rw [e2]; apply decide_eq_false; rcases ex with rfl | rfl | rfl | rfl <;> omega
    rw [s1, fall_yes _ s2]
  · rw [if_neg g]
    refine fall_not _ _ ?_
    dsimp only
    rw [e1, e2]
    by_cases q : (f : Int) / (E / 2) % 2 = 1
    · right; apply decide_eq_true; rcases ex with rfl | rfl | rfl | rfl <;> omega
    · left; exact decide_eq_false q
theorem cnt_step (f : Nat) (l tc c1 E : Int) (hc : c1 = 4 * (f : Int) % 65536) (hE : evV tc = E) (hl : 0 ≤ l ∧ l < 256) (ht : tc / 4 % 2 = 0 ∨ tc / 4 % 2 = 1) :
    ∃ (c2 l2 d : Int) (o2 : Bool), tickV ⟨c1, l, 0, tc, false⟩ = ⟨c2, l2, 0, tc, o2⟩ ∧ c2 = 4 * ((f + 1 : Nat) : Int) % 65536 ∧ (0 ≤ l2 ∧ l2 < 256) ∧ IntKind.u8.wrap (l2 - l) = d ∧ 0 ≤ d ∧ d ≤ 1 ∧ (o2 = true → l2 = 0) ∧ (tc / 4 % 2 = 1 → d = ((f : Int) + 1) / E - (f : Int) / E) ∧ (tc / 4 % 2 = 0 → d = 0) := by
  have ex := ev_cases tc
  rw [hE] at ex
  subst hc
  rcases ht with h | h
  · have e := cnt_off f l tc h
    unfold cntV at e
    exact ⟨_, l, 0, false, e, rfl, hl, by rw [IntKind.wrap_u8']; omega, by omega, by omega, fun q => absurd q (by decide), fun q => by omega, fun _ => rfl⟩
  · have e := cnt_on f l tc h
    unfold cntV at e
    rw [hE] at e
    by_cases g : ((f : Int) + 1) % E = 0
    · rw [if_pos g] at e
      refine ⟨_, (l + 1) % 256, 1, _, e, rfl, by omega, by rw [IntKind.wrap_u8']; omega, by omega, by omega, fun q => ?_, fun _ => ?_, fun q => by omega⟩
      · by_cases g2 : (l + 1) % 256 = 0
        · exact g2
        · rw [if_neg g2] at q; exact absurd q (by decide)
      · rcases ex with rfl | rfl | rfl | rfl <;> omega
    · rw [if_neg g] at e
      refine ⟨_, l, 0, _, e, rfl, hl, by rw [IntKind.wrap_u8']; omega, by omega, by omega, fun q => absurd q (by decide), fun _ => ?_, fun _ => rfl⟩
      rcases ex with rfl | rfl | rfl | rfl <;> omega
end Go.Proofs.YtjjmnjkmfkcdoaaDoor
