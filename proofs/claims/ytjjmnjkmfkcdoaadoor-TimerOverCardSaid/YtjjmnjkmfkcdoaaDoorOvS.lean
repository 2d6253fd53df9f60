/-
  The walk through TimerOver: for every numbers; no condition but that the table lies as it is laid.
-/
import Derived.Test.YtjjmnjkmfkcdoaaDoorOpn
import Derived.Test.YtjjmnjkmfkcdoaaDoorAwk
import Derived.Test.YtjjmnjkmfkcdoaaDoorStep
import Derived.Deep.Cut
import Derived.Deep.LoopGhost
import Derived.BigQuiet
namespace Go.Proofs.YtjjmnjkmfkcdoaaDoor
open Go.ChangeShapes Go.WideShapes Go.ChangeAt Go.RowKit
set_option linter.unusedVariables false
set_option linter.unusedSimpArgs false
set_option maxRecDepth 100000
theorem over_step (n : Nat) (tma tc c1 E : Int) (hc : c1 = 4 * (n : Int)) (hn : (n : Int) < E) (hE : evV tc = E) (ht : tc / 4 % 2 = 1) :
    ∃ (c2 a2 : Int) (o2 : Bool), tickV ⟨c1, 255, tma, tc, false⟩ = ⟨c2, a2, tma, tc, o2⟩ ∧ c2 = 4 * ((n + 1 : Nat) : Int) ∧ (((n : Int) + 1 = E ∧ a2 = 0 ∧ o2 = true) ∨ ((n : Int) + 1 < E ∧ a2 = 255 ∧ o2 = false)) := by
  have ex := ev_cases tc
  have e1 := sig_cnt n tc ht
  have e2 := sig_cnt (n + 1) tc ht
  rw [hE] at ex e1 e2
  have q1 : 4 * (n : Int) % 65536 = c1 := by omega
  have q2 : 4 * ((n + 1 : Nat) : Int) % 65536 = (c1 + 4) % 65536 := by omega
  rw [q1] at e1
  rw [q2] at e2
  unfold tickV preV
  simp only [Bool.false_eq_true, if_false]
  by_cases g : (n : Int) + 1 = E
  · have s1 : sigV c1 tc = true := by rw [e1]; apply decide_eq_true; rcases ex with rfl | rfl | rfl | rfl <;> omega
    have s2 : sigV ((c1 + 4) % 65536) tc = false := by rw [e2]; apply decide_eq_false; rcases ex with rfl | rfl | rfl | rfl <;> omega
    rw [s1, fall_yes _ s2]
    exact ⟨_, _, _, rfl, by (try dsimp only); omega, Or.inl ⟨g, rfl, rfl⟩⟩
  · have hf : fallV (sigV c1 tc) ⟨(c1 + 4) % 65536, 255, tma, tc, false⟩ = ⟨(c1 + 4) % 65536, 255, tma, tc, false⟩ := by
      refine fall_not _ _ ?_
      dsimp only
      rw [e1, e2]
      by_cases q : (n : Int) / (E / 2) % 2 = 1
      · right; apply decide_eq_true; rcases ex with rfl | rfl | rfl | rfl <;> omega
      · left; exact decide_eq_false q
    rw [hf]
    exact ⟨_, _, _, rfl, by (try dsimp only); omega, Or.inr ⟨by omega, rfl, rfl⟩⟩
/-- Behind the overflow: the signal is 0, and stays 0 for a cycle. -/
theorem over_next (a m tc c1 E : Int) (o : Bool) (hc : c1 = 4 * E) (hE : evV tc = E) (ht : tc / 4 % 2 = 1) : ∃ c2, tickV ⟨c1, a, m, tc, o⟩ = ⟨c2, if o = true then m else a, m, tc, false⟩ := by
  have ex := ev_cases tc
  have s1 : sigV c1 tc = false := by
    have e1 := sig_cnt E.toNat tc ht
    rw [hE] at ex e1
    rw [show 4 * ((E.toNat : Nat) : Int) % 65536 = c1 by omega] at e1
    rw [e1]; apply decide_eq_false; rcases ex with rfl | rfl | rfl | rfl <;> decide
  unfold tickV
  rw [fall_not _ _ (Or.inl s1)]
  unfold preV
  cases o <;> exact ⟨_, rfl⟩
end Go.Proofs.YtjjmnjkmfkcdoaaDoor
