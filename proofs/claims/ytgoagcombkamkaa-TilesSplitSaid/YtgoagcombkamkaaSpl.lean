/-
  What a line without the window, and a dark line, come to: for every memory and view; no condition but that the control is a byte.
-/
import Derived.Test.YtgoagcombkamkaaOpn
import Derived.Deep.Cut
import Derived.BigQuiet
import Derived.WalkSmall
import Derived.Deep.QuietTactic
namespace Go.Proofs.Ytgoagcombkamkaa
open Go.ChangeShapes Go.WideShapes Go.ChangeAt Go.RowKit
set_option linter.unusedVariables false
set_option linter.unusedSimpArgs false
set_option maxRecDepth 100000
/-- One byte of a block is stored. -/
theorem store_c {ops : Array Oper} {rest : List Oper} {op : Oper} {a : Act} {w : World} {Q : Exit → Act → World → Prop} {b : Nat} {A : Array Value} (h : Has w b A)
    (hgd : op.guard = none) (x y : Operand) (ho : op.op = .store 5 x y) (o : Nat) (hx : a.eval x = .pointer (some ⟨b, o, none⟩)) (z old : Int) (hy : a.eval y = .int .u8 z) (hc : A[o]? = some (.int .u8 old)) (A2 : Array Value) (hA : A.setIfInBounds o (.int .u8 z) = A2)
    (hK : ∀ w', Has w' b A2 → Keeps b w w' → wpList Try.prog ops Q rest (a.put op.dst undef) w') : wpList Try.prog ops Q (op :: rest) a w := by
  have ho2 : o < A.size := by
    by_cases h : o < A.size
    · exact h
    · rw [Array.getElem?_eq_none (by omega)] at hc; cases hc
  have hP := h.set o (.int .u8 z) ho2
  rw [hA] at hP
  have hs : (storeVar 5 ⟨b, o, none⟩ (.int .u8 z)).run Try.prog w = .ok () (w.setCell ⟨b, o, none⟩ (.int .u8 z)) := by
    have h1 : (w.cell? ⟨b, o, none⟩) = some (.int .u8 old) := (h.2.1 o).trans hc
    have h2 : w.frozen? ⟨b, o, none⟩ = false := h.2.2 o
    simp [go_sem, h1, h2]
  refine wpList_plain hgd fun _ hKK => ?_
  unfold Oper.wp execOp
  simp only [ho, hx, hy, Instr.storeAt, Instr.sureAddr, Sem.run_bind, Sem.run_pure, Result.andThen_ok, hs]
  exact hKK _ _ (hK _ hP ((Keeps.refl b w).setCell o _))
/-- A line that a block of its own takes up. -/
theorem keep_new {n : Nat} {W0 u u' : World} (hn : n ≤ W0.heap.size) (hb : Below n W0 u) (o : Obj) (hk : Keeps u.heap.size (u.alloc o) u') : Below n W0 u' :=
  hk.below hn (Nat.le_trans hn hb.size) (vian hn hb (own1 u o))
theorem back_off (F : M) (c sx sy x y : Int) (c0 : 0 ≤ c) (c1 : c < 256) : backV F (bits .andNot .u8 c 32) sx sy x y = backV F c sx sy x y := by
  unfold backV spotV mapV numV
  rw [off5_3 c c0 c1, off5_4 c c0 c1]
theorem reach_off (c wx wy line : Int) (c0 : 0 ≤ c) (c1 : c < 256) : reachV (bits .andNot .u8 c 32) wx wy line = false := by
  unfold reachV
  rw [off5 c c0 c1]
  rfl
theorem seen_off (c wx wy line : Int) (c0 : 0 ≤ c) (c1 : c < 256) : seenV (bits .andNot .u8 c 32) wx wy line = false := by
  unfold seenV
  rw [reach_off c wx wy line c0 c1, Bool.and_false]
theorem seen_dark (c wx wy line : Int) (c0 : 0 ≤ c) (c1 : c < 256) : seenV (bits .andNot .u8 c 1) wx wy line = false := by
  unfold seenV
  rw [off0 c c0 c1]
  rfl
theorem line_off (F : M) (c sx sy wx wy line ow : Int) (c0 : 0 ≤ c) (c1 : c < 256) : lineE F (bits .andNot .u8 c 1) sx sy wx wy line ow = zeroM := by
  unfold lineE
  rw [off0 c c0 c1, if_neg (by decide)]
theorem split_back (F : M) (c sx sy wx wy line ow : Int) (c0 : 0 ≤ c) (c1 : c < 256) (t : Nat) (ht : t < 160) (h : seenV c wx wy line = false ∨ (t : Int) + 7 - wx < 0) :
    lineE F c sx sy wx wy line ow t = lineE F (bits .andNot .u8 c 32) sx sy wx wy line ow t := by
  unfold lineE
  rw [off5_0 c c0 c1]
  by_cases hb : bit c 0 = 1
  · rw [if_pos hb, if_pos hb]
    unfold firstN
    rw [if_pos ht, if_pos ht]
    unfold lineV
    rw [reach_off c wx wy line c0 c1, back_off F c sx sy t line c0 c1]
    rw [if_neg (show ¬ (reachV c wx wy line = true ∧ 0 ≤ (t : Int) + 7 - wx) from fun hh => by
      rcases h with h | h
      · unfold seenV at h
        rw [hh.1, hb] at h
        exact absurd h (by decide)
      · omega)]
    exact (if_neg (by simp)).symm
  · rw [if_neg hb, if_neg hb]
theorem split_win (F : M) (c sx sy wx wy line ow : Int) (t : Nat) (ht : t < 160) (h : seenV c wx wy line = true) (h2 : 0 ≤ (t : Int) + 7 - wx) :
    lineE F c sx sy wx wy line ow t = winV F c ((t : Int) + 7 - wx) ow := by
  unfold seenV at h
  rw [Bool.and_eq_true, decide_eq_true_eq] at h
  unfold lineE
  rw [if_pos h.1]
  unfold firstN
  rw [if_pos ht]
  exact if_pos ⟨h.2, h2⟩
theorem lineE_bd (F : M) (c sx sy wx wy line ow : Int) (t : Nat) : 0 ≤ lineE F c sx sy wx wy line ow t ∧ lineE F c sx sy wx wy line ow t < 4 := by
  unfold lineE
  split
  · unfold firstN
    split
    · unfold lineV
      split
      · exact winV_bd _ _ _ _
      · exact backV_bd _ _ _ _ _ _
    · decide
  · exact ⟨Int.le_refl 0, by show (0 : Int) < 4; decide⟩
end Go.Proofs.Ytgoagcombkamkaa
