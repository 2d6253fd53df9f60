/-
  What the listed variable gives: the table of package timer; and a state that meets the list.
-/
import Derived.Test.YtjjmnjkmfkcdoaaDoorBase
import Derived.LaidMore
import Derived.Stop.Joined
import Derived.SevenTiedAt
import Derived.OpenShut
import Derived.ProofKit
namespace Go.Proofs.YtjjmnjkmfkcdoaaDoor
open Go.ChangeShapes Go.WideShapes Go.ChangeAt Go.RowKit
set_option linter.unusedVariables false
theorem cc22 : Tryd.prog.cellsOf 22 = 1 := by kernel_rfl
/-- The door's own heap meets the list. -/
theorem door_met (os : Os) (args : Array Value) : laidMetH Tryd.prog Rows.timerPlaysRow.laid ((World.doorLaid Tryd.prog 400 os).forCall (fun _ _ => 0) ⟨#[], args, []⟩).memory :=
  laidMetH_of_parts3 (fuel := 8) (laidMet_of_run' 8 (by kernel_rfl) (by kernel_rfl)) (by kernel_rfl) (by kernel_rfl)
set_option maxRecDepth 100000 in
theorem of_laid {W : World} (h : laidMetH Tryd.prog Rows.timerPlaysRow.laid W) : Glob W := by
  rw [MakeChecks.laidMetH_plain _ _ _ (by kernel_rfl)] at h
  obtain ⟨ps, ⟨g0, t0, cs0, f0, p0, q0, hg0, ht0, hv0, hd0, _, _⟩, _, _⟩ := h
  obtain rfl : g0 = 0 := Option.some.inj (hg0.symm.trans (by kernel_rfl))
  obtain rfl : t0 = 48 := Option.some.inj (ht0.symm.trans (by kernel_rfl))
  obtain ⟨xs, m1, rfl, hx1, hlen, hn3, hel⟩ := DataW.trod_array Tryd.underlying48 hd0
  simp only [Prod.mk.injEq, DataW.agg.injEq, Rows.laid_retrograde_timer_signalBits] at hx1
  have key0 : ∀ (i : Nat) (v : Int), i < 4 → (xs[i]?).map (·.1) = some (DataW.lit (.int .u16 v)) → W.cell? ⟨0, i, none⟩ = some (.int .u16 v) := by
    intro i v hi hv
    have h0 := hel i hi
    cases hx : xs[i]? with
    | none => rw [hx] at hv; simp at hv
    | some x =>
      rw [hx] at hv h0
      simp at hv
      obtain ⟨k, e1, e2, _⟩ := DataW.trod_int Tryd.underlying22 h0
      have hk : k = v := by rw [e2] at hv; simpa using hv
      subst hk
      have hc := World.var?_cell hg0 hv0 i
      refine hc.trans ?_
      rw [cc22] at e1
      have e3 : (List.take 1 (List.drop (i * 1) cs0.toList))[0]? = some (Value.int .u16 k) := by rw [e1]; rfl
      simpa [List.getElem?_take, List.getElem?_drop] using e3
  have b0 : W.cell? ⟨0, 0, none⟩ = some (.int .u16 512) := key0 0 _ (by decide) (by rw [← List.getElem?_map, ← hx1.1]; rfl)
  have b1 : W.cell? ⟨0, 1, none⟩ = some (.int .u16 8) := key0 1 _ (by decide) (by rw [← List.getElem?_map, ← hx1.1]; rfl)
  have b2 : W.cell? ⟨0, 2, none⟩ = some (.int .u16 32) := key0 2 _ (by decide) (by rw [← List.getElem?_map, ← hx1.1]; rfl)
  have b3 : W.cell? ⟨0, 3, none⟩ = some (.int .u16 128) := key0 3 _ (by decide) (by rw [← List.getElem?_map, ← hx1.1]; rfl)
  exact ⟨World.block_lt_of_cell? W _ b0, b0, b1, b2, b3⟩
end Go.Proofs.YtjjmnjkmfkcdoaaDoor
