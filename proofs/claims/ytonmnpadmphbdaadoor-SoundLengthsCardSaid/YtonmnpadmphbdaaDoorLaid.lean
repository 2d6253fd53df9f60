/-
  What the listed variable gives: the table of the masks of package sound; and a state that meets the list.
-/
import Derived.Test.YtonmnpadmphbdaaDoorOpn
import Derived.LaidMore
import Derived.Stop.Joined
import Derived.SevenTiedAt
import Derived.OpenShut
import Derived.ProofKit
namespace Go.Proofs.YtonmnpadmphbdaaDoor
open Go.ChangeShapes Go.WideShapes Go.ChangeAt Go.RowKit
set_option linter.unusedVariables false
set_option maxRecDepth 100000
theorem cc5 : Tryd.prog.cellsOf 5 = 1 := by kernel_rfl
/-- The door's own heap meets the list. -/
theorem door_met (os : Os) (args : Array Value) : laidMetH Tryd.prog Rows.soundHoldsRow.laid ((World.doorLaid Tryd.prog 400 os).forCall (fun _ _ => 0) ⟨#[], args, []⟩).memory :=
  laidMetH_of_parts3 (fuel := 8) (laidMet_of_run' 8 (by kernel_rfl) (by kernel_rfl)) (by kernel_rfl) (by kernel_rfl)
theorem of_laid {W : World} (h : laidMetH Tryd.prog Rows.soundHoldsRow.laid W) : Glob W := by
  rw [MakeChecks.laidMetH_plain _ _ _ (by kernel_rfl)] at h
  obtain ⟨ps, ⟨g0, t0, cs0, f0, p0, q0, hg0, ht0, hv0, hd0, _, _⟩, _, _⟩ := h
  obtain rfl : g0 = 0 := Option.some.inj (hg0.symm.trans (by kernel_rfl))
  obtain rfl : t0 = 24 := Option.some.inj (ht0.symm.trans (by kernel_rfl))
  obtain ⟨xs, m1, rfl, hx1, hlen, hn3, hel⟩ := DataW.trod_array Tryd.underlying24 hd0
  simp only [Prod.mk.injEq, DataW.agg.injEq, Rows.laid_retrograde_sound_readMasks] at hx1
  have key0 : ∀ (i : Nat) (v : Int), i < 48 → (xs[i]?).map (·.1) = some (DataW.lit (.int .u8 v)) → W.cell? ⟨0, i, none⟩ = some (.int .u8 v) := by
    intro i v hi hv
    have h0 := hel i hi
    cases hx : xs[i]? with
    | none => rw [hx] at hv; simp at hv
    | some x =>
      rw [hx] at hv h0
      simp at hv
      obtain ⟨k, e1, e2, _⟩ := DataW.trod_int Tryd.underlying5 h0
      have hk : k = v := by rw [e2] at hv; simpa using hv
      subst hk
      have hc := World.var?_cell hg0 hv0 i
      refine hc.trans ?_
      rw [cc5] at e1
      have e3 : (List.take 1 (List.drop (i * 1) cs0.toList))[0]? = some (Value.int .u8 k) := by rw [e1]; rfl
      simpa [List.getElem?_take, List.getElem?_drop] using e3
  have all : ∀ i, i < 48 → W.cell? ⟨0, i, none⟩ = some (.int .u8 (mask i)) := fun i hi => key0 i _ hi (by
    rw [← List.getElem?_map, ← hx1.1]
    rcases (show i = 0 ∨ i = 1 ∨ i = 2 ∨ i = 3 ∨ i = 4 ∨ i = 5 ∨ i = 6 ∨ i = 7 ∨ i = 8 ∨ i = 9 ∨ i = 10 ∨ i = 11 ∨ i = 12 ∨ i = 13 ∨ i = 14 ∨ i = 15 ∨ i = 16 ∨ i = 17 ∨ i = 18 ∨ i = 19 ∨ i = 20 ∨ i = 21 ∨ i = 22 ∨ i = 23 ∨ i = 24 ∨ i = 25 ∨ i = 26 ∨ i = 27 ∨ i = 28 ∨ i = 29 ∨ i = 30 ∨ i = 31 ∨ i = 32 ∨ i = 33 ∨ i = 34 ∨ i = 35 ∨ i = 36 ∨ i = 37 ∨ i = 38 ∨ i = 39 ∨ i = 40 ∨ i = 41 ∨ i = 42 ∨ i = 43 ∨ i = 44 ∨ i = 45 ∨ i = 46 ∨ i = 47 by omega) with rfl | rfl | rfl | rfl | rfl | rfl | rfl | rfl | rfl | rfl | rfl | rfl | rfl | rfl | rfl | rfl | rfl | rfl | rfl | rfl | rfl | rfl | rfl | rfl | rfl | rfl | rfl | rfl | rfl | rfl | rfl | rfl | rfl | rfl | rfl | rfl | rfl | rfl | rfl | rfl | rfl | rfl | rfl | rfl | rfl | rfl | rfl | rfl <;> rfl)
  exact ⟨World.block_lt_of_cell? W _ (all 0 (by decide)), all⟩
end Go.Proofs.YtonmnpadmphbdaaDoor
