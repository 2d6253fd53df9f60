/-
  What the listed variables give: the table of package math/bits has 4 at the place of 16; and a state that meets the list.
-/
import Derived.Test.YtaggebfcfebomaaDoorFmt
import Derived.LaidMore
import Derived.Stop.Joined
import Derived.SevenTiedAt
import Derived.OpenShut
import Derived.ProofKit
namespace Go.Proofs.YtaggebfcfebomaaDoor
open Go.ChangeShapes Go.WideShapes Go.ChangeAt Go.RowKit
set_option linter.unusedVariables false

theorem c5 : Tryd.prog.cellsOf 5 = 1 := by kernel_rfl
/-- The door's own heap meets the list. -/
theorem door_met (os : Os) (args : Array Value) : laidMetH Tryd.prog Rows.opsDecodeRow.laid ((World.doorLaid Tryd.prog 400 os).forCall (fun _ _ => 0) ⟨#[], args, []⟩).memory :=
  laidMetH_of_parts3 (fuel := 8) (laidMet_of_run' 8 (by kernel_rfl) (by kernel_rfl)) (by kernel_rfl) (by kernel_rfl)
set_option maxRecDepth 100000 in
theorem of_laid {W : World} (h : laidMetH Tryd.prog Rows.opsDecodeRow.laid W) : Tz W := by
  rw [MakeChecks.laidMetH_plain _ _ _ (by kernel_rfl)] at h
  obtain ⟨ps, ⟨g0, t0, cs0, f0, p0, q0, hg0, ht0, hv0, hd0, ⟨g1, t1, cs1, f1, p1, q1, hg1, ht1, hv1, hd1, _, _⟩, _⟩, _, _⟩ := h
  obtain rfl : g1 = 3 := Option.some.inj (hg1.symm.trans (by kernel_rfl))
  obtain rfl : t1 = 124 := Option.some.inj (ht1.symm.trans (by kernel_rfl))
  obtain ⟨xs, m1, rfl, hx1, hlen, hn3, hel⟩ := DataW.trod_array Tryd.underlying124 hd1
  have h0 := hel 15 (by decide)
  simp only [Prod.mk.injEq, DataW.agg.injEq, Rows.laid_math_bits_deBruijn64tab] at hx1
  have h15 : (xs[15]?).map (·.1) = some (DataW.lit (.int .u8 4)) := by
    rw [← List.getElem?_map, ← hx1.1]
    rfl
  cases hx : xs[15]? with
  | none => rw [hx] at h15; simp at h15
  | some x =>
    rw [hx] at h15 h0
    simp at h15
    obtain ⟨k, e1, e2, _⟩ := DataW.trod_int Tryd.underlying5 h0
    have hk : k = 4 := by
      rw [e2] at h15
      simpa using h15
    subst hk
    have hc := World.var?_cell hg1 hv1 15
    unfold Tz
    refine hc.trans ?_
    rw [c5] at e1
    clear hx1 hel hd1 hd0 hv1 hv0
    have e3 : (List.take 1 (List.drop (15 * 1) cs1.toList))[0]? = some (Value.int .u8 4) := by rw [e1]; rfl
    simpa [List.getElem?_take, List.getElem?_drop] using e3
end Go.Proofs.YtaggebfcfebomaaDoor
