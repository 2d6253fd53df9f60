/-
  What the listed variables give: the two tables of package header; and a state that meets the list.
-/
import Derived.Test.YtifhajdcfjiaiaaDoorPar
import Derived.LaidMore
import Derived.Stop.Joined
import Derived.SevenTiedAt
import Derived.OpenShut
import Derived.ProofKit
namespace Go.Proofs.YtifhajdcfjiaiaaDoor
open Go.ChangeShapes Go.WideShapes Go.ChangeAt Go.RowKit
set_option linter.unusedVariables false
theorem c3 : Tryd.prog.cellsOf 3 = 1 := by kernel_rfl
/-- The door's own heap meets the list. -/
theorem door_met (os : Os) (args : Array Value) : laidMetH Tryd.prog Rows.headerTellsRow.laid ((World.doorLaid Tryd.prog 400 os).forCall (fun _ _ => 0) ⟨#[], args, []⟩).memory :=
  laidMetH_of_parts3 (fuel := 8) (laidMet_of_run' 8 (by kernel_rfl) (by kernel_rfl)) (by kernel_rfl) (by kernel_rfl)
set_option maxRecDepth 100000 in
theorem of_laid {W : World} (h : laidMetH Tryd.prog Rows.headerTellsRow.laid W) : Glob W := by
  rw [MakeChecks.laidMetH_plain _ _ _ (by kernel_rfl)] at h
  obtain ⟨ps, ⟨g0, t0, cs0, f0, p0, q0, hg0, ht0, hv0, hd0, ⟨g1, t1, cs1, f1, p1, q1, hg1, ht1, hv1, hd1, _, _⟩, _⟩, _, _⟩ := h
  obtain rfl : g0 = 0 := Option.some.inj (hg0.symm.trans (by kernel_rfl))
  obtain rfl : t0 = 51 := Option.some.inj (ht0.symm.trans (by kernel_rfl))
  obtain rfl : g1 = 1 := Option.some.inj (hg1.symm.trans (by kernel_rfl))
  obtain rfl : t1 = 52 := Option.some.inj (ht1.symm.trans (by kernel_rfl))
  obtain ⟨xs, m1, rfl, hx1, hlen, hn3, hel⟩ := DataW.trod_array Tryd.underlying51 hd0
  obtain ⟨ys, m2, rfl, hy1, hlen2, hn4, hel2⟩ := DataW.trod_array Tryd.underlying52 hd1
  simp only [Prod.mk.injEq, DataW.agg.injEq, Rows.laid_retrograde_header_bankNumbers] at hx1
  simp only [Prod.mk.injEq, DataW.agg.injEq, Rows.laid_retrograde_header_ramSizes] at hy1
  have key0 : ∀ (i : Nat) (v : Int), i < 9 → (xs[i]?).map (·.1) = some (DataW.lit (.int .i64 v)) → W.cell? ⟨0, i, none⟩ = some (.int .i64 v) := by
    intro i v hi hv
    have h0 := hel i hi
    cases hx : xs[i]? with
    | none => rw [hx] at hv; simp at hv
    | some x =>
      rw [hx] at hv h0
      simp at hv
      obtain ⟨k, e1, e2, _⟩ := DataW.trod_int Tryd.underlying3 h0
      have hk : k = v := by rw [e2] at hv; simpa using hv
      subst hk
      have hc := World.var?_cell hg0 hv0 i
      refine hc.trans ?_
      rw [c3] at e1
      have e3 : (List.take 1 (List.drop (i * 1) cs0.toList))[0]? = some (Value.int .i64 k) := by rw [e1]; rfl
      simpa [List.getElem?_take, List.getElem?_drop] using e3
  have key1 : ∀ (i : Nat) (v : Int), i < 6 → (ys[i]?).map (·.1) = some (DataW.lit (.int .i64 v)) → W.cell? ⟨1, i, none⟩ = some (.int .i64 v) := by
    intro i v hi hv
    have h0 := hel2 i hi
    cases hx : ys[i]? with
    | none => rw [hx] at hv; simp at hv
    | some x =>
      rw [hx] at hv h0
      simp at hv
      obtain ⟨k, e1, e2, _⟩ := DataW.trod_int Tryd.underlying3 h0
      have hk : k = v := by rw [e2] at hv; simpa using hv
      subst hk
      have hc := World.var?_cell hg1 hv1 i
      refine hc.trans ?_
      rw [c3] at e1
      have e3 : (List.take 1 (List.drop (i * 1) cs1.toList))[0]? = some (Value.int .i64 k) := by rw [e1]; rfl
      simpa [List.getElem?_take, List.getElem?_drop] using e3
  have b0 : ∀ i : Nat, i < 9 → W.cell? ⟨0, i, none⟩ = some (.int .i64 (bankV i)) := by
    intro i hi
    refine key0 i _ hi ?_
    rw [← List.getElem?_map, ← hx1.1]
    have : i = 0 ∨ i = 1 ∨ i = 2 ∨ i = 3 ∨ i = 4 ∨ i = 5 ∨ i = 6 ∨ i = 7 ∨ i = 8 := by omega
    rcases this with rfl | rfl | rfl | rfl | rfl | rfl | rfl | rfl | rfl <;> rfl
  have b1 : ∀ i : Nat, i < 6 → W.cell? ⟨1, i, none⟩ = some (.int .i64 (ramT i)) := by
    intro i hi
    refine key1 i _ hi ?_
    rw [← List.getElem?_map, ← hy1.1]
    have : i = 0 ∨ i = 1 ∨ i = 2 ∨ i = 3 ∨ i = 4 ∨ i = 5 := by omega
    rcases this with rfl | rfl | rfl | rfl | rfl | rfl <;> rfl
  exact ⟨b0, b1, World.block_lt_of_cell? W _ (b1 0 (by omega))⟩
end Go.Proofs.YtifhajdcfjiaiaaDoor
