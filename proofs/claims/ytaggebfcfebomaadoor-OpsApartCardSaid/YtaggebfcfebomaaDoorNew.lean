/-
  What ops.New returns: a new table: for every world; no condition.
-/
import Derived.Test.YtaggebfcfebomaaDoorOnce
namespace Go.Proofs.YtaggebfcfebomaaDoor
open Go.ChangeShapes Go.WideShapes Go.ChangeAt Go.RowKit

theorem zc_size : Tryd.zeroCells54.size = 2563 := by kernel_rfl
theorem zc_0 : Tryd.zeroCells54[0]? = some (.int .u32 0) := by kernel_rfl
theorem zc_1 : Tryd.zeroCells54[1]? = some (.int .i32 0) := by kernel_rfl
theorem Tab.new (w : World) (t : TypeId) : Tab (w.alloc (.cells Tryd.zeroCells54 t)) w.heap.size 0 0 0 0 := by
  have h := Has.new w Tryd.zeroCells54 t
  refine ⟨h.1, fun o ho => ?_, h.2.2, (h.2.1 0).trans zc_0, (h.2.1 1).trans zc_1, fun i j hi => absurd hi (by omega), fun i j hi => absurd hi (by omega)⟩
  rw [h.2.1 o, Array.getElem?_eq_getElem (by rw [zc_size]; exact ho)]
  rfl
theorem new_c (w : World) : Calls Tryd.prog 10 #[] w fun e w' => e = .returned (.pointer (some ⟨w.heap.size, 0, none⟩)) ∧ w.alloc (.cells Tryd.zeroCells54 54) = w' := by
  go_enter Tryd.func10, Tryd.ntmps10
  go_wp2
  go_ret
  exact ⟨rfl, rfl⟩
end Go.Proofs.YtaggebfcfebomaaDoor
