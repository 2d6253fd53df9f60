/-
  What ops.New returns: a new table: for every world; no condition.
-/
import Derived.Test.YtngdogldgcgnjaaGreatOnce
namespace Go.Proofs.YtngdogldgcgnjaaGreat
open Go.ChangeShapes Go.WideShapes Go.ChangeAt Go.RowKit

theorem zc_size : Tryz.zeroCells81.size = 2563 := by kernel_rfl
theorem zc_0 : Tryz.zeroCells81[0]? = some (.int .u32 0) := by kernel_rfl
theorem zc_1 : Tryz.zeroCells81[1]? = some (.int .i32 0) := by kernel_rfl
theorem Tab.new (w : World) (t : TypeId) : Tab (w.alloc (.cells Tryz.zeroCells81 t)) w.heap.size 0 0 0 0 := by
  have h := Has.new w Tryz.zeroCells81 t
  refine ⟨h.1, fun o ho => ?_, h.2.2, (h.2.1 0).trans zc_0, (h.2.1 1).trans zc_1, fun i j hi => absurd hi (by omega), fun i j hi => absurd hi (by omega)⟩
  rw [h.2.1 o, Array.getElem?_eq_getElem (by rw [zc_size]; exact ho)]
  rfl
theorem new_c (w : World) : Calls Tryz.prog 11 #[] w fun e w' => e = .returned (.pointer (some ⟨w.heap.size, 0, none⟩)) ∧ w.alloc (.cells Tryz.zeroCells81 81) = w' := by
  go_enter Tryz.func11, Tryz.ntmps11
  go_wp2
  go_ret
  exact ⟨rfl, rfl⟩
end Go.Proofs.YtngdogldgcgnjaaGreat
