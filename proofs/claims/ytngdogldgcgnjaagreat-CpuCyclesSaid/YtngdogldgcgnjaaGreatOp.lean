/-
  What ops.op returns, with none, one or two operands: for every world; no condition.
-/
import Derived.Test.YtngdogldgcgnjaaGreatBase
import Derived.Laws.IdiomCopy
namespace Go.Proofs.YtngdogldgcgnjaaGreat
open Go.ChangeShapes Go.WideShapes Go.ChangeAt Go.RowKit

theorem info3 : (Tryz.prog.info? 3).map (·.size) = some 1 := by kernel_rfl

set_option maxRecDepth 100000 in
set_option maxHeartbeats 1000000 in
theorem op_0 (k s : Int) (w : World) : Calls Tryz.prog 83 #[.int .i64 k, .int .i64 s, .slice none 0 0] w fun e w' =>
    e = .returned (.agg #[.int .i64 k, .int .i64 0, .int .i64 0, .int .i64 s, .int .u16 0]) ∧ Below w.heap.size w w' := by
  have hcp : ∀ (W : World) (d : Addr), (Builtin.copy_ #[64, 64] 3 #[.slice (some d) 2 2, .slice none 0 0]).run Tryz.prog W = .ok (goInt 0) W := fun W d =>
    run_copy_none W 64 64 3 3 (some d) none 2 2 0 0 Tryz.underlying64 info3 rfl
  go_enter Tryz.func83, Tryz.ntmps83
  go_wp2
  exact bodyPost_ret (v := .agg #[.int .i64 k, .int .i64 0, .int .i64 0, .int .i64 s, .int .u16 0]) (by simp [results, Tryz.results83, go_sem]) rfl ⟨rfl, by
    repeat (first | exact Below.refl _ _ | refine Below.setCell ?_ (by simp) _ | refine Below.alloc ?_ (by simp) _)⟩

set_option maxRecDepth 100000 in
set_option maxHeartbeats 1000000 in
theorem op_1 (k s x : Int) (b : Nat) (w : World) (hb : b < w.heap.size) (h : w.cell? ⟨b, 0, none⟩ = some (.int .i64 x)) : Calls Tryz.prog 83 #[.int .i64 k, .int .i64 s, .slice (some ⟨b, 0, none⟩) 1 1] w fun e w' =>
    e = .returned (.agg #[.int .i64 k, .int .i64 x, .int .i64 0, .int .i64 s, .int .u16 0]) ∧ Below w.heap.size w w' := by
  have hcp := run_copy_cells (P := Tryz.prog) ((w.alloc (.cells #[.int .i64 0, .int .i64 0, .int .i64 0, .int .i64 0, .int .u16 0] 44)).alloc (.cells #[.int .i64 0, .int .i64 0] 150))
    64 64 3 3 (w.heap.size + 1) 0 2 2 ⟨b, 0, none⟩ 1 1 [.int .i64 x] Tryz.underlying64 info3 rfl
    (fun j v hj => by
      cases j with
      | zero => 
        obtain rfl : v = .int .i64 x := by simpa using hj.symm
        show World.cell? _ ⟨b, 0, none⟩ = _
        rw [World.cell?_alloc_past _ _ _ (by simp; omega), World.cell?_alloc_past _ _ _ hb, h]
      | succ j => simp at hj)
    (fun j hj => by
      have : j = 0 := by simpa using hj
      subst this
      simp [go_sem])
    (fun j hj => by simp [go_sem])
    (by simp [Value.oneCell'])
  simp only [World.setCells] at hcp
  go_enter Tryz.func83, Tryz.ntmps83
  go_wp2
  exact bodyPost_ret (v := .agg #[.int .i64 k, .int .i64 x, .int .i64 0, .int .i64 s, .int .u16 0]) (by simp [results, Tryz.results83, go_sem]) rfl ⟨rfl, by
    repeat (first | exact Below.refl _ _ | refine Below.setCell ?_ (by simp) _ | refine Below.alloc ?_ (by simp) _)⟩
set_option maxRecDepth 100000 in
set_option maxHeartbeats 1000000 in
theorem op_2 (k s x y : Int) (b : Nat) (w : World) (hb : b < w.heap.size) (h : w.cell? ⟨b, 0, none⟩ = some (.int .i64 x)) (h' : w.cell? ⟨b, 1, none⟩ = some (.int .i64 y)) : Calls Tryz.prog 83 #[.int .i64 k, .int .i64 s, .slice (some ⟨b, 0, none⟩) 2 2] w fun e w' =>
    e = .returned (.agg #[.int .i64 k, .int .i64 x, .int .i64 y, .int .i64 s, .int .u16 0]) ∧ Below w.heap.size w w' := by
  have hcp := run_copy_cells (P := Tryz.prog) ((w.alloc (.cells #[.int .i64 0, .int .i64 0, .int .i64 0, .int .i64 0, .int .u16 0] 44)).alloc (.cells #[.int .i64 0, .int .i64 0] 150))
    64 64 3 3 (w.heap.size + 1) 0 2 2 ⟨b, 0, none⟩ 2 2 [.int .i64 x, .int .i64 y] Tryz.underlying64 info3 rfl
    (fun j v hj => by
      match j, hj with
      | 0, hj =>
        obtain rfl : v = .int .i64 x := by simpa using hj.symm
        show World.cell? _ ⟨b, 0, none⟩ = _
        rw [World.cell?_alloc_past _ _ _ (by simp; omega), World.cell?_alloc_past _ _ _ hb, h]
      | 1, hj =>
        obtain rfl : v = .int .i64 y := by simpa using hj.symm
        show World.cell? _ ⟨b, 1, none⟩ = _
        rw [World.cell?_alloc_past _ _ _ (by simp; omega), World.cell?_alloc_past _ _ _ hb, h']
      | j + 2, hj => simp at hj)
    (fun j hj => by
      have : j = 0 ∨ j = 1 := by have : j < 2 := hj; omega
      rcases this with rfl | rfl <;> simp [go_sem])
    (fun j hj => by simp [go_sem])
    (by simp [Value.oneCell'])
  simp only [World.setCells] at hcp
  go_enter Tryz.func83, Tryz.ntmps83
  go_wp2
  exact bodyPost_ret (v := .agg #[.int .i64 k, .int .i64 x, .int .i64 y, .int .i64 s, .int .u16 0]) (by simp [results, Tryz.results83, go_sem]) rfl ⟨rfl, by
    repeat (first | exact Below.refl _ _ | refine Below.setCell ?_ (by simp) _ | refine Below.alloc ?_ (by simp) _)⟩
/-- The operands' slice was built just ahead. -/
theorem op_1n (k s x : Int) (t : TypeId) (w : World) (b : Nat) (hb : b = w.heap.size) : Calls Tryz.prog 83 #[.int .i64 k, .int .i64 s, .slice (some ⟨b, 0, none⟩) 1 1] (w.alloc (.cells #[.int .i64 x] t)) fun e w' =>
    e = .returned (.agg #[.int .i64 k, .int .i64 x, .int .i64 0, .int .i64 s, .int .u16 0]) ∧ Below (w.alloc (.cells #[.int .i64 x] t)).heap.size (w.alloc (.cells #[.int .i64 x] t)) w' :=
  op_1 k s x _ _ (by simp [hb]) (by simp [go_sem, hb])
theorem op_2n (k s x y : Int) (t : TypeId) (w : World) (b : Nat) (hb : b = w.heap.size) : Calls Tryz.prog 83 #[.int .i64 k, .int .i64 s, .slice (some ⟨b, 0, none⟩) 2 2] (w.alloc (.cells #[.int .i64 x, .int .i64 y] t)) fun e w' =>
    e = .returned (.agg #[.int .i64 k, .int .i64 x, .int .i64 y, .int .i64 s, .int .u16 0]) ∧ Below (w.alloc (.cells #[.int .i64 x, .int .i64 y] t)).heap.size (w.alloc (.cells #[.int .i64 x, .int .i64 y] t)) w' :=
  op_2 k s x y _ _ (by simp [hb]) (by simp [go_sem, hb]) (by simp [go_sem, hb])
end Go.Proofs.YtngdogldgcgnjaaGreat
