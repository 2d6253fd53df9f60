/-
  What the document's decoding returns: for every world and all bytes; no other condition.
-/
import Derived.Test.YtaggebfcfebomaaDoorDec
namespace Go.Proofs.YtaggebfcfebomaaDoor
open Go.ChangeShapes Go.WideShapes Go.ChangeAt Go.RowKit
set_option linter.unusedVariables false

/-- An order with its number. -/
def decW (r : OpV) (b w : Int) : OpV := if r.s = 2 then ⟨r.k, r.x, r.y, r.s, b⟩ else if r.s = 3 then ⟨r.k, r.x, r.y, r.s, w⟩ else r
theorem rpair_c (p : Int) (w : World) : Calls Tryd.prog 38 #[.int .i64 p] w fun e w' => e = .returned (.int .i64 (stkF p)) ∧ w = w' := by
  by_cases hq : p = 3
  · obtain rfl := hq
    go_enter Tryd.func38, Tryd.ntmps38
    go_wp2
    go_ret
    exact ⟨rfl, rfl⟩
  · have e1 : stkF p = p := if_neg hq
    rw [e1]
    clear e1
    have hq' : (p == 3) = false := by simpa using hq
    clear hq
    go_enter Tryd.func38, Tryd.ntmps38
    go_wp2
    go_ret
    exact ⟨rfl, rfl⟩
set_option maxRecDepth 100000 in
set_option maxHeartbeats 2000000 in
theorem behind_h (b : Nat) (hb : b < 256) (r : OpV) (hr : pfT b = r) (w : World) : Calls Tryd.prog 39 #[.int .i64 b] w fun e w' => e = .returned (.agg #[.int .i64 (r).k, .int .i64 (r).x, .int .i64 (r).y, .int .i64 (r).s, .int .u16 (r).n]) ∧ Below w.heap.size w w' := by
  have hv : (b : Int) / 64 = 0 ∨ (b : Int) / 64 = 1 ∨ (b : Int) / 64 = 2 ∨ (b : Int) / 64 = 3 := by omega
  unfold pfT at hr
  rcases hv with hx | hx | hx | hx
  all_goals
    rw [hx] at hr
    simp [prefF] at hr
    subst hr
    go_enter Tryd.func39, Tryd.ntmps39
    go_wp2
    refine bodyPost_ret (v := _) ?_ rfl ⟨rfl, ?_⟩
    · simp [results, Tryd.results39, go_sem]
    · with_reducible exact own1 _ _
end Go.Proofs.YtaggebfcfebomaaDoor
