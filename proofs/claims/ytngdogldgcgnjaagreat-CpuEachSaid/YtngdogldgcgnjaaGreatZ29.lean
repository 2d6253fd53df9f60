/-
  What the document's decoding returns: for every world and all bytes; no other condition.
  (Some texts in one.)
-/
import Derived.Test.YtngdogldgcgnjaaGreatZ07
set_option maxRecDepth 100000
set_option maxHeartbeats 8000000
namespace Go.Proofs.YtngdogldgcgnjaaGreat
open Go.ChangeShapes Go.WideShapes Go.ChangeAt Go.RowKit
set_option linter.unusedVariables false
def decW (r : OpV) (b w : Int) : OpV := if r.s = 2 then ⟨r.k, r.x, r.y, r.s, b⟩ else if r.s = 3 then ⟨r.k, r.x, r.y, r.s, w⟩ else r
theorem rpair_c (p : Int) (w : World) : Calls Tryz.prog 56 #[.int .i64 p] w fun e w' => e = .returned (.int .i64 (stkF p)) ∧ w = w' := by
 by_cases hq : p = 3
 ·obtain rfl := hq
  go_enter Tryz.func56, Tryz.ntmps56; go_wp2; go_ret
  exact ⟨rfl, rfl⟩
 ·have e1 : stkF p = p := if_neg hq
  rw [e1]; clear e1
  have hq' : (p == 3) = false := by simpa using hq
  clear hq; go_enter Tryz.func56, Tryz.ntmps56; go_wp2; go_ret
  exact ⟨rfl, rfl⟩
theorem behind_h (b : Nat) (hb : b < 256) (r : OpV) (hr : pfT b = r) (w : World) : Calls Tryz.prog 57 #[.int .i64 b] w fun e w' => e = .returned (.agg #[.int .i64 (r).k, .int .i64 (r).x, .int .i64 (r).y, .int .i64 (r).s, .int .u16 (r).n]) ∧ Below w.heap.size w w' := by
 have hv : (b : Int) / 64 = 0 ∨ (b : Int) / 64 = 1 ∨ (b : Int) / 64 = 2 ∨ (b : Int) / 64 = 3 := by omega
 unfold pfT at hr
 rcases hv with hx | hx | hx | hx
 all_goals
  rw [hx] at hr
  simp [prefF] at hr
  subst hr; go_enter Tryz.func57, Tryz.ntmps57; go_wp2
  refine bodyPost_ret (v := _) ?_ rfl ⟨rfl, ?_⟩
  ·simp [results, Tryz.results57, go_sem]
  ·with_reducible exact own1 _ _
end Go.Proofs.YtngdogldgcgnjaaGreat
namespace Go.Proofs.YtngdogldgcgnjaaGreat
open Go.ChangeShapes Go.WideShapes Go.ChangeAt Go.RowKit
set_option linter.unusedVariables false
theorem low_0_0 (b n : Int) (hb1 : 0 ≤ b) (hb2 : b < 256) (w : World) : Calls Tryz.prog 31 #[.int .i64 0, .int .i64 0, .int .u8 b, .int .u16 n] w fun e w' => e = .returned (.agg #[.int .i64 1, .int .i64 0, .int .i64 0, .int .i64 1, .int .u16 0]) ∧ Below w.heap.size w w' := by
 go_enter Tryz.func31, Tryz.ntmps31; go_wp2
 refine bodyPost_ret (v := _) ?_ rfl ⟨rfl, ?_⟩
 ·simp [results, Tryz.results31, go_sem]
 ·with_reducible exact own1 _ _
theorem low_1_0 (b n : Int) (hb1 : 0 ≤ b) (hb2 : b < 256) (w : World) : Calls Tryz.prog 31 #[.int .i64 1, .int .i64 0, .int .u8 b, .int .u16 n] w fun e w' => e = .returned (.agg #[.int .i64 40, .int .i64 0, .int .i64 0, .int .i64 3, .int .u16 n]) ∧ Below w.heap.size w w' := by
 go_enter Tryz.func31, Tryz.ntmps31; go_wp2
 refine bodyPost_ret (v := _) ?_ rfl ⟨rfl, ?_⟩
 ·simp [results, Tryz.results31, go_sem]
 ·with_reducible exact own1 _ _
theorem low_2_0 (b n : Int) (hb1 : 0 ≤ b) (hb2 : b < 256) (w : World) : Calls Tryz.prog 31 #[.int .i64 2, .int .i64 0, .int .u8 b, .int .u16 n] w fun e w' => e = .returned (.agg #[.int .i64 2, .int .i64 0, .int .i64 0, .int .i64 2, .int .u16 b]) ∧ Below w.heap.size w w' := by
 go_enter Tryz.func31, Tryz.ntmps31; go_wp2
 refine bodyPost_ret (v := _) ?_ rfl ⟨rfl, ?_⟩
 ·simp [results, Tryz.results31, go_sem]
 ·with_reducible exact own1 _ _
theorem low_3_0 (b n : Int) (hb1 : 0 ≤ b) (hb2 : b < 256) (w : World) : Calls Tryz.prog 31 #[.int .i64 3, .int .i64 0, .int .u8 b, .int .u16 n] w fun e w' => e = .returned (.agg #[.int .i64 23, .int .i64 4, .int .i64 0, .int .i64 2, .int .u16 b]) ∧ Below w.heap.size w w' := by
 go_enter Tryz.func31, Tryz.ntmps31; go_wp2
 refine bodyPost_ret (v := _) ?_ rfl ⟨rfl, ?_⟩
 ·simp [results, Tryz.results31, go_sem]
 ·with_reducible exact own1 _ _
theorem low_4_0 (b n : Int) (hb1 : 0 ≤ b) (hb2 : b < 256) (w : World) : Calls Tryz.prog 31 #[.int .i64 4, .int .i64 0, .int .u8 b, .int .u16 n] w fun e w' => e = .returned (.agg #[.int .i64 23, .int .i64 0, .int .i64 0, .int .i64 2, .int .u16 b]) ∧ Below w.heap.size w w' := by
 go_enter Tryz.func31, Tryz.ntmps31; go_wp2
 refine bodyPost_ret (v := _) ?_ rfl ⟨rfl, ?_⟩
 ·simp [results, Tryz.results31, go_sem]
 ·with_reducible exact own1 _ _
theorem low_5_0 (b n : Int) (hb1 : 0 ≤ b) (hb2 : b < 256) (w : World) : Calls Tryz.prog 31 #[.int .i64 5, .int .i64 0, .int .u8 b, .int .u16 n] w fun e w' => e = .returned (.agg #[.int .i64 23, .int .i64 1, .int .i64 0, .int .i64 2, .int .u16 b]) ∧ Below w.heap.size w w' := by
 go_enter Tryz.func31, Tryz.ntmps31; go_wp2
 refine bodyPost_ret (v := _) ?_ rfl ⟨rfl, ?_⟩
 ·simp [results, Tryz.results31, go_sem]
 ·with_reducible exact own1 _ _
theorem low_6_0 (b n : Int) (hb1 : 0 ≤ b) (hb2 : b < 256) (w : World) : Calls Tryz.prog 31 #[.int .i64 6, .int .i64 0, .int .u8 b, .int .u16 n] w fun e w' => e = .returned (.agg #[.int .i64 23, .int .i64 2, .int .i64 0, .int .i64 2, .int .u16 b]) ∧ Below w.heap.size w w' := by
 go_enter Tryz.func31, Tryz.ntmps31; go_wp2
 refine bodyPost_ret (v := _) ?_ rfl ⟨rfl, ?_⟩
 ·simp [results, Tryz.results31, go_sem]
 ·with_reducible exact own1 _ _
theorem low_7_0 (b n : Int) (hb1 : 0 ≤ b) (hb2 : b < 256) (w : World) : Calls Tryz.prog 31 #[.int .i64 7, .int .i64 0, .int .u8 b, .int .u16 n] w fun e w' => e = .returned (.agg #[.int .i64 23, .int .i64 3, .int .i64 0, .int .i64 2, .int .u16 b]) ∧ Below w.heap.size w w' := by
 go_enter Tryz.func31, Tryz.ntmps31; go_wp2
 refine bodyPost_ret (v := _) ?_ rfl ⟨rfl, ?_⟩
 ·simp [results, Tryz.results31, go_sem]
 ·with_reducible exact own1 _ _
theorem low_0_1 (b n : Int) (hb1 : 0 ≤ b) (hb2 : b < 256) (w : World) : Calls Tryz.prog 31 #[.int .i64 0, .int .i64 1, .int .u8 b, .int .u16 n] w fun e w' => e = .returned (.agg #[.int .i64 9, .int .i64 0, .int .i64 0, .int .i64 3, .int .u16 n]) ∧ Below w.heap.size w w' := by
 go_enter Tryz.func31, Tryz.ntmps31; go_wp2
 refine bodyPost_ret (v := _) ?_ rfl ⟨rfl, ?_⟩
 ·simp [results, Tryz.results31, go_sem]
 ·with_reducible exact own1 _ _
theorem low_1_1 (b n : Int) (hb1 : 0 ≤ b) (hb2 : b < 256) (w : World) : Calls Tryz.prog 31 #[.int .i64 1, .int .i64 1, .int .u8 b, .int .u16 n] w fun e w' => e = .returned (.agg #[.int .i64 16, .int .i64 0, .int .i64 0, .int .i64 1, .int .u16 0]) ∧ Below w.heap.size w w' := by
 go_enter Tryz.func31, Tryz.ntmps31; go_wp2
 refine bodyPost_ret (v := _) ?_ rfl ⟨rfl, ?_⟩
 ·simp [results, Tryz.results31, go_sem]
 ·with_reducible exact own1 _ _
theorem low_2_1 (b n : Int) (hb1 : 0 ≤ b) (hb2 : b < 256) (w : World) : Calls Tryz.prog 31 #[.int .i64 2, .int .i64 1, .int .u8 b, .int .u16 n] w fun e w' => e = .returned (.agg #[.int .i64 9, .int .i64 1, .int .i64 0, .int .i64 3, .int .u16 n]) ∧ Below w.heap.size w w' := by
 go_enter Tryz.func31, Tryz.ntmps31; go_wp2
 refine bodyPost_ret (v := _) ?_ rfl ⟨rfl, ?_⟩
 ·simp [results, Tryz.results31, go_sem]
 ·with_reducible exact own1 _ _
theorem low_3_1 (b n : Int) (hb1 : 0 ≤ b) (hb2 : b < 256) (w : World) : Calls Tryz.prog 31 #[.int .i64 3, .int .i64 1, .int .u8 b, .int .u16 n] w fun e w' => e = .returned (.agg #[.int .i64 16, .int .i64 1, .int .i64 0, .int .i64 1, .int .u16 0]) ∧ Below w.heap.size w w' := by
 go_enter Tryz.func31, Tryz.ntmps31; go_wp2
 refine bodyPost_ret (v := _) ?_ rfl ⟨rfl, ?_⟩
 ·simp [results, Tryz.results31, go_sem]
 ·with_reducible exact own1 _ _
theorem low_4_1 (b n : Int) (hb1 : 0 ≤ b) (hb2 : b < 256) (w : World) : Calls Tryz.prog 31 #[.int .i64 4, .int .i64 1, .int .u8 b, .int .u16 n] w fun e w' => e = .returned (.agg #[.int .i64 9, .int .i64 2, .int .i64 0, .int .i64 3, .int .u16 n]) ∧ Below w.heap.size w w' := by
 go_enter Tryz.func31, Tryz.ntmps31; go_wp2
 refine bodyPost_ret (v := _) ?_ rfl ⟨rfl, ?_⟩
 ·simp [results, Tryz.results31, go_sem]
 ·with_reducible exact own1 _ _
theorem low_5_1 (b n : Int) (hb1 : 0 ≤ b) (hb2 : b < 256) (w : World) : Calls Tryz.prog 31 #[.int .i64 5, .int .i64 1, .int .u8 b, .int .u16 n] w fun e w' => e = .returned (.agg #[.int .i64 16, .int .i64 2, .int .i64 0, .int .i64 1, .int .u16 0]) ∧ Below w.heap.size w w' := by
 go_enter Tryz.func31, Tryz.ntmps31; go_wp2
 refine bodyPost_ret (v := _) ?_ rfl ⟨rfl, ?_⟩
 ·simp [results, Tryz.results31, go_sem]
 ·with_reducible exact own1 _ _
theorem low_6_1 (b n : Int) (hb1 : 0 ≤ b) (hb2 : b < 256) (w : World) : Calls Tryz.prog 31 #[.int .i64 6, .int .i64 1, .int .u8 b, .int .u16 n] w fun e w' => e = .returned (.agg #[.int .i64 9, .int .i64 3, .int .i64 0, .int .i64 3, .int .u16 n]) ∧ Below w.heap.size w w' := by
 go_enter Tryz.func31, Tryz.ntmps31; go_wp2
 refine bodyPost_ret (v := _) ?_ rfl ⟨rfl, ?_⟩
 ·simp [results, Tryz.results31, go_sem]
 ·with_reducible exact own1 _ _
theorem low_7_1 (b n : Int) (hb1 : 0 ≤ b) (hb2 : b < 256) (w : World) : Calls Tryz.prog 31 #[.int .i64 7, .int .i64 1, .int .u8 b, .int .u16 n] w fun e w' => e = .returned (.agg #[.int .i64 16, .int .i64 3, .int .i64 0, .int .i64 1, .int .u16 0]) ∧ Below w.heap.size w w' := by
 go_enter Tryz.func31, Tryz.ntmps31; go_wp2
 refine bodyPost_ret (v := _) ?_ rfl ⟨rfl, ?_⟩
 ·simp [results, Tryz.results31, go_sem]
 ·with_reducible exact own1 _ _
theorem low_0_2 (b n : Int) (hb1 : 0 ≤ b) (hb2 : b < 256) (w : World) : Calls Tryz.prog 31 #[.int .i64 0, .int .i64 2, .int .u8 b, .int .u16 n] w fun e w' => e = .returned (.agg #[.int .i64 33, .int .i64 0, .int .i64 0, .int .i64 1, .int .u16 0]) ∧ Below w.heap.size w w' := by
 go_enter Tryz.func31, Tryz.ntmps31; go_wp2
 refine bodyPost_ret (v := _) ?_ rfl ⟨rfl, ?_⟩
 ·simp [results, Tryz.results31, go_sem]
 ·with_reducible exact own1 _ _
theorem low_1_2 (b n : Int) (hb1 : 0 ≤ b) (hb2 : b < 256) (w : World) : Calls Tryz.prog 31 #[.int .i64 1, .int .i64 2, .int .u8 b, .int .u16 n] w fun e w' => e = .returned (.agg #[.int .i64 32, .int .i64 0, .int .i64 0, .int .i64 1, .int .u16 0]) ∧ Below w.heap.size w w' := by
 go_enter Tryz.func31, Tryz.ntmps31; go_wp2
 refine bodyPost_ret (v := _) ?_ rfl ⟨rfl, ?_⟩
 ·simp [results, Tryz.results31, go_sem]
 ·with_reducible exact own1 _ _
theorem low_2_2 (b n : Int) (hb1 : 0 ≤ b) (hb2 : b < 256) (w : World) : Calls Tryz.prog 31 #[.int .i64 2, .int .i64 2, .int .u8 b, .int .u16 n] w fun e w' => e = .returned (.agg #[.int .i64 33, .int .i64 1, .int .i64 0, .int .i64 1, .int .u16 0]) ∧ Below w.heap.size w w' := by
 go_enter Tryz.func31, Tryz.ntmps31; go_wp2
 refine bodyPost_ret (v := _) ?_ rfl ⟨rfl, ?_⟩
 ·simp [results, Tryz.results31, go_sem]
 ·with_reducible exact own1 _ _
theorem low_3_2 (b n : Int) (hb1 : 0 ≤ b) (hb2 : b < 256) (w : World) : Calls Tryz.prog 31 #[.int .i64 3, .int .i64 2, .int .u8 b, .int .u16 n] w fun e w' => e = .returned (.agg #[.int .i64 32, .int .i64 1, .int .i64 0, .int .i64 1, .int .u16 0]) ∧ Below w.heap.size w w' := by
 go_enter Tryz.func31, Tryz.ntmps31; go_wp2
 refine bodyPost_ret (v := _) ?_ rfl ⟨rfl, ?_⟩
 ·simp [results, Tryz.results31, go_sem]
 ·with_reducible exact own1 _ _
theorem low_4_2 (b n : Int) (hb1 : 0 ≤ b) (hb2 : b < 256) (w : World) : Calls Tryz.prog 31 #[.int .i64 4, .int .i64 2, .int .u8 b, .int .u16 n] w fun e w' => e = .returned (.agg #[.int .i64 33, .int .i64 2, .int .i64 0, .int .i64 1, .int .u16 0]) ∧ Below w.heap.size w w' := by
 go_enter Tryz.func31, Tryz.ntmps31; go_wp2
 refine bodyPost_ret (v := _) ?_ rfl ⟨rfl, ?_⟩
 ·simp [results, Tryz.results31, go_sem]
 ·with_reducible exact own1 _ _
theorem low_5_2 (b n : Int) (hb1 : 0 ≤ b) (hb2 : b < 256) (w : World) : Calls Tryz.prog 31 #[.int .i64 5, .int .i64 2, .int .u8 b, .int .u16 n] w fun e w' => e = .returned (.agg #[.int .i64 32, .int .i64 2, .int .i64 0, .int .i64 1, .int .u16 0]) ∧ Below w.heap.size w w' := by
 go_enter Tryz.func31, Tryz.ntmps31; go_wp2
 refine bodyPost_ret (v := _) ?_ rfl ⟨rfl, ?_⟩
 ·simp [results, Tryz.results31, go_sem]
 ·with_reducible exact own1 _ _
theorem low_6_2 (b n : Int) (hb1 : 0 ≤ b) (hb2 : b < 256) (w : World) : Calls Tryz.prog 31 #[.int .i64 6, .int .i64 2, .int .u8 b, .int .u16 n] w fun e w' => e = .returned (.agg #[.int .i64 33, .int .i64 3, .int .i64 0, .int .i64 1, .int .u16 0]) ∧ Below w.heap.size w w' := by
 go_enter Tryz.func31, Tryz.ntmps31; go_wp2
 refine bodyPost_ret (v := _) ?_ rfl ⟨rfl, ?_⟩
 ·simp [results, Tryz.results31, go_sem]
 ·with_reducible exact own1 _ _
theorem low_7_2 (b n : Int) (hb1 : 0 ≤ b) (hb2 : b < 256) (w : World) : Calls Tryz.prog 31 #[.int .i64 7, .int .i64 2, .int .u8 b, .int .u16 n] w fun e w' => e = .returned (.agg #[.int .i64 32, .int .i64 3, .int .i64 0, .int .i64 1, .int .u16 0]) ∧ Below w.heap.size w w' := by
 go_enter Tryz.func31, Tryz.ntmps31; go_wp2
 refine bodyPost_ret (v := _) ?_ rfl ⟨rfl, ?_⟩
 ·simp [results, Tryz.results31, go_sem]
 ·with_reducible exact own1 _ _
end Go.Proofs.YtngdogldgcgnjaaGreat
namespace Go.Proofs.YtngdogldgcgnjaaGreat
open Go.ChangeShapes Go.WideShapes Go.ChangeAt Go.RowKit
set_option linter.unusedVariables false
theorem low_0_3 (b n : Int) (hb1 : 0 ≤ b) (hb2 : b < 256) (w : World) : Calls Tryz.prog 31 #[.int .i64 0, .int .i64 3, .int .u8 b, .int .u16 n] w fun e w' => e = .returned (.agg #[.int .i64 14, .int .i64 0, .int .i64 0, .int .i64 1, .int .u16 0]) ∧ Below w.heap.size w w' := by
 go_enter Tryz.func31, Tryz.ntmps31; go_wp2
 refine bodyPost_ret (v := _) ?_ rfl ⟨rfl, ?_⟩
 ·simp [results, Tryz.results31, go_sem]
 ·with_reducible exact own1 _ _
theorem low_1_3 (b n : Int) (hb1 : 0 ≤ b) (hb2 : b < 256) (w : World) : Calls Tryz.prog 31 #[.int .i64 1, .int .i64 3, .int .u8 b, .int .u16 n] w fun e w' => e = .returned (.agg #[.int .i64 15, .int .i64 0, .int .i64 0, .int .i64 1, .int .u16 0]) ∧ Below w.heap.size w w' := by
 go_enter Tryz.func31, Tryz.ntmps31; go_wp2
 refine bodyPost_ret (v := _) ?_ rfl ⟨rfl, ?_⟩
 ·simp [results, Tryz.results31, go_sem]
 ·with_reducible exact own1 _ _
theorem low_2_3 (b n : Int) (hb1 : 0 ≤ b) (hb2 : b < 256) (w : World) : Calls Tryz.prog 31 #[.int .i64 2, .int .i64 3, .int .u8 b, .int .u16 n] w fun e w' => e = .returned (.agg #[.int .i64 14, .int .i64 1, .int .i64 0, .int .i64 1, .int .u16 0]) ∧ Below w.heap.size w w' := by
 go_enter Tryz.func31, Tryz.ntmps31; go_wp2
 refine bodyPost_ret (v := _) ?_ rfl ⟨rfl, ?_⟩
 ·simp [results, Tryz.results31, go_sem]
 ·with_reducible exact own1 _ _
theorem low_3_3 (b n : Int) (hb1 : 0 ≤ b) (hb2 : b < 256) (w : World) : Calls Tryz.prog 31 #[.int .i64 3, .int .i64 3, .int .u8 b, .int .u16 n] w fun e w' => e = .returned (.agg #[.int .i64 15, .int .i64 1, .int .i64 0, .int .i64 1, .int .u16 0]) ∧ Below w.heap.size w w' := by
 go_enter Tryz.func31, Tryz.ntmps31; go_wp2
 refine bodyPost_ret (v := _) ?_ rfl ⟨rfl, ?_⟩
 ·simp [results, Tryz.results31, go_sem]
 ·with_reducible exact own1 _ _
theorem low_4_3 (b n : Int) (hb1 : 0 ≤ b) (hb2 : b < 256) (w : World) : Calls Tryz.prog 31 #[.int .i64 4, .int .i64 3, .int .u8 b, .int .u16 n] w fun e w' => e = .returned (.agg #[.int .i64 14, .int .i64 2, .int .i64 0, .int .i64 1, .int .u16 0]) ∧ Below w.heap.size w w' := by
 go_enter Tryz.func31, Tryz.ntmps31; go_wp2
 refine bodyPost_ret (v := _) ?_ rfl ⟨rfl, ?_⟩
 ·simp [results, Tryz.results31, go_sem]
 ·with_reducible exact own1 _ _
theorem low_5_3 (b n : Int) (hb1 : 0 ≤ b) (hb2 : b < 256) (w : World) : Calls Tryz.prog 31 #[.int .i64 5, .int .i64 3, .int .u8 b, .int .u16 n] w fun e w' => e = .returned (.agg #[.int .i64 15, .int .i64 2, .int .i64 0, .int .i64 1, .int .u16 0]) ∧ Below w.heap.size w w' := by
 go_enter Tryz.func31, Tryz.ntmps31; go_wp2
 refine bodyPost_ret (v := _) ?_ rfl ⟨rfl, ?_⟩
 ·simp [results, Tryz.results31, go_sem]
 ·with_reducible exact own1 _ _
theorem low_6_3 (b n : Int) (hb1 : 0 ≤ b) (hb2 : b < 256) (w : World) : Calls Tryz.prog 31 #[.int .i64 6, .int .i64 3, .int .u8 b, .int .u16 n] w fun e w' => e = .returned (.agg #[.int .i64 14, .int .i64 3, .int .i64 0, .int .i64 1, .int .u16 0]) ∧ Below w.heap.size w w' := by
 go_enter Tryz.func31, Tryz.ntmps31; go_wp2
 refine bodyPost_ret (v := _) ?_ rfl ⟨rfl, ?_⟩
 ·simp [results, Tryz.results31, go_sem]
 ·with_reducible exact own1 _ _
theorem low_7_3 (b n : Int) (hb1 : 0 ≤ b) (hb2 : b < 256) (w : World) : Calls Tryz.prog 31 #[.int .i64 7, .int .i64 3, .int .u8 b, .int .u16 n] w fun e w' => e = .returned (.agg #[.int .i64 15, .int .i64 3, .int .i64 0, .int .i64 1, .int .u16 0]) ∧ Below w.heap.size w w' := by
 go_enter Tryz.func31, Tryz.ntmps31; go_wp2
 refine bodyPost_ret (v := _) ?_ rfl ⟨rfl, ?_⟩
 ·simp [results, Tryz.results31, go_sem]
 ·with_reducible exact own1 _ _
theorem low_y_4 (y : Int) (hy1 : 0 ≤ y) (hy2 : y < 8) (b n : Int) (hb1 : 0 ≤ b) (hb2 : b < 256) (w : World) : Calls Tryz.prog 31 #[.int .i64 y, .int .i64 4, .int .u8 b, .int .u16 n] w fun e w' => e = .returned (.agg #[.int .i64 12, .int .i64 y, .int .i64 0, .int .i64 1, .int .u16 0]) ∧ Below w.heap.size w w' := by
 go_enter Tryz.func31, Tryz.ntmps31; go_wp2
 refine bodyPost_ret (v := _) ?_ rfl ⟨rfl, ?_⟩
 ·simp [results, Tryz.results31, go_sem]
 ·with_reducible exact own1 _ _
theorem low_y_5 (y : Int) (hy1 : 0 ≤ y) (hy2 : y < 8) (b n : Int) (hb1 : 0 ≤ b) (hb2 : b < 256) (w : World) : Calls Tryz.prog 31 #[.int .i64 y, .int .i64 5, .int .u8 b, .int .u16 n] w fun e w' => e = .returned (.agg #[.int .i64 13, .int .i64 y, .int .i64 0, .int .i64 1, .int .u16 0]) ∧ Below w.heap.size w w' := by
 go_enter Tryz.func31, Tryz.ntmps31; go_wp2
 refine bodyPost_ret (v := _) ?_ rfl ⟨rfl, ?_⟩
 ·simp [results, Tryz.results31, go_sem]
 ·with_reducible exact own1 _ _
theorem low_y_6 (y : Int) (hy1 : 0 ≤ y) (hy2 : y < 8) (b n : Int) (hb1 : 0 ≤ b) (hb2 : b < 256) (w : World) : Calls Tryz.prog 31 #[.int .i64 y, .int .i64 6, .int .u8 b, .int .u16 n] w fun e w' => e = .returned (.agg #[.int .i64 8, .int .i64 y, .int .i64 0, .int .i64 2, .int .u16 b]) ∧ Below w.heap.size w w' := by
 go_enter Tryz.func31, Tryz.ntmps31; go_wp2
 refine bodyPost_ret (v := _) ?_ rfl ⟨rfl, ?_⟩
 ·simp [results, Tryz.results31, go_sem]
 ·with_reducible exact own1 _ _
theorem low_0_7 (b n : Int) (hb1 : 0 ≤ b) (hb2 : b < 256) (w : World) : Calls Tryz.prog 31 #[.int .i64 0, .int .i64 7, .int .u8 b, .int .u16 n] w fun e w' => e = .returned (.agg #[.int .i64 18, .int .i64 0, .int .i64 0, .int .i64 1, .int .u16 0]) ∧ Below w.heap.size w w' := by
 go_enter Tryz.func31, Tryz.ntmps31; go_wp2
 refine bodyPost_ret (v := _) ?_ rfl ⟨rfl, ?_⟩
 ·simp [results, Tryz.results31, go_sem]
 ·with_reducible exact own1 _ _
theorem low_1_7 (b n : Int) (hb1 : 0 ≤ b) (hb2 : b < 256) (w : World) : Calls Tryz.prog 31 #[.int .i64 1, .int .i64 7, .int .u8 b, .int .u16 n] w fun e w' => e = .returned (.agg #[.int .i64 18, .int .i64 1, .int .i64 0, .int .i64 1, .int .u16 0]) ∧ Below w.heap.size w w' := by
 go_enter Tryz.func31, Tryz.ntmps31; go_wp2
 refine bodyPost_ret (v := _) ?_ rfl ⟨rfl, ?_⟩
 ·simp [results, Tryz.results31, go_sem]
 ·with_reducible exact own1 _ _
theorem low_2_7 (b n : Int) (hb1 : 0 ≤ b) (hb2 : b < 256) (w : World) : Calls Tryz.prog 31 #[.int .i64 2, .int .i64 7, .int .u8 b, .int .u16 n] w fun e w' => e = .returned (.agg #[.int .i64 18, .int .i64 2, .int .i64 0, .int .i64 1, .int .u16 0]) ∧ Below w.heap.size w w' := by
 go_enter Tryz.func31, Tryz.ntmps31; go_wp2
 refine bodyPost_ret (v := _) ?_ rfl ⟨rfl, ?_⟩
 ·simp [results, Tryz.results31, go_sem]
 ·with_reducible exact own1 _ _
theorem low_3_7 (b n : Int) (hb1 : 0 ≤ b) (hb2 : b < 256) (w : World) : Calls Tryz.prog 31 #[.int .i64 3, .int .i64 7, .int .u8 b, .int .u16 n] w fun e w' => e = .returned (.agg #[.int .i64 18, .int .i64 3, .int .i64 0, .int .i64 1, .int .u16 0]) ∧ Below w.heap.size w w' := by
 go_enter Tryz.func31, Tryz.ntmps31; go_wp2
 refine bodyPost_ret (v := _) ?_ rfl ⟨rfl, ?_⟩
 ·simp [results, Tryz.results31, go_sem]
 ·with_reducible exact own1 _ _
theorem low_4_7 (b n : Int) (hb1 : 0 ≤ b) (hb2 : b < 256) (w : World) : Calls Tryz.prog 31 #[.int .i64 4, .int .i64 7, .int .u8 b, .int .u16 n] w fun e w' => e = .returned (.agg #[.int .i64 19, .int .i64 0, .int .i64 0, .int .i64 1, .int .u16 0]) ∧ Below w.heap.size w w' := by
 go_enter Tryz.func31, Tryz.ntmps31; go_wp2
 refine bodyPost_ret (v := _) ?_ rfl ⟨rfl, ?_⟩
 ·simp [results, Tryz.results31, go_sem]
 ·with_reducible exact own1 _ _
theorem low_5_7 (b n : Int) (hb1 : 0 ≤ b) (hb2 : b < 256) (w : World) : Calls Tryz.prog 31 #[.int .i64 5, .int .i64 7, .int .u8 b, .int .u16 n] w fun e w' => e = .returned (.agg #[.int .i64 20, .int .i64 0, .int .i64 0, .int .i64 1, .int .u16 0]) ∧ Below w.heap.size w w' := by
 go_enter Tryz.func31, Tryz.ntmps31; go_wp2
 refine bodyPost_ret (v := _) ?_ rfl ⟨rfl, ?_⟩
 ·simp [results, Tryz.results31, go_sem]
 ·with_reducible exact own1 _ _
theorem low_6_7 (b n : Int) (hb1 : 0 ≤ b) (hb2 : b < 256) (w : World) : Calls Tryz.prog 31 #[.int .i64 6, .int .i64 7, .int .u8 b, .int .u16 n] w fun e w' => e = .returned (.agg #[.int .i64 21, .int .i64 0, .int .i64 0, .int .i64 1, .int .u16 0]) ∧ Below w.heap.size w w' := by
 go_enter Tryz.func31, Tryz.ntmps31; go_wp2
 refine bodyPost_ret (v := _) ?_ rfl ⟨rfl, ?_⟩
 ·simp [results, Tryz.results31, go_sem]
 ·with_reducible exact own1 _ _
theorem low_7_7 (b n : Int) (hb1 : 0 ≤ b) (hb2 : b < 256) (w : World) : Calls Tryz.prog 31 #[.int .i64 7, .int .i64 7, .int .u8 b, .int .u16 n] w fun e w' => e = .returned (.agg #[.int .i64 22, .int .i64 0, .int .i64 0, .int .i64 1, .int .u16 0]) ∧ Below w.heap.size w w' := by
 go_enter Tryz.func31, Tryz.ntmps31; go_wp2
 refine bodyPost_ret (v := _) ?_ rfl ⟨rfl, ?_⟩
 ·simp [results, Tryz.results31, go_sem]
 ·with_reducible exact own1 _ _
end Go.Proofs.YtngdogldgcgnjaaGreat
