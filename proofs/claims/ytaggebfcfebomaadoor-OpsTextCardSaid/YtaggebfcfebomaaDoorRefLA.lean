/-
  What the document's decoding of a first byte returns, digit by digit: for every world; no other condition.
-/
import Derived.Test.YtaggebfcfebomaaDoorRef0
namespace Go.Proofs.YtaggebfcfebomaaDoor
open Go.ChangeShapes Go.WideShapes Go.ChangeAt Go.RowKit
set_option linter.unusedVariables false
set_option maxRecDepth 100000 in
set_option maxHeartbeats 2000000 in
theorem low_0_0 (b n : Int) (hb1 : 0 ≤ b) (hb2 : b < 256) (w : World) : Calls Tryd.prog 19 #[.int .i64 0, .int .i64 0, .int .u8 b, .int .u16 n] w fun e w' => e = .returned (.agg #[.int .i64 1, .int .i64 0, .int .i64 0, .int .i64 1, .int .u16 0]) ∧ Below w.heap.size w w' := by
  go_enter Tryd.func19, Tryd.ntmps19
  go_wp2
  refine bodyPost_ret (v := _) ?_ rfl ⟨rfl, ?_⟩
  · simp [results, Tryd.results19, go_sem]
  · with_reducible exact own1 _ _
set_option maxRecDepth 100000 in
set_option maxHeartbeats 2000000 in
theorem low_1_0 (b n : Int) (hb1 : 0 ≤ b) (hb2 : b < 256) (w : World) : Calls Tryd.prog 19 #[.int .i64 1, .int .i64 0, .int .u8 b, .int .u16 n] w fun e w' => e = .returned (.agg #[.int .i64 40, .int .i64 0, .int .i64 0, .int .i64 3, .int .u16 n]) ∧ Below w.heap.size w w' := by
  go_enter Tryd.func19, Tryd.ntmps19
  go_wp2
  refine bodyPost_ret (v := _) ?_ rfl ⟨rfl, ?_⟩
  · simp [results, Tryd.results19, go_sem]
  · with_reducible exact own1 _ _
set_option maxRecDepth 100000 in
set_option maxHeartbeats 2000000 in
theorem low_2_0 (b n : Int) (hb1 : 0 ≤ b) (hb2 : b < 256) (w : World) : Calls Tryd.prog 19 #[.int .i64 2, .int .i64 0, .int .u8 b, .int .u16 n] w fun e w' => e = .returned (.agg #[.int .i64 2, .int .i64 0, .int .i64 0, .int .i64 2, .int .u16 b]) ∧ Below w.heap.size w w' := by
  go_enter Tryd.func19, Tryd.ntmps19
  go_wp2
  refine bodyPost_ret (v := _) ?_ rfl ⟨rfl, ?_⟩
  · simp [results, Tryd.results19, go_sem]
  · with_reducible exact own1 _ _
set_option maxRecDepth 100000 in
set_option maxHeartbeats 2000000 in
theorem low_3_0 (b n : Int) (hb1 : 0 ≤ b) (hb2 : b < 256) (w : World) : Calls Tryd.prog 19 #[.int .i64 3, .int .i64 0, .int .u8 b, .int .u16 n] w fun e w' => e = .returned (.agg #[.int .i64 23, .int .i64 4, .int .i64 0, .int .i64 2, .int .u16 b]) ∧ Below w.heap.size w w' := by
  go_enter Tryd.func19, Tryd.ntmps19
  go_wp2
  refine bodyPost_ret (v := _) ?_ rfl ⟨rfl, ?_⟩
  · simp [results, Tryd.results19, go_sem]
  · with_reducible exact own1 _ _
set_option maxRecDepth 100000 in
set_option maxHeartbeats 2000000 in
theorem low_4_0 (b n : Int) (hb1 : 0 ≤ b) (hb2 : b < 256) (w : World) : Calls Tryd.prog 19 #[.int .i64 4, .int .i64 0, .int .u8 b, .int .u16 n] w fun e w' => e = .returned (.agg #[.int .i64 23, .int .i64 0, .int .i64 0, .int .i64 2, .int .u16 b]) ∧ Below w.heap.size w w' := by
  go_enter Tryd.func19, Tryd.ntmps19
  go_wp2
  refine bodyPost_ret (v := _) ?_ rfl ⟨rfl, ?_⟩
  · simp [results, Tryd.results19, go_sem]
  · with_reducible exact own1 _ _
set_option maxRecDepth 100000 in
set_option maxHeartbeats 2000000 in
theorem low_5_0 (b n : Int) (hb1 : 0 ≤ b) (hb2 : b < 256) (w : World) : Calls Tryd.prog 19 #[.int .i64 5, .int .i64 0, .int .u8 b, .int .u16 n] w fun e w' => e = .returned (.agg #[.int .i64 23, .int .i64 1, .int .i64 0, .int .i64 2, .int .u16 b]) ∧ Below w.heap.size w w' := by
  go_enter Tryd.func19, Tryd.ntmps19
  go_wp2
  refine bodyPost_ret (v := _) ?_ rfl ⟨rfl, ?_⟩
  · simp [results, Tryd.results19, go_sem]
  · with_reducible exact own1 _ _
set_option maxRecDepth 100000 in
set_option maxHeartbeats 2000000 in
theorem low_6_0 (b n : Int) (hb1 : 0 ≤ b) (hb2 : b < 256) (w : World) : Calls Tryd.prog 19 #[.int .i64 6, .int .i64 0, .int .u8 b, .int .u16 n] w fun e w' => e = .returned (.agg #[.int .i64 23, .int .i64 2, .int .i64 0, .int .i64 2, .int .u16 b]) ∧ Below w.heap.size w w' := by
  go_enter Tryd.func19, Tryd.ntmps19
  go_wp2
  refine bodyPost_ret (v := _) ?_ rfl ⟨rfl, ?_⟩
  · simp [results, Tryd.results19, go_sem]
  · with_reducible exact own1 _ _
set_option maxRecDepth 100000 in
set_option maxHeartbeats 2000000 in
theorem low_7_0 (b n : Int) (hb1 : 0 ≤ b) (hb2 : b < 256) (w : World) : Calls Tryd.prog 19 #[.int .i64 7, .int .i64 0, .int .u8 b, .int .u16 n] w fun e w' => e = .returned (.agg #[.int .i64 23, .int .i64 3, .int .i64 0, .int .i64 2, .int .u16 b]) ∧ Below w.heap.size w w' := by
  go_enter Tryd.func19, Tryd.ntmps19
  go_wp2
  refine bodyPost_ret (v := _) ?_ rfl ⟨rfl, ?_⟩
  · simp [results, Tryd.results19, go_sem]
  · with_reducible exact own1 _ _
set_option maxRecDepth 100000 in
set_option maxHeartbeats 2000000 in
theorem low_0_1 (b n : Int) (hb1 : 0 ≤ b) (hb2 : b < 256) (w : World) : Calls Tryd.prog 19 #[.int .i64 0, .int .i64 1, .int .u8 b, .int .u16 n] w fun e w' => e = .returned (.agg #[.int .i64 9, .int .i64 0, .int .i64 0, .int .i64 3, .int .u16 n]) ∧ Below w.heap.size w w' := by
  go_enter Tryd.func19, Tryd.ntmps19
  go_wp2
  refine bodyPost_ret (v := _) ?_ rfl ⟨rfl, ?_⟩
  · simp [results, Tryd.results19, go_sem]
  · with_reducible exact own1 _ _
set_option maxRecDepth 100000 in
set_option maxHeartbeats 2000000 in
theorem low_1_1 (b n : Int) (hb1 : 0 ≤ b) (hb2 : b < 256) (w : World) : Calls Tryd.prog 19 #[.int .i64 1, .int .i64 1, .int .u8 b, .int .u16 n] w fun e w' => e = .returned (.agg #[.int .i64 16, .int .i64 0, .int .i64 0, .int .i64 1, .int .u16 0]) ∧ Below w.heap.size w w' := by
  go_enter Tryd.func19, Tryd.ntmps19
  go_wp2
  refine bodyPost_ret (v := _) ?_ rfl ⟨rfl, ?_⟩
  · simp [results, Tryd.results19, go_sem]
  · with_reducible exact own1 _ _
set_option maxRecDepth 100000 in
set_option maxHeartbeats 2000000 in
theorem low_2_1 (b n : Int) (hb1 : 0 ≤ b) (hb2 : b < 256) (w : World) : Calls Tryd.prog 19 #[.int .i64 2, .int .i64 1, .int .u8 b, .int .u16 n] w fun e w' => e = .returned (.agg #[.int .i64 9, .int .i64 1, .int .i64 0, .int .i64 3, .int .u16 n]) ∧ Below w.heap.size w w' := by
  go_enter Tryd.func19, Tryd.ntmps19
  go_wp2
  refine bodyPost_ret (v := _) ?_ rfl ⟨rfl, ?_⟩
  · simp [results, Tryd.results19, go_sem]
  · with_reducible exact own1 _ _
set_option maxRecDepth 100000 in
set_option maxHeartbeats 2000000 in
theorem low_3_1 (b n : Int) (hb1 : 0 ≤ b) (hb2 : b < 256) (w : World) : Calls Tryd.prog 19 #[.int .i64 3, .int .i64 1, .int .u8 b, .int .u16 n] w fun e w' => e = .returned (.agg #[.int .i64 16, .int .i64 1, .int .i64 0, .int .i64 1, .int .u16 0]) ∧ Below w.heap.size w w' := by
  go_enter Tryd.func19, Tryd.ntmps19
  go_wp2
  refine bodyPost_ret (v := _) ?_ rfl ⟨rfl, ?_⟩
  · simp [results, Tryd.results19, go_sem]
  · with_reducible exact own1 _ _
set_option maxRecDepth 100000 in
set_option maxHeartbeats 2000000 in
theorem low_4_1 (b n : Int) (hb1 : 0 ≤ b) (hb2 : b < 256) (w : World) : Calls Tryd.prog 19 #[.int .i64 4, .int .i64 1, .int .u8 b, .int .u16 n] w fun e w' => e = .returned (.agg #[.int .i64 9, .int .i64 2, .int .i64 0, .int .i64 3, .int .u16 n]) ∧ Below w.heap.size w w' := by
  go_enter Tryd.func19, Tryd.ntmps19
  go_wp2
  refine bodyPost_ret (v := _) ?_ rfl ⟨rfl, ?_⟩
  · simp [results, Tryd.results19, go_sem]
  · with_reducible exact own1 _ _
set_option maxRecDepth 100000 in
set_option maxHeartbeats 2000000 in
theorem low_5_1 (b n : Int) (hb1 : 0 ≤ b) (hb2 : b < 256) (w : World) : Calls Tryd.prog 19 #[.int .i64 5, .int .i64 1, .int .u8 b, .int .u16 n] w fun e w' => e = .returned (.agg #[.int .i64 16, .int .i64 2, .int .i64 0, .int .i64 1, .int .u16 0]) ∧ Below w.heap.size w w' := by
  go_enter Tryd.func19, Tryd.ntmps19
  go_wp2
  refine bodyPost_ret (v := _) ?_ rfl ⟨rfl, ?_⟩
  · simp [results, Tryd.results19, go_sem]
  · with_reducible exact own1 _ _
set_option maxRecDepth 100000 in
set_option maxHeartbeats 2000000 in
theorem low_6_1 (b n : Int) (hb1 : 0 ≤ b) (hb2 : b < 256) (w : World) : Calls Tryd.prog 19 #[.int .i64 6, .int .i64 1, .int .u8 b, .int .u16 n] w fun e w' => e = .returned (.agg #[.int .i64 9, .int .i64 3, .int .i64 0, .int .i64 3, .int .u16 n]) ∧ Below w.heap.size w w' := by
  go_enter Tryd.func19, Tryd.ntmps19
  go_wp2
  refine bodyPost_ret (v := _) ?_ rfl ⟨rfl, ?_⟩
  · simp [results, Tryd.results19, go_sem]
  · with_reducible exact own1 _ _
set_option maxRecDepth 100000 in
set_option maxHeartbeats 2000000 in
theorem low_7_1 (b n : Int) (hb1 : 0 ≤ b) (hb2 : b < 256) (w : World) : Calls Tryd.prog 19 #[.int .i64 7, .int .i64 1, .int .u8 b, .int .u16 n] w fun e w' => e = .returned (.agg #[.int .i64 16, .int .i64 3, .int .i64 0, .int .i64 1, .int .u16 0]) ∧ Below w.heap.size w w' := by
  go_enter Tryd.func19, Tryd.ntmps19
  go_wp2
  refine bodyPost_ret (v := _) ?_ rfl ⟨rfl, ?_⟩
  · simp [results, Tryd.results19, go_sem]
  · with_reducible exact own1 _ _
set_option maxRecDepth 100000 in
set_option maxHeartbeats 2000000 in
theorem low_0_2 (b n : Int) (hb1 : 0 ≤ b) (hb2 : b < 256) (w : World) : Calls Tryd.prog 19 #[.int .i64 0, .int .i64 2, .int .u8 b, .int .u16 n] w fun e w' => e = .returned (.agg #[.int .i64 33, .int .i64 0, .int .i64 0, .int .i64 1, .int .u16 0]) ∧ Below w.heap.size w w' := by
  go_enter Tryd.func19, Tryd.ntmps19
  go_wp2
  refine bodyPost_ret (v := _) ?_ rfl ⟨rfl, ?_⟩
  · simp [results, Tryd.results19, go_sem]
  · with_reducible exact own1 _ _
set_option maxRecDepth 100000 in
set_option maxHeartbeats 2000000 in
theorem low_1_2 (b n : Int) (hb1 : 0 ≤ b) (hb2 : b < 256) (w : World) : Calls Tryd.prog 19 #[.int .i64 1, .int .i64 2, .int .u8 b, .int .u16 n] w fun e w' => e = .returned (.agg #[.int .i64 32, .int .i64 0, .int .i64 0, .int .i64 1, .int .u16 0]) ∧ Below w.heap.size w w' := by
  go_enter Tryd.func19, Tryd.ntmps19
  go_wp2
  refine bodyPost_ret (v := _) ?_ rfl ⟨rfl, ?_⟩
  · simp [results, Tryd.results19, go_sem]
  · with_reducible exact own1 _ _
set_option maxRecDepth 100000 in
set_option maxHeartbeats 2000000 in
theorem low_2_2 (b n : Int) (hb1 : 0 ≤ b) (hb2 : b < 256) (w : World) : Calls Tryd.prog 19 #[.int .i64 2, .int .i64 2, .int .u8 b, .int .u16 n] w fun e w' => e = .returned (.agg #[.int .i64 33, .int .i64 1, .int .i64 0, .int .i64 1, .int .u16 0]) ∧ Below w.heap.size w w' := by
  go_enter Tryd.func19, Tryd.ntmps19
  go_wp2
  refine bodyPost_ret (v := _) ?_ rfl ⟨rfl, ?_⟩
  · simp [results, Tryd.results19, go_sem]
  · with_reducible exact own1 _ _
set_option maxRecDepth 100000 in
set_option maxHeartbeats 2000000 in
theorem low_3_2 (b n : Int) (hb1 : 0 ≤ b) (hb2 : b < 256) (w : World) : Calls Tryd.prog 19 #[.int .i64 3, .int .i64 2, .int .u8 b, .int .u16 n] w fun e w' => e = .returned (.agg #[.int .i64 32, .int .i64 1, .int .i64 0, .int .i64 1, .int .u16 0]) ∧ Below w.heap.size w w' := by
  go_enter Tryd.func19, Tryd.ntmps19
  go_wp2
  refine bodyPost_ret (v := _) ?_ rfl ⟨rfl, ?_⟩
  · simp [results, Tryd.results19, go_sem]
  · with_reducible exact own1 _ _
set_option maxRecDepth 100000 in
set_option maxHeartbeats 2000000 in
theorem low_4_2 (b n : Int) (hb1 : 0 ≤ b) (hb2 : b < 256) (w : World) : Calls Tryd.prog 19 #[.int .i64 4, .int .i64 2, .int .u8 b, .int .u16 n] w fun e w' => e = .returned (.agg #[.int .i64 33, .int .i64 2, .int .i64 0, .int .i64 1, .int .u16 0]) ∧ Below w.heap.size w w' := by
  go_enter Tryd.func19, Tryd.ntmps19
  go_wp2
  refine bodyPost_ret (v := _) ?_ rfl ⟨rfl, ?_⟩
  · simp [results, Tryd.results19, go_sem]
  · with_reducible exact own1 _ _
set_option maxRecDepth 100000 in
set_option maxHeartbeats 2000000 in
theorem low_5_2 (b n : Int) (hb1 : 0 ≤ b) (hb2 : b < 256) (w : World) : Calls Tryd.prog 19 #[.int .i64 5, .int .i64 2, .int .u8 b, .int .u16 n] w fun e w' => e = .returned (.agg #[.int .i64 32, .int .i64 2, .int .i64 0, .int .i64 1, .int .u16 0]) ∧ Below w.heap.size w w' := by
  go_enter Tryd.func19, Tryd.ntmps19
  go_wp2
  refine bodyPost_ret (v := _) ?_ rfl ⟨rfl, ?_⟩
  · simp [results, Tryd.results19, go_sem]
  · with_reducible exact own1 _ _
set_option maxRecDepth 100000 in
set_option maxHeartbeats 2000000 in
theorem low_6_2 (b n : Int) (hb1 : 0 ≤ b) (hb2 : b < 256) (w : World) : Calls Tryd.prog 19 #[.int .i64 6, .int .i64 2, .int .u8 b, .int .u16 n] w fun e w' => e = .returned (.agg #[.int .i64 33, .int .i64 3, .int .i64 0, .int .i64 1, .int .u16 0]) ∧ Below w.heap.size w w' := by
  go_enter Tryd.func19, Tryd.ntmps19
  go_wp2
  refine bodyPost_ret (v := _) ?_ rfl ⟨rfl, ?_⟩
  · simp [results, Tryd.results19, go_sem]
  · with_reducible exact own1 _ _
set_option maxRecDepth 100000 in
set_option maxHeartbeats 2000000 in
theorem low_7_2 (b n : Int) (hb1 : 0 ≤ b) (hb2 : b < 256) (w : World) : Calls Tryd.prog 19 #[.int .i64 7, .int .i64 2, .int .u8 b, .int .u16 n] w fun e w' => e = .returned (.agg #[.int .i64 32, .int .i64 3, .int .i64 0, .int .i64 1, .int .u16 0]) ∧ Below w.heap.size w w' := by
  go_enter Tryd.func19, Tryd.ntmps19
  go_wp2
  refine bodyPost_ret (v := _) ?_ rfl ⟨rfl, ?_⟩
  · simp [results, Tryd.results19, go_sem]
  · with_reducible exact own1 _ _
end Go.Proofs.YtaggebfcfebomaaDoor
