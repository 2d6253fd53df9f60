/-
  What the document's decoding of a first byte returns, digit by digit: for every world; no other condition.
-/
import Derived.Test.YtaggebfcfebomaaDoorRef0
namespace Go.Proofs.YtaggebfcfebomaaDoor
open Go.ChangeShapes Go.WideShapes Go.ChangeAt Go.RowKit
set_option linter.unusedVariables false
set_option maxRecDepth 100000 in
set_option maxHeartbeats 2000000 in
theorem low_0_3 (b n : Int) (hb1 : 0 ≤ b) (hb2 : b < 256) (w : World) : Calls Tryd.prog 19 #[.int .i64 0, .int .i64 3, .int .u8 b, .int .u16 n] w fun e w' => e = .returned (.agg #[.int .i64 14, .int .i64 0, .int .i64 0, .int .i64 1, .int .u16 0]) ∧ Below w.heap.size w w' := by
  go_enter Tryd.func19, Tryd.ntmps19
  go_wp2
  refine bodyPost_ret (v := _) ?_ rfl ⟨rfl, ?_⟩
  · simp [results, Tryd.results19, go_sem]
  · with_reducible exact own1 _ _
set_option maxRecDepth 100000 in
set_option maxHeartbeats 2000000 in
theorem low_1_3 (b n : Int) (hb1 : 0 ≤ b) (hb2 : b < 256) (w : World) : Calls Tryd.prog 19 #[.int .i64 1, .int .i64 3, .int .u8 b, .int .u16 n] w fun e w' => e = .returned (.agg #[.int .i64 15, .int .i64 0, .int .i64 0, .int .i64 1, .int .u16 0]) ∧ Below w.heap.size w w' := by
  go_enter Tryd.func19, Tryd.ntmps19
  go_wp2
  refine bodyPost_ret (v := _) ?_ rfl ⟨rfl, ?_⟩
  · simp [results, Tryd.results19, go_sem]
  · with_reducible exact own1 _ _
set_option maxRecDepth 100000 in
set_option maxHeartbeats 2000000 in
theorem low_2_3 (b n : Int) (hb1 : 0 ≤ b) (hb2 : b < 256) (w : World) : Calls Tryd.prog 19 #[.int .i64 2, .int .i64 3, .int .u8 b, .int .u16 n] w fun e w' => e = .returned (.agg #[.int .i64 14, .int .i64 1, .int .i64 0, .int .i64 1, .int .u16 0]) ∧ Below w.heap.size w w' := by
  go_enter Tryd.func19, Tryd.ntmps19
  go_wp2
  refine bodyPost_ret (v := _) ?_ rfl ⟨rfl, ?_⟩
  · simp [results, Tryd.results19, go_sem]
  · with_reducible exact own1 _ _
set_option maxRecDepth 100000 in
set_option maxHeartbeats 2000000 in
theorem low_3_3 (b n : Int) (hb1 : 0 ≤ b) (hb2 : b < 256) (w : World) : Calls Tryd.prog 19 #[.int .i64 3, .int .i64 3, .int .u8 b, .int .u16 n] w fun e w' => e = .returned (.agg #[.int .i64 15, .int .i64 1, .int .i64 0, .int .i64 1, .int .u16 0]) ∧ Below w.heap.size w w' := by
  go_enter Tryd.func19, Tryd.ntmps19
  go_wp2
  refine bodyPost_ret (v := _) ?_ rfl ⟨rfl, ?_⟩
  · simp [results, Tryd.results19, go_sem]
  · with_reducible exact own1 _ _
set_option maxRecDepth 100000 in
set_option maxHeartbeats 2000000 in
theorem low_4_3 (b n : Int) (hb1 : 0 ≤ b) (hb2 : b < 256) (w : World) : Calls Tryd.prog 19 #[.int .i64 4, .int .i64 3, .int .u8 b, .int .u16 n] w fun e w' => e = .returned (.agg #[.int .i64 14, .int .i64 2, .int .i64 0, .int .i64 1, .int .u16 0]) ∧ Below w.heap.size w w' := by
  go_enter Tryd.func19, Tryd.ntmps19
  go_wp2
  refine bodyPost_ret (v := _) ?_ rfl ⟨rfl, ?_⟩
  · simp [results, Tryd.results19, go_sem]
  · with_reducible exact own1 _ _
set_option maxRecDepth 100000 in
set_option maxHeartbeats 2000000 in
theorem low_5_3 (b n : Int) (hb1 : 0 ≤ b) (hb2 : b < 256) (w : World) : Calls Tryd.prog 19 #[.int .i64 5, .int .i64 3, .int .u8 b, .int .u16 n] w fun e w' => e = .returned (.agg #[.int .i64 15, .int .i64 2, .int .i64 0, .int .i64 1, .int .u16 0]) ∧ Below w.heap.size w w' := by
  go_enter Tryd.func19, Tryd.ntmps19
  go_wp2
  refine bodyPost_ret (v := _) ?_ rfl ⟨rfl, ?_⟩
  · simp [results, Tryd.results19, go_sem]
  · with_reducible exact own1 _ _
set_option maxRecDepth 100000 in
set_option maxHeartbeats 2000000 in
theorem low_6_3 (b n : Int) (hb1 : 0 ≤ b) (hb2 : b < 256) (w : World) : Calls Tryd.prog 19 #[.int .i64 6, .int .i64 3, .int .u8 b, .int .u16 n] w fun e w' => e = .returned (.agg #[.int .i64 14, .int .i64 3, .int .i64 0, .int .i64 1, .int .u16 0]) ∧ Below w.heap.size w w' := by
  go_enter Tryd.func19, Tryd.ntmps19
  go_wp2
  refine bodyPost_ret (v := _) ?_ rfl ⟨rfl, ?_⟩
  · simp [results, Tryd.results19, go_sem]
  · with_reducible exact own1 _ _
set_option maxRecDepth 100000 in
set_option maxHeartbeats 2000000 in
theorem low_7_3 (b n : Int) (hb1 : 0 ≤ b) (hb2 : b < 256) (w : World) : Calls Tryd.prog 19 #[.int .i64 7, .int .i64 3, .int .u8 b, .int .u16 n] w fun e w' => e = .returned (.agg #[.int .i64 15, .int .i64 3, .int .i64 0, .int .i64 1, .int .u16 0]) ∧ Below w.heap.size w w' := by
  go_enter Tryd.func19, Tryd.ntmps19
  go_wp2
  refine bodyPost_ret (v := _) ?_ rfl ⟨rfl, ?_⟩
  · simp [results, Tryd.results19, go_sem]
  · with_reducible exact own1 _ _
set_option maxRecDepth 100000 in
set_option maxHeartbeats 2000000 in
theorem low_y_4 (y : Int) (hy1 : 0 ≤ y) (hy2 : y < 8) (b n : Int) (hb1 : 0 ≤ b) (hb2 : b < 256) (w : World) : Calls Tryd.prog 19 #[.int .i64 y, .int .i64 4, .int .u8 b, .int .u16 n] w fun e w' => e = .returned (.agg #[.int .i64 12, .int .i64 y, .int .i64 0, .int .i64 1, .int .u16 0]) ∧ Below w.heap.size w w' := by
  go_enter Tryd.func19, Tryd.ntmps19
  go_wp2
  refine bodyPost_ret (v := _) ?_ rfl ⟨rfl, ?_⟩
  · simp [results, Tryd.results19, go_sem]
  · with_reducible exact own1 _ _
set_option maxRecDepth 100000 in
set_option maxHeartbeats 2000000 in
theorem low_y_5 (y : Int) (hy1 : 0 ≤ y) (hy2 : y < 8) (b n : Int) (hb1 : 0 ≤ b) (hb2 : b < 256) (w : World) : Calls Tryd.prog 19 #[.int .i64 y, .int .i64 5, .int .u8 b, .int .u16 n] w fun e w' => e = .returned (.agg #[.int .i64 13, .int .i64 y, .int .i64 0, .int .i64 1, .int .u16 0]) ∧ Below w.heap.size w w' := by
  go_enter Tryd.func19, Tryd.ntmps19
  go_wp2
  refine bodyPost_ret (v := _) ?_ rfl ⟨rfl, ?_⟩
  · simp [results, Tryd.results19, go_sem]
  · with_reducible exact own1 _ _
set_option maxRecDepth 100000 in
set_option maxHeartbeats 2000000 in
theorem low_y_6 (y : Int) (hy1 : 0 ≤ y) (hy2 : y < 8) (b n : Int) (hb1 : 0 ≤ b) (hb2 : b < 256) (w : World) : Calls Tryd.prog 19 #[.int .i64 y, .int .i64 6, .int .u8 b, .int .u16 n] w fun e w' => e = .returned (.agg #[.int .i64 8, .int .i64 y, .int .i64 0, .int .i64 2, .int .u16 b]) ∧ Below w.heap.size w w' := by
  go_enter Tryd.func19, Tryd.ntmps19
  go_wp2
  refine bodyPost_ret (v := _) ?_ rfl ⟨rfl, ?_⟩
  · simp [results, Tryd.results19, go_sem]
  · with_reducible exact own1 _ _
set_option maxRecDepth 100000 in
set_option maxHeartbeats 2000000 in
theorem low_0_7 (b n : Int) (hb1 : 0 ≤ b) (hb2 : b < 256) (w : World) : Calls Tryd.prog 19 #[.int .i64 0, .int .i64 7, .int .u8 b, .int .u16 n] w fun e w' => e = .returned (.agg #[.int .i64 18, .int .i64 0, .int .i64 0, .int .i64 1, .int .u16 0]) ∧ Below w.heap.size w w' := by
  go_enter Tryd.func19, Tryd.ntmps19
  go_wp2
  refine bodyPost_ret (v := _) ?_ rfl ⟨rfl, ?_⟩
  · simp [results, Tryd.results19, go_sem]
  · with_reducible exact own1 _ _
set_option maxRecDepth 100000 in
set_option maxHeartbeats 2000000 in
theorem low_1_7 (b n : Int) (hb1 : 0 ≤ b) (hb2 : b < 256) (w : World) : Calls Tryd.prog 19 #[.int .i64 1, .int .i64 7, .int .u8 b, .int .u16 n] w fun e w' => e = .returned (.agg #[.int .i64 18, .int .i64 1, .int .i64 0, .int .i64 1, .int .u16 0]) ∧ Below w.heap.size w w' := by
  go_enter Tryd.func19, Tryd.ntmps19
  go_wp2
  refine bodyPost_ret (v := _) ?_ rfl ⟨rfl, ?_⟩
  · simp [results, Tryd.results19, go_sem]
  · with_reducible exact own1 _ _
set_option maxRecDepth 100000 in
set_option maxHeartbeats 2000000 in
theorem low_2_7 (b n : Int) (hb1 : 0 ≤ b) (hb2 : b < 256) (w : World) : Calls Tryd.prog 19 #[.int .i64 2, .int .i64 7, .int .u8 b, .int .u16 n] w fun e w' => e = .returned (.agg #[.int .i64 18, .int .i64 2, .int .i64 0, .int .i64 1, .int .u16 0]) ∧ Below w.heap.size w w' := by
  go_enter Tryd.func19, Tryd.ntmps19
  go_wp2
  refine bodyPost_ret (v := _) ?_ rfl ⟨rfl, ?_⟩
  · simp [results, Tryd.results19, go_sem]
  · with_reducible exact own1 _ _
set_option maxRecDepth 100000 in
set_option maxHeartbeats 2000000 in
theorem low_3_7 (b n : Int) (hb1 : 0 ≤ b) (hb2 : b < 256) (w : World) : Calls Tryd.prog 19 #[.int .i64 3, .int .i64 7, .int .u8 b, .int .u16 n] w fun e w' => e = .returned (.agg #[.int .i64 18, .int .i64 3, .int .i64 0, .int .i64 1, .int .u16 0]) ∧ Below w.heap.size w w' := by
  go_enter Tryd.func19, Tryd.ntmps19
  go_wp2
  refine bodyPost_ret (v := _) ?_ rfl ⟨rfl, ?_⟩
  · simp [results, Tryd.results19, go_sem]
  · with_reducible exact own1 _ _
set_option maxRecDepth 100000 in
set_option maxHeartbeats 2000000 in
theorem low_4_7 (b n : Int) (hb1 : 0 ≤ b) (hb2 : b < 256) (w : World) : Calls Tryd.prog 19 #[.int .i64 4, .int .i64 7, .int .u8 b, .int .u16 n] w fun e w' => e = .returned (.agg #[.int .i64 19, .int .i64 0, .int .i64 0, .int .i64 1, .int .u16 0]) ∧ Below w.heap.size w w' := by
  go_enter Tryd.func19, Tryd.ntmps19
  go_wp2
  refine bodyPost_ret (v := _) ?_ rfl ⟨rfl, ?_⟩
  · simp [results, Tryd.results19, go_sem]
  · with_reducible exact own1 _ _
set_option maxRecDepth 100000 in
set_option maxHeartbeats 2000000 in
theorem low_5_7 (b n : Int) (hb1 : 0 ≤ b) (hb2 : b < 256) (w : World) : Calls Tryd.prog 19 #[.int .i64 5, .int .i64 7, .int .u8 b, .int .u16 n] w fun e w' => e = .returned (.agg #[.int .i64 20, .int .i64 0, .int .i64 0, .int .i64 1, .int .u16 0]) ∧ Below w.heap.size w w' := by
  go_enter Tryd.func19, Tryd.ntmps19
  go_wp2
  refine bodyPost_ret (v := _) ?_ rfl ⟨rfl, ?_⟩
  · simp [results, Tryd.results19, go_sem]
  · with_reducible exact own1 _ _
set_option maxRecDepth 100000 in
set_option maxHeartbeats 2000000 in
theorem low_6_7 (b n : Int) (hb1 : 0 ≤ b) (hb2 : b < 256) (w : World) : Calls Tryd.prog 19 #[.int .i64 6, .int .i64 7, .int .u8 b, .int .u16 n] w fun e w' => e = .returned (.agg #[.int .i64 21, .int .i64 0, .int .i64 0, .int .i64 1, .int .u16 0]) ∧ Below w.heap.size w w' := by
  go_enter Tryd.func19, Tryd.ntmps19
  go_wp2
  refine bodyPost_ret (v := _) ?_ rfl ⟨rfl, ?_⟩
  · simp [results, Tryd.results19, go_sem]
  · with_reducible exact own1 _ _
set_option maxRecDepth 100000 in
set_option maxHeartbeats 2000000 in
theorem low_7_7 (b n : Int) (hb1 : 0 ≤ b) (hb2 : b < 256) (w : World) : Calls Tryd.prog 19 #[.int .i64 7, .int .i64 7, .int .u8 b, .int .u16 n] w fun e w' => e = .returned (.agg #[.int .i64 22, .int .i64 0, .int .i64 0, .int .i64 1, .int .u16 0]) ∧ Below w.heap.size w w' := by
  go_enter Tryd.func19, Tryd.ntmps19
  go_wp2
  refine bodyPost_ret (v := _) ?_ rfl ⟨rfl, ?_⟩
  · simp [results, Tryd.results19, go_sem]
  · with_reducible exact own1 _ _
end Go.Proofs.YtaggebfcfebomaaDoor
