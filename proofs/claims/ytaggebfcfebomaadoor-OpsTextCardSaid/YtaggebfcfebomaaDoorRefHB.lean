/-
  What the document's decoding of a first byte returns, digit by digit: for every world; no other condition.
-/
import Derived.Test.YtaggebfcfebomaaDoorRef0
namespace Go.Proofs.YtaggebfcfebomaaDoor
open Go.ChangeShapes Go.WideShapes Go.ChangeAt Go.RowKit
set_option linter.unusedVariables false
set_option maxRecDepth 100000 in
set_option maxHeartbeats 2000000 in
theorem high_0_3 (b n : Int) (hb1 : 0 ≤ b) (hb2 : b < 256) (w : World) : Calls Tryd.prog 20 #[.int .i64 0, .int .i64 3, .int .u8 b, .int .u16 n] w fun e w' => e = .returned (.agg #[.int .i64 24, .int .i64 4, .int .i64 0, .int .i64 3, .int .u16 n]) ∧ Below w.heap.size w w' := by
  go_enter Tryd.func20, Tryd.ntmps20
  go_wp2
  refine bodyPost_ret (v := _) ?_ rfl ⟨rfl, ?_⟩
  · simp [results, Tryd.results20, go_sem]
  · with_reducible exact own1 _ _
set_option maxRecDepth 100000 in
set_option maxHeartbeats 2000000 in
theorem high_2_3 (b n : Int) (hb1 : 0 ≤ b) (hb2 : b < 256) (w : World) : Calls Tryd.prog 20 #[.int .i64 2, .int .i64 3, .int .u8 b, .int .u16 n] w fun e w' => e = .returned (.agg #[.int .i64 4, .int .i64 0, .int .i64 0, .int .i64 1, .int .u16 0]) ∧ Below w.heap.size w w' := by
  go_enter Tryd.func20, Tryd.ntmps20
  go_wp2
  refine bodyPost_ret (v := _) ?_ rfl ⟨rfl, ?_⟩
  · simp [results, Tryd.results20, go_sem]
  · with_reducible exact own1 _ _
set_option maxRecDepth 100000 in
set_option maxHeartbeats 2000000 in
theorem high_3_3 (b n : Int) (hb1 : 0 ≤ b) (hb2 : b < 256) (w : World) : Calls Tryd.prog 20 #[.int .i64 3, .int .i64 3, .int .u8 b, .int .u16 n] w fun e w' => e = .returned (.agg #[.int .i64 4, .int .i64 0, .int .i64 0, .int .i64 1, .int .u16 0]) ∧ Below w.heap.size w w' := by
  go_enter Tryd.func20, Tryd.ntmps20
  go_wp2
  refine bodyPost_ret (v := _) ?_ rfl ⟨rfl, ?_⟩
  · simp [results, Tryd.results20, go_sem]
  · with_reducible exact own1 _ _
set_option maxRecDepth 100000 in
set_option maxHeartbeats 2000000 in
theorem high_4_3 (b n : Int) (hb1 : 0 ≤ b) (hb2 : b < 256) (w : World) : Calls Tryd.prog 20 #[.int .i64 4, .int .i64 3, .int .u8 b, .int .u16 n] w fun e w' => e = .returned (.agg #[.int .i64 4, .int .i64 0, .int .i64 0, .int .i64 1, .int .u16 0]) ∧ Below w.heap.size w w' := by
  go_enter Tryd.func20, Tryd.ntmps20
  go_wp2
  refine bodyPost_ret (v := _) ?_ rfl ⟨rfl, ?_⟩
  · simp [results, Tryd.results20, go_sem]
  · with_reducible exact own1 _ _
set_option maxRecDepth 100000 in
set_option maxHeartbeats 2000000 in
theorem high_5_3 (b n : Int) (hb1 : 0 ≤ b) (hb2 : b < 256) (w : World) : Calls Tryd.prog 20 #[.int .i64 5, .int .i64 3, .int .u8 b, .int .u16 n] w fun e w' => e = .returned (.agg #[.int .i64 4, .int .i64 0, .int .i64 0, .int .i64 1, .int .u16 0]) ∧ Below w.heap.size w w' := by
  go_enter Tryd.func20, Tryd.ntmps20
  go_wp2
  refine bodyPost_ret (v := _) ?_ rfl ⟨rfl, ?_⟩
  · simp [results, Tryd.results20, go_sem]
  · with_reducible exact own1 _ _
set_option maxRecDepth 100000 in
set_option maxHeartbeats 2000000 in
theorem high_6_3 (b n : Int) (hb1 : 0 ≤ b) (hb2 : b < 256) (w : World) : Calls Tryd.prog 20 #[.int .i64 6, .int .i64 3, .int .u8 b, .int .u16 n] w fun e w' => e = .returned (.agg #[.int .i64 5, .int .i64 0, .int .i64 0, .int .i64 1, .int .u16 0]) ∧ Below w.heap.size w w' := by
  go_enter Tryd.func20, Tryd.ntmps20
  go_wp2
  refine bodyPost_ret (v := _) ?_ rfl ⟨rfl, ?_⟩
  · simp [results, Tryd.results20, go_sem]
  · with_reducible exact own1 _ _
set_option maxRecDepth 100000 in
set_option maxHeartbeats 2000000 in
theorem high_7_3 (b n : Int) (hb1 : 0 ≤ b) (hb2 : b < 256) (w : World) : Calls Tryd.prog 20 #[.int .i64 7, .int .i64 3, .int .u8 b, .int .u16 n] w fun e w' => e = .returned (.agg #[.int .i64 6, .int .i64 0, .int .i64 0, .int .i64 1, .int .u16 0]) ∧ Below w.heap.size w w' := by
  go_enter Tryd.func20, Tryd.ntmps20
  go_wp2
  refine bodyPost_ret (v := _) ?_ rfl ⟨rfl, ?_⟩
  · simp [results, Tryd.results20, go_sem]
  · with_reducible exact own1 _ _
set_option maxRecDepth 100000 in
set_option maxHeartbeats 2000000 in
theorem high_0_4 (b n : Int) (hb1 : 0 ≤ b) (hb2 : b < 256) (w : World) : Calls Tryd.prog 20 #[.int .i64 0, .int .i64 4, .int .u8 b, .int .u16 n] w fun e w' => e = .returned (.agg #[.int .i64 25, .int .i64 0, .int .i64 0, .int .i64 3, .int .u16 n]) ∧ Below w.heap.size w w' := by
  go_enter Tryd.func20, Tryd.ntmps20
  go_wp2
  refine bodyPost_ret (v := _) ?_ rfl ⟨rfl, ?_⟩
  · simp [results, Tryd.results20, go_sem]
  · with_reducible exact own1 _ _
set_option maxRecDepth 100000 in
set_option maxHeartbeats 2000000 in
theorem high_1_4 (b n : Int) (hb1 : 0 ≤ b) (hb2 : b < 256) (w : World) : Calls Tryd.prog 20 #[.int .i64 1, .int .i64 4, .int .u8 b, .int .u16 n] w fun e w' => e = .returned (.agg #[.int .i64 25, .int .i64 1, .int .i64 0, .int .i64 3, .int .u16 n]) ∧ Below w.heap.size w w' := by
  go_enter Tryd.func20, Tryd.ntmps20
  go_wp2
  refine bodyPost_ret (v := _) ?_ rfl ⟨rfl, ?_⟩
  · simp [results, Tryd.results20, go_sem]
  · with_reducible exact own1 _ _
set_option maxRecDepth 100000 in
set_option maxHeartbeats 2000000 in
theorem high_2_4 (b n : Int) (hb1 : 0 ≤ b) (hb2 : b < 256) (w : World) : Calls Tryd.prog 20 #[.int .i64 2, .int .i64 4, .int .u8 b, .int .u16 n] w fun e w' => e = .returned (.agg #[.int .i64 25, .int .i64 2, .int .i64 0, .int .i64 3, .int .u16 n]) ∧ Below w.heap.size w w' := by
  go_enter Tryd.func20, Tryd.ntmps20
  go_wp2
  refine bodyPost_ret (v := _) ?_ rfl ⟨rfl, ?_⟩
  · simp [results, Tryd.results20, go_sem]
  · with_reducible exact own1 _ _
set_option maxRecDepth 100000 in
set_option maxHeartbeats 2000000 in
theorem high_3_4 (b n : Int) (hb1 : 0 ≤ b) (hb2 : b < 256) (w : World) : Calls Tryd.prog 20 #[.int .i64 3, .int .i64 4, .int .u8 b, .int .u16 n] w fun e w' => e = .returned (.agg #[.int .i64 25, .int .i64 3, .int .i64 0, .int .i64 3, .int .u16 n]) ∧ Below w.heap.size w w' := by
  go_enter Tryd.func20, Tryd.ntmps20
  go_wp2
  refine bodyPost_ret (v := _) ?_ rfl ⟨rfl, ?_⟩
  · simp [results, Tryd.results20, go_sem]
  · with_reducible exact own1 _ _
set_option maxRecDepth 100000 in
set_option maxHeartbeats 2000000 in
theorem high_4_4 (b n : Int) (hb1 : 0 ≤ b) (hb2 : b < 256) (w : World) : Calls Tryd.prog 20 #[.int .i64 4, .int .i64 4, .int .u8 b, .int .u16 n] w fun e w' => e = .returned (.agg #[.int .i64 4, .int .i64 0, .int .i64 0, .int .i64 1, .int .u16 0]) ∧ Below w.heap.size w w' := by
  go_enter Tryd.func20, Tryd.ntmps20
  go_wp2
  refine bodyPost_ret (v := _) ?_ rfl ⟨rfl, ?_⟩
  · simp [results, Tryd.results20, go_sem]
  · with_reducible exact own1 _ _
set_option maxRecDepth 100000 in
set_option maxHeartbeats 2000000 in
theorem high_5_4 (b n : Int) (hb1 : 0 ≤ b) (hb2 : b < 256) (w : World) : Calls Tryd.prog 20 #[.int .i64 5, .int .i64 4, .int .u8 b, .int .u16 n] w fun e w' => e = .returned (.agg #[.int .i64 4, .int .i64 0, .int .i64 0, .int .i64 1, .int .u16 0]) ∧ Below w.heap.size w w' := by
  go_enter Tryd.func20, Tryd.ntmps20
  go_wp2
  refine bodyPost_ret (v := _) ?_ rfl ⟨rfl, ?_⟩
  · simp [results, Tryd.results20, go_sem]
  · with_reducible exact own1 _ _
set_option maxRecDepth 100000 in
set_option maxHeartbeats 2000000 in
theorem high_6_4 (b n : Int) (hb1 : 0 ≤ b) (hb2 : b < 256) (w : World) : Calls Tryd.prog 20 #[.int .i64 6, .int .i64 4, .int .u8 b, .int .u16 n] w fun e w' => e = .returned (.agg #[.int .i64 4, .int .i64 0, .int .i64 0, .int .i64 1, .int .u16 0]) ∧ Below w.heap.size w w' := by
  go_enter Tryd.func20, Tryd.ntmps20
  go_wp2
  refine bodyPost_ret (v := _) ?_ rfl ⟨rfl, ?_⟩
  · simp [results, Tryd.results20, go_sem]
  · with_reducible exact own1 _ _
set_option maxRecDepth 100000 in
set_option maxHeartbeats 2000000 in
theorem high_7_4 (b n : Int) (hb1 : 0 ≤ b) (hb2 : b < 256) (w : World) : Calls Tryd.prog 20 #[.int .i64 7, .int .i64 4, .int .u8 b, .int .u16 n] w fun e w' => e = .returned (.agg #[.int .i64 4, .int .i64 0, .int .i64 0, .int .i64 1, .int .u16 0]) ∧ Below w.heap.size w w' := by
  go_enter Tryd.func20, Tryd.ntmps20
  go_wp2
  refine bodyPost_ret (v := _) ?_ rfl ⟨rfl, ?_⟩
  · simp [results, Tryd.results20, go_sem]
  · with_reducible exact own1 _ _
set_option maxRecDepth 100000 in
set_option maxHeartbeats 2000000 in
theorem high_0_5 (b n : Int) (hb1 : 0 ≤ b) (hb2 : b < 256) (w : World) : Calls Tryd.prog 20 #[.int .i64 0, .int .i64 5, .int .u8 b, .int .u16 n] w fun e w' => e = .returned (.agg #[.int .i64 30, .int .i64 0, .int .i64 0, .int .i64 1, .int .u16 0]) ∧ Below w.heap.size w w' := by
  go_enter Tryd.func20, Tryd.ntmps20
  go_wp2
  refine bodyPost_ret (v := _) ?_ rfl ⟨rfl, ?_⟩
  · simp [results, Tryd.results20, go_sem]
  · with_reducible exact own1 _ _
set_option maxRecDepth 100000 in
set_option maxHeartbeats 2000000 in
theorem high_1_5 (b n : Int) (hb1 : 0 ≤ b) (hb2 : b < 256) (w : World) : Calls Tryd.prog 20 #[.int .i64 1, .int .i64 5, .int .u8 b, .int .u16 n] w fun e w' => e = .returned (.agg #[.int .i64 25, .int .i64 4, .int .i64 0, .int .i64 3, .int .u16 n]) ∧ Below w.heap.size w w' := by
  go_enter Tryd.func20, Tryd.ntmps20
  go_wp2
  refine bodyPost_ret (v := _) ?_ rfl ⟨rfl, ?_⟩
  · simp [results, Tryd.results20, go_sem]
  · with_reducible exact own1 _ _
set_option maxRecDepth 100000 in
set_option maxHeartbeats 2000000 in
theorem high_2_5 (b n : Int) (hb1 : 0 ≤ b) (hb2 : b < 256) (w : World) : Calls Tryd.prog 20 #[.int .i64 2, .int .i64 5, .int .u8 b, .int .u16 n] w fun e w' => e = .returned (.agg #[.int .i64 30, .int .i64 1, .int .i64 0, .int .i64 1, .int .u16 0]) ∧ Below w.heap.size w w' := by
  go_enter Tryd.func20, Tryd.ntmps20
  go_wp2
  refine bodyPost_ret (v := _) ?_ rfl ⟨rfl, ?_⟩
  · simp [results, Tryd.results20, go_sem]
  · with_reducible exact own1 _ _
set_option maxRecDepth 100000 in
set_option maxHeartbeats 2000000 in
theorem high_3_5 (b n : Int) (hb1 : 0 ≤ b) (hb2 : b < 256) (w : World) : Calls Tryd.prog 20 #[.int .i64 3, .int .i64 5, .int .u8 b, .int .u16 n] w fun e w' => e = .returned (.agg #[.int .i64 4, .int .i64 0, .int .i64 0, .int .i64 1, .int .u16 0]) ∧ Below w.heap.size w w' := by
  go_enter Tryd.func20, Tryd.ntmps20
  go_wp2
  refine bodyPost_ret (v := _) ?_ rfl ⟨rfl, ?_⟩
  · simp [results, Tryd.results20, go_sem]
  · with_reducible exact own1 _ _
set_option maxRecDepth 100000 in
set_option maxHeartbeats 2000000 in
theorem high_4_5 (b n : Int) (hb1 : 0 ≤ b) (hb2 : b < 256) (w : World) : Calls Tryd.prog 20 #[.int .i64 4, .int .i64 5, .int .u8 b, .int .u16 n] w fun e w' => e = .returned (.agg #[.int .i64 30, .int .i64 2, .int .i64 0, .int .i64 1, .int .u16 0]) ∧ Below w.heap.size w w' := by
  go_enter Tryd.func20, Tryd.ntmps20
  go_wp2
  refine bodyPost_ret (v := _) ?_ rfl ⟨rfl, ?_⟩
  · simp [results, Tryd.results20, go_sem]
  · with_reducible exact own1 _ _
set_option maxRecDepth 100000 in
set_option maxHeartbeats 2000000 in
theorem high_5_5 (b n : Int) (hb1 : 0 ≤ b) (hb2 : b < 256) (w : World) : Calls Tryd.prog 20 #[.int .i64 5, .int .i64 5, .int .u8 b, .int .u16 n] w fun e w' => e = .returned (.agg #[.int .i64 4, .int .i64 0, .int .i64 0, .int .i64 1, .int .u16 0]) ∧ Below w.heap.size w w' := by
  go_enter Tryd.func20, Tryd.ntmps20
  go_wp2
  refine bodyPost_ret (v := _) ?_ rfl ⟨rfl, ?_⟩
  · simp [results, Tryd.results20, go_sem]
  · with_reducible exact own1 _ _
set_option maxRecDepth 100000 in
set_option maxHeartbeats 2000000 in
theorem high_6_5 (b n : Int) (hb1 : 0 ≤ b) (hb2 : b < 256) (w : World) : Calls Tryd.prog 20 #[.int .i64 6, .int .i64 5, .int .u8 b, .int .u16 n] w fun e w' => e = .returned (.agg #[.int .i64 30, .int .i64 4, .int .i64 0, .int .i64 1, .int .u16 0]) ∧ Below w.heap.size w w' := by
  go_enter Tryd.func20, Tryd.ntmps20
  go_wp2
  refine bodyPost_ret (v := _) ?_ rfl ⟨rfl, ?_⟩
  · simp [results, Tryd.results20, go_sem]
  · with_reducible exact own1 _ _
set_option maxRecDepth 100000 in
set_option maxHeartbeats 2000000 in
theorem high_7_5 (b n : Int) (hb1 : 0 ≤ b) (hb2 : b < 256) (w : World) : Calls Tryd.prog 20 #[.int .i64 7, .int .i64 5, .int .u8 b, .int .u16 n] w fun e w' => e = .returned (.agg #[.int .i64 4, .int .i64 0, .int .i64 0, .int .i64 1, .int .u16 0]) ∧ Below w.heap.size w w' := by
  go_enter Tryd.func20, Tryd.ntmps20
  go_wp2
  refine bodyPost_ret (v := _) ?_ rfl ⟨rfl, ?_⟩
  · simp [results, Tryd.results20, go_sem]
  · with_reducible exact own1 _ _
set_option maxRecDepth 100000 in
set_option maxHeartbeats 2000000 in
theorem high_y_6 (y : Int) (hy1 : 0 ≤ y) (hy2 : y < 8) (b n : Int) (hb1 : 0 ≤ b) (hb2 : b < 256) (w : World) : Calls Tryd.prog 20 #[.int .i64 y, .int .i64 6, .int .u8 b, .int .u16 n] w fun e w' => e = .returned (.agg #[.int .i64 11, .int .i64 y, .int .i64 0, .int .i64 2, .int .u16 b]) ∧ Below w.heap.size w w' := by
  go_enter Tryd.func20, Tryd.ntmps20
  go_wp2
  refine bodyPost_ret (v := _) ?_ rfl ⟨rfl, ?_⟩
  · simp [results, Tryd.results20, go_sem]
  · with_reducible exact own1 _ _
set_option maxRecDepth 100000 in
set_option maxHeartbeats 2000000 in
theorem high_y_7 (y : Int) (hy1 : 0 ≤ y) (hy2 : y < 8) (b n : Int) (hb1 : 0 ≤ b) (hb2 : b < 256) (w : World) : Calls Tryd.prog 20 #[.int .i64 y, .int .i64 7, .int .u8 b, .int .u16 n] w fun e w' => e = .returned (.agg #[.int .i64 28, .int .i64 0, .int .i64 0, .int .i64 1, .int .u16 (8 * y)]) ∧ Below w.heap.size w w' := by
  go_enter Tryd.func20, Tryd.ntmps20
  go_wp2
  refine bodyPost_ret (v := _) ?_ rfl ⟨rfl, ?_⟩
  · simp [results, Tryd.results20, go_sem]
  · with_reducible exact own1 _ _
end Go.Proofs.YtaggebfcfebomaaDoor
