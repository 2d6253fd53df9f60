/-
  What the document's decoding of a first byte returns, digit by digit: for every world; no other condition.
  (Some texts in one.)
-/
import Derived.Test.YtngdogldgcgnjaaGreatZ29
set_option maxRecDepth 100000
set_option maxHeartbeats 8000000
namespace Go.Proofs.YtngdogldgcgnjaaGreat
open Go.ChangeShapes Go.WideShapes Go.ChangeAt Go.RowKit
set_option linter.unusedVariables false
theorem high_0_0 (b n : Int) (hb1 : 0 ≤ b) (hb2 : b < 256) (w : World) : Calls Tryz.prog 32 #[.int .i64 0, .int .i64 0, .int .u8 b, .int .u16 n] w fun e w' => e = .returned (.agg #[.int .i64 26, .int .i64 0, .int .i64 0, .int .i64 1, .int .u16 0]) ∧ Below w.heap.size w w' := by
 go_enter Tryz.func32, Tryz.ntmps32; go_wp2
 refine bodyPost_ret (v := _) ?_ rfl ⟨rfl, ?_⟩
 ·simp [results, Tryz.results32, go_sem]
 ·with_reducible exact own1 _ _
theorem high_1_0 (b n : Int) (hb1 : 0 ≤ b) (hb2 : b < 256) (w : World) : Calls Tryz.prog 32 #[.int .i64 1, .int .i64 0, .int .u8 b, .int .u16 n] w fun e w' => e = .returned (.agg #[.int .i64 26, .int .i64 1, .int .i64 0, .int .i64 1, .int .u16 0]) ∧ Below w.heap.size w w' := by
 go_enter Tryz.func32, Tryz.ntmps32; go_wp2
 refine bodyPost_ret (v := _) ?_ rfl ⟨rfl, ?_⟩
 ·simp [results, Tryz.results32, go_sem]
 ·with_reducible exact own1 _ _
theorem high_2_0 (b n : Int) (hb1 : 0 ≤ b) (hb2 : b < 256) (w : World) : Calls Tryz.prog 32 #[.int .i64 2, .int .i64 0, .int .u8 b, .int .u16 n] w fun e w' => e = .returned (.agg #[.int .i64 26, .int .i64 2, .int .i64 0, .int .i64 1, .int .u16 0]) ∧ Below w.heap.size w w' := by
 go_enter Tryz.func32, Tryz.ntmps32; go_wp2
 refine bodyPost_ret (v := _) ?_ rfl ⟨rfl, ?_⟩
 ·simp [results, Tryz.results32, go_sem]
 ·with_reducible exact own1 _ _
theorem high_3_0 (b n : Int) (hb1 : 0 ≤ b) (hb2 : b < 256) (w : World) : Calls Tryz.prog 32 #[.int .i64 3, .int .i64 0, .int .u8 b, .int .u16 n] w fun e w' => e = .returned (.agg #[.int .i64 26, .int .i64 3, .int .i64 0, .int .i64 1, .int .u16 0]) ∧ Below w.heap.size w w' := by
 go_enter Tryz.func32, Tryz.ntmps32; go_wp2
 refine bodyPost_ret (v := _) ?_ rfl ⟨rfl, ?_⟩
 ·simp [results, Tryz.results32, go_sem]
 ·with_reducible exact own1 _ _
theorem high_4_0 (b n : Int) (hb1 : 0 ≤ b) (hb2 : b < 256) (w : World) : Calls Tryz.prog 32 #[.int .i64 4, .int .i64 0, .int .u8 b, .int .u16 n] w fun e w' => e = .returned (.agg #[.int .i64 35, .int .i64 0, .int .i64 0, .int .i64 2, .int .u16 b]) ∧ Below w.heap.size w w' := by
 go_enter Tryz.func32, Tryz.ntmps32; go_wp2
 refine bodyPost_ret (v := _) ?_ rfl ⟨rfl, ?_⟩
 ·simp [results, Tryz.results32, go_sem]
 ·with_reducible exact own1 _ _
theorem high_5_0 (b n : Int) (hb1 : 0 ≤ b) (hb2 : b < 256) (w : World) : Calls Tryz.prog 32 #[.int .i64 5, .int .i64 0, .int .u8 b, .int .u16 n] w fun e w' => e = .returned (.agg #[.int .i64 41, .int .i64 0, .int .i64 0, .int .i64 2, .int .u16 b]) ∧ Below w.heap.size w w' := by
 go_enter Tryz.func32, Tryz.ntmps32; go_wp2
 refine bodyPost_ret (v := _) ?_ rfl ⟨rfl, ?_⟩
 ·simp [results, Tryz.results32, go_sem]
 ·with_reducible exact own1 _ _
theorem high_6_0 (b n : Int) (hb1 : 0 ≤ b) (hb2 : b < 256) (w : World) : Calls Tryz.prog 32 #[.int .i64 6, .int .i64 0, .int .u8 b, .int .u16 n] w fun e w' => e = .returned (.agg #[.int .i64 34, .int .i64 0, .int .i64 0, .int .i64 2, .int .u16 b]) ∧ Below w.heap.size w w' := by
 go_enter Tryz.func32, Tryz.ntmps32; go_wp2
 refine bodyPost_ret (v := _) ?_ rfl ⟨rfl, ?_⟩
 ·simp [results, Tryz.results32, go_sem]
 ·with_reducible exact own1 _ _
theorem high_7_0 (b n : Int) (hb1 : 0 ≤ b) (hb2 : b < 256) (w : World) : Calls Tryz.prog 32 #[.int .i64 7, .int .i64 0, .int .u8 b, .int .u16 n] w fun e w' => e = .returned (.agg #[.int .i64 42, .int .i64 0, .int .i64 0, .int .i64 2, .int .u16 b]) ∧ Below w.heap.size w w' := by
 go_enter Tryz.func32, Tryz.ntmps32; go_wp2
 refine bodyPost_ret (v := _) ?_ rfl ⟨rfl, ?_⟩
 ·simp [results, Tryz.results32, go_sem]
 ·with_reducible exact own1 _ _
theorem high_0_1 (b n : Int) (hb1 : 0 ≤ b) (hb2 : b < 256) (w : World) : Calls Tryz.prog 32 #[.int .i64 0, .int .i64 1, .int .u8 b, .int .u16 n] w fun e w' => e = .returned (.agg #[.int .i64 31, .int .i64 0, .int .i64 0, .int .i64 1, .int .u16 0]) ∧ Below w.heap.size w w' := by
 go_enter Tryz.func32, Tryz.ntmps32; go_wp2
 refine bodyPost_ret (v := _) ?_ rfl ⟨rfl, ?_⟩
 ·simp [results, Tryz.results32, go_sem]
 ·with_reducible exact own1 _ _
theorem high_1_1 (b n : Int) (hb1 : 0 ≤ b) (hb2 : b < 256) (w : World) : Calls Tryz.prog 32 #[.int .i64 1, .int .i64 1, .int .u8 b, .int .u16 n] w fun e w' => e = .returned (.agg #[.int .i64 26, .int .i64 4, .int .i64 0, .int .i64 1, .int .u16 0]) ∧ Below w.heap.size w w' := by
 go_enter Tryz.func32, Tryz.ntmps32; go_wp2
 refine bodyPost_ret (v := _) ?_ rfl ⟨rfl, ?_⟩
 ·simp [results, Tryz.results32, go_sem]
 ·with_reducible exact own1 _ _
theorem high_2_1 (b n : Int) (hb1 : 0 ≤ b) (hb2 : b < 256) (w : World) : Calls Tryz.prog 32 #[.int .i64 2, .int .i64 1, .int .u8 b, .int .u16 n] w fun e w' => e = .returned (.agg #[.int .i64 31, .int .i64 1, .int .i64 0, .int .i64 1, .int .u16 0]) ∧ Below w.heap.size w w' := by
 go_enter Tryz.func32, Tryz.ntmps32; go_wp2
 refine bodyPost_ret (v := _) ?_ rfl ⟨rfl, ?_⟩
 ·simp [results, Tryz.results32, go_sem]
 ·with_reducible exact own1 _ _
theorem high_3_1 (b n : Int) (hb1 : 0 ≤ b) (hb2 : b < 256) (w : World) : Calls Tryz.prog 32 #[.int .i64 3, .int .i64 1, .int .u8 b, .int .u16 n] w fun e w' => e = .returned (.agg #[.int .i64 27, .int .i64 0, .int .i64 0, .int .i64 1, .int .u16 0]) ∧ Below w.heap.size w w' := by
 go_enter Tryz.func32, Tryz.ntmps32; go_wp2
 refine bodyPost_ret (v := _) ?_ rfl ⟨rfl, ?_⟩
 ·simp [results, Tryz.results32, go_sem]
 ·with_reducible exact own1 _ _
theorem high_4_1 (b n : Int) (hb1 : 0 ≤ b) (hb2 : b < 256) (w : World) : Calls Tryz.prog 32 #[.int .i64 4, .int .i64 1, .int .u8 b, .int .u16 n] w fun e w' => e = .returned (.agg #[.int .i64 31, .int .i64 2, .int .i64 0, .int .i64 1, .int .u16 0]) ∧ Below w.heap.size w w' := by
 go_enter Tryz.func32, Tryz.ntmps32; go_wp2
 refine bodyPost_ret (v := _) ?_ rfl ⟨rfl, ?_⟩
 ·simp [results, Tryz.results32, go_sem]
 ·with_reducible exact own1 _ _
theorem high_5_1 (b n : Int) (hb1 : 0 ≤ b) (hb2 : b < 256) (w : World) : Calls Tryz.prog 32 #[.int .i64 5, .int .i64 1, .int .u8 b, .int .u16 n] w fun e w' => e = .returned (.agg #[.int .i64 29, .int .i64 0, .int .i64 0, .int .i64 1, .int .u16 0]) ∧ Below w.heap.size w w' := by
 go_enter Tryz.func32, Tryz.ntmps32; go_wp2
 refine bodyPost_ret (v := _) ?_ rfl ⟨rfl, ?_⟩
 ·simp [results, Tryz.results32, go_sem]
 ·with_reducible exact own1 _ _
theorem high_6_1 (b n : Int) (hb1 : 0 ≤ b) (hb2 : b < 256) (w : World) : Calls Tryz.prog 32 #[.int .i64 6, .int .i64 1, .int .u8 b, .int .u16 n] w fun e w' => e = .returned (.agg #[.int .i64 31, .int .i64 4, .int .i64 0, .int .i64 1, .int .u16 0]) ∧ Below w.heap.size w w' := by
 go_enter Tryz.func32, Tryz.ntmps32; go_wp2
 refine bodyPost_ret (v := _) ?_ rfl ⟨rfl, ?_⟩
 ·simp [results, Tryz.results32, go_sem]
 ·with_reducible exact own1 _ _
theorem high_7_1 (b n : Int) (hb1 : 0 ≤ b) (hb2 : b < 256) (w : World) : Calls Tryz.prog 32 #[.int .i64 7, .int .i64 1, .int .u8 b, .int .u16 n] w fun e w' => e = .returned (.agg #[.int .i64 43, .int .i64 0, .int .i64 0, .int .i64 1, .int .u16 0]) ∧ Below w.heap.size w w' := by
 go_enter Tryz.func32, Tryz.ntmps32; go_wp2
 refine bodyPost_ret (v := _) ?_ rfl ⟨rfl, ?_⟩
 ·simp [results, Tryz.results32, go_sem]
 ·with_reducible exact own1 _ _
theorem high_0_2 (b n : Int) (hb1 : 0 ≤ b) (hb2 : b < 256) (w : World) : Calls Tryz.prog 32 #[.int .i64 0, .int .i64 2, .int .u8 b, .int .u16 n] w fun e w' => e = .returned (.agg #[.int .i64 24, .int .i64 0, .int .i64 0, .int .i64 3, .int .u16 n]) ∧ Below w.heap.size w w' := by
 go_enter Tryz.func32, Tryz.ntmps32; go_wp2
 refine bodyPost_ret (v := _) ?_ rfl ⟨rfl, ?_⟩
 ·simp [results, Tryz.results32, go_sem]
 ·with_reducible exact own1 _ _
theorem high_1_2 (b n : Int) (hb1 : 0 ≤ b) (hb2 : b < 256) (w : World) : Calls Tryz.prog 32 #[.int .i64 1, .int .i64 2, .int .u8 b, .int .u16 n] w fun e w' => e = .returned (.agg #[.int .i64 24, .int .i64 1, .int .i64 0, .int .i64 3, .int .u16 n]) ∧ Below w.heap.size w w' := by
 go_enter Tryz.func32, Tryz.ntmps32; go_wp2
 refine bodyPost_ret (v := _) ?_ rfl ⟨rfl, ?_⟩
 ·simp [results, Tryz.results32, go_sem]
 ·with_reducible exact own1 _ _
theorem high_2_2 (b n : Int) (hb1 : 0 ≤ b) (hb2 : b < 256) (w : World) : Calls Tryz.prog 32 #[.int .i64 2, .int .i64 2, .int .u8 b, .int .u16 n] w fun e w' => e = .returned (.agg #[.int .i64 24, .int .i64 2, .int .i64 0, .int .i64 3, .int .u16 n]) ∧ Below w.heap.size w w' := by
 go_enter Tryz.func32, Tryz.ntmps32; go_wp2
 refine bodyPost_ret (v := _) ?_ rfl ⟨rfl, ?_⟩
 ·simp [results, Tryz.results32, go_sem]
 ·with_reducible exact own1 _ _
theorem high_3_2 (b n : Int) (hb1 : 0 ≤ b) (hb2 : b < 256) (w : World) : Calls Tryz.prog 32 #[.int .i64 3, .int .i64 2, .int .u8 b, .int .u16 n] w fun e w' => e = .returned (.agg #[.int .i64 24, .int .i64 3, .int .i64 0, .int .i64 3, .int .u16 n]) ∧ Below w.heap.size w w' := by
 go_enter Tryz.func32, Tryz.ntmps32; go_wp2
 refine bodyPost_ret (v := _) ?_ rfl ⟨rfl, ?_⟩
 ·simp [results, Tryz.results32, go_sem]
 ·with_reducible exact own1 _ _
theorem high_4_2 (b n : Int) (hb1 : 0 ≤ b) (hb2 : b < 256) (w : World) : Calls Tryz.prog 32 #[.int .i64 4, .int .i64 2, .int .u8 b, .int .u16 n] w fun e w' => e = .returned (.agg #[.int .i64 37, .int .i64 0, .int .i64 0, .int .i64 1, .int .u16 0]) ∧ Below w.heap.size w w' := by
 go_enter Tryz.func32, Tryz.ntmps32; go_wp2
 refine bodyPost_ret (v := _) ?_ rfl ⟨rfl, ?_⟩
 ·simp [results, Tryz.results32, go_sem]
 ·with_reducible exact own1 _ _
theorem high_5_2 (b n : Int) (hb1 : 0 ≤ b) (hb2 : b < 256) (w : World) : Calls Tryz.prog 32 #[.int .i64 5, .int .i64 2, .int .u8 b, .int .u16 n] w fun e w' => e = .returned (.agg #[.int .i64 39, .int .i64 0, .int .i64 0, .int .i64 3, .int .u16 n]) ∧ Below w.heap.size w w' := by
 go_enter Tryz.func32, Tryz.ntmps32; go_wp2
 refine bodyPost_ret (v := _) ?_ rfl ⟨rfl, ?_⟩
 ·simp [results, Tryz.results32, go_sem]
 ·with_reducible exact own1 _ _
theorem high_6_2 (b n : Int) (hb1 : 0 ≤ b) (hb2 : b < 256) (w : World) : Calls Tryz.prog 32 #[.int .i64 6, .int .i64 2, .int .u8 b, .int .u16 n] w fun e w' => e = .returned (.agg #[.int .i64 36, .int .i64 0, .int .i64 0, .int .i64 1, .int .u16 0]) ∧ Below w.heap.size w w' := by
 go_enter Tryz.func32, Tryz.ntmps32; go_wp2
 refine bodyPost_ret (v := _) ?_ rfl ⟨rfl, ?_⟩
 ·simp [results, Tryz.results32, go_sem]
 ·with_reducible exact own1 _ _
theorem high_7_2 (b n : Int) (hb1 : 0 ≤ b) (hb2 : b < 256) (w : World) : Calls Tryz.prog 32 #[.int .i64 7, .int .i64 2, .int .u8 b, .int .u16 n] w fun e w' => e = .returned (.agg #[.int .i64 38, .int .i64 0, .int .i64 0, .int .i64 3, .int .u16 n]) ∧ Below w.heap.size w w' := by
 go_enter Tryz.func32, Tryz.ntmps32; go_wp2
 refine bodyPost_ret (v := _) ?_ rfl ⟨rfl, ?_⟩
 ·simp [results, Tryz.results32, go_sem]
 ·with_reducible exact own1 _ _
end Go.Proofs.YtngdogldgcgnjaaGreat
namespace Go.Proofs.YtngdogldgcgnjaaGreat
open Go.ChangeShapes Go.WideShapes Go.ChangeAt Go.RowKit
set_option linter.unusedVariables false
theorem high_0_3 (b n : Int) (hb1 : 0 ≤ b) (hb2 : b < 256) (w : World) : Calls Tryz.prog 32 #[.int .i64 0, .int .i64 3, .int .u8 b, .int .u16 n] w fun e w' => e = .returned (.agg #[.int .i64 24, .int .i64 4, .int .i64 0, .int .i64 3, .int .u16 n]) ∧ Below w.heap.size w w' := by
 go_enter Tryz.func32, Tryz.ntmps32; go_wp2
 refine bodyPost_ret (v := _) ?_ rfl ⟨rfl, ?_⟩
 ·simp [results, Tryz.results32, go_sem]
 ·with_reducible exact own1 _ _
theorem high_2_3 (b n : Int) (hb1 : 0 ≤ b) (hb2 : b < 256) (w : World) : Calls Tryz.prog 32 #[.int .i64 2, .int .i64 3, .int .u8 b, .int .u16 n] w fun e w' => e = .returned (.agg #[.int .i64 4, .int .i64 0, .int .i64 0, .int .i64 1, .int .u16 0]) ∧ Below w.heap.size w w' := by
 go_enter Tryz.func32, Tryz.ntmps32; go_wp2
 refine bodyPost_ret (v := _) ?_ rfl ⟨rfl, ?_⟩
 ·simp [results, Tryz.results32, go_sem]
 ·with_reducible exact own1 _ _
theorem high_3_3 (b n : Int) (hb1 : 0 ≤ b) (hb2 : b < 256) (w : World) : Calls Tryz.prog 32 #[.int .i64 3, .int .i64 3, .int .u8 b, .int .u16 n] w fun e w' => e = .returned (.agg #[.int .i64 4, .int .i64 0, .int .i64 0, .int .i64 1, .int .u16 0]) ∧ Below w.heap.size w w' := by
 go_enter Tryz.func32, Tryz.ntmps32; go_wp2
 refine bodyPost_ret (v := _) ?_ rfl ⟨rfl, ?_⟩
 ·simp [results, Tryz.results32, go_sem]
 ·with_reducible exact own1 _ _
theorem high_4_3 (b n : Int) (hb1 : 0 ≤ b) (hb2 : b < 256) (w : World) : Calls Tryz.prog 32 #[.int .i64 4, .int .i64 3, .int .u8 b, .int .u16 n] w fun e w' => e = .returned (.agg #[.int .i64 4, .int .i64 0, .int .i64 0, .int .i64 1, .int .u16 0]) ∧ Below w.heap.size w w' := by
 go_enter Tryz.func32, Tryz.ntmps32; go_wp2
 refine bodyPost_ret (v := _) ?_ rfl ⟨rfl, ?_⟩
 ·simp [results, Tryz.results32, go_sem]
 ·with_reducible exact own1 _ _
theorem high_5_3 (b n : Int) (hb1 : 0 ≤ b) (hb2 : b < 256) (w : World) : Calls Tryz.prog 32 #[.int .i64 5, .int .i64 3, .int .u8 b, .int .u16 n] w fun e w' => e = .returned (.agg #[.int .i64 4, .int .i64 0, .int .i64 0, .int .i64 1, .int .u16 0]) ∧ Below w.heap.size w w' := by
 go_enter Tryz.func32, Tryz.ntmps32; go_wp2
 refine bodyPost_ret (v := _) ?_ rfl ⟨rfl, ?_⟩
 ·simp [results, Tryz.results32, go_sem]
 ·with_reducible exact own1 _ _
theorem high_6_3 (b n : Int) (hb1 : 0 ≤ b) (hb2 : b < 256) (w : World) : Calls Tryz.prog 32 #[.int .i64 6, .int .i64 3, .int .u8 b, .int .u16 n] w fun e w' => e = .returned (.agg #[.int .i64 5, .int .i64 0, .int .i64 0, .int .i64 1, .int .u16 0]) ∧ Below w.heap.size w w' := by
 go_enter Tryz.func32, Tryz.ntmps32; go_wp2
 refine bodyPost_ret (v := _) ?_ rfl ⟨rfl, ?_⟩
 ·simp [results, Tryz.results32, go_sem]
 ·with_reducible exact own1 _ _
theorem high_7_3 (b n : Int) (hb1 : 0 ≤ b) (hb2 : b < 256) (w : World) : Calls Tryz.prog 32 #[.int .i64 7, .int .i64 3, .int .u8 b, .int .u16 n] w fun e w' => e = .returned (.agg #[.int .i64 6, .int .i64 0, .int .i64 0, .int .i64 1, .int .u16 0]) ∧ Below w.heap.size w w' := by
 go_enter Tryz.func32, Tryz.ntmps32; go_wp2
 refine bodyPost_ret (v := _) ?_ rfl ⟨rfl, ?_⟩
 ·simp [results, Tryz.results32, go_sem]
 ·with_reducible exact own1 _ _
theorem high_0_4 (b n : Int) (hb1 : 0 ≤ b) (hb2 : b < 256) (w : World) : Calls Tryz.prog 32 #[.int .i64 0, .int .i64 4, .int .u8 b, .int .u16 n] w fun e w' => e = .returned (.agg #[.int .i64 25, .int .i64 0, .int .i64 0, .int .i64 3, .int .u16 n]) ∧ Below w.heap.size w w' := by
 go_enter Tryz.func32, Tryz.ntmps32; go_wp2
 refine bodyPost_ret (v := _) ?_ rfl ⟨rfl, ?_⟩
 ·simp [results, Tryz.results32, go_sem]
 ·with_reducible exact own1 _ _
theorem high_1_4 (b n : Int) (hb1 : 0 ≤ b) (hb2 : b < 256) (w : World) : Calls Tryz.prog 32 #[.int .i64 1, .int .i64 4, .int .u8 b, .int .u16 n] w fun e w' => e = .returned (.agg #[.int .i64 25, .int .i64 1, .int .i64 0, .int .i64 3, .int .u16 n]) ∧ Below w.heap.size w w' := by
 go_enter Tryz.func32, Tryz.ntmps32; go_wp2
 refine bodyPost_ret (v := _) ?_ rfl ⟨rfl, ?_⟩
 ·simp [results, Tryz.results32, go_sem]
 ·with_reducible exact own1 _ _
theorem high_2_4 (b n : Int) (hb1 : 0 ≤ b) (hb2 : b < 256) (w : World) : Calls Tryz.prog 32 #[.int .i64 2, .int .i64 4, .int .u8 b, .int .u16 n] w fun e w' => e = .returned (.agg #[.int .i64 25, .int .i64 2, .int .i64 0, .int .i64 3, .int .u16 n]) ∧ Below w.heap.size w w' := by
 go_enter Tryz.func32, Tryz.ntmps32; go_wp2
 refine bodyPost_ret (v := _) ?_ rfl ⟨rfl, ?_⟩
 ·simp [results, Tryz.results32, go_sem]
 ·with_reducible exact own1 _ _
theorem high_3_4 (b n : Int) (hb1 : 0 ≤ b) (hb2 : b < 256) (w : World) : Calls Tryz.prog 32 #[.int .i64 3, .int .i64 4, .int .u8 b, .int .u16 n] w fun e w' => e = .returned (.agg #[.int .i64 25, .int .i64 3, .int .i64 0, .int .i64 3, .int .u16 n]) ∧ Below w.heap.size w w' := by
 go_enter Tryz.func32, Tryz.ntmps32; go_wp2
 refine bodyPost_ret (v := _) ?_ rfl ⟨rfl, ?_⟩
 ·simp [results, Tryz.results32, go_sem]
 ·with_reducible exact own1 _ _
theorem high_4_4 (b n : Int) (hb1 : 0 ≤ b) (hb2 : b < 256) (w : World) : Calls Tryz.prog 32 #[.int .i64 4, .int .i64 4, .int .u8 b, .int .u16 n] w fun e w' => e = .returned (.agg #[.int .i64 4, .int .i64 0, .int .i64 0, .int .i64 1, .int .u16 0]) ∧ Below w.heap.size w w' := by
 go_enter Tryz.func32, Tryz.ntmps32; go_wp2
 refine bodyPost_ret (v := _) ?_ rfl ⟨rfl, ?_⟩
 ·simp [results, Tryz.results32, go_sem]
 ·with_reducible exact own1 _ _
theorem high_5_4 (b n : Int) (hb1 : 0 ≤ b) (hb2 : b < 256) (w : World) : Calls Tryz.prog 32 #[.int .i64 5, .int .i64 4, .int .u8 b, .int .u16 n] w fun e w' => e = .returned (.agg #[.int .i64 4, .int .i64 0, .int .i64 0, .int .i64 1, .int .u16 0]) ∧ Below w.heap.size w w' := by
 go_enter Tryz.func32, Tryz.ntmps32; go_wp2
 refine bodyPost_ret (v := _) ?_ rfl ⟨rfl, ?_⟩
 ·simp [results, Tryz.results32, go_sem]
 ·with_reducible exact own1 _ _
theorem high_6_4 (b n : Int) (hb1 : 0 ≤ b) (hb2 : b < 256) (w : World) : Calls Tryz.prog 32 #[.int .i64 6, .int .i64 4, .int .u8 b, .int .u16 n] w fun e w' => e = .returned (.agg #[.int .i64 4, .int .i64 0, .int .i64 0, .int .i64 1, .int .u16 0]) ∧ Below w.heap.size w w' := by
 go_enter Tryz.func32, Tryz.ntmps32; go_wp2
 refine bodyPost_ret (v := _) ?_ rfl ⟨rfl, ?_⟩
 ·simp [results, Tryz.results32, go_sem]
 ·with_reducible exact own1 _ _
theorem high_7_4 (b n : Int) (hb1 : 0 ≤ b) (hb2 : b < 256) (w : World) : Calls Tryz.prog 32 #[.int .i64 7, .int .i64 4, .int .u8 b, .int .u16 n] w fun e w' => e = .returned (.agg #[.int .i64 4, .int .i64 0, .int .i64 0, .int .i64 1, .int .u16 0]) ∧ Below w.heap.size w w' := by
 go_enter Tryz.func32, Tryz.ntmps32; go_wp2
 refine bodyPost_ret (v := _) ?_ rfl ⟨rfl, ?_⟩
 ·simp [results, Tryz.results32, go_sem]
 ·with_reducible exact own1 _ _
theorem high_0_5 (b n : Int) (hb1 : 0 ≤ b) (hb2 : b < 256) (w : World) : Calls Tryz.prog 32 #[.int .i64 0, .int .i64 5, .int .u8 b, .int .u16 n] w fun e w' => e = .returned (.agg #[.int .i64 30, .int .i64 0, .int .i64 0, .int .i64 1, .int .u16 0]) ∧ Below w.heap.size w w' := by
 go_enter Tryz.func32, Tryz.ntmps32; go_wp2
 refine bodyPost_ret (v := _) ?_ rfl ⟨rfl, ?_⟩
 ·simp [results, Tryz.results32, go_sem]
 ·with_reducible exact own1 _ _
theorem high_1_5 (b n : Int) (hb1 : 0 ≤ b) (hb2 : b < 256) (w : World) : Calls Tryz.prog 32 #[.int .i64 1, .int .i64 5, .int .u8 b, .int .u16 n] w fun e w' => e = .returned (.agg #[.int .i64 25, .int .i64 4, .int .i64 0, .int .i64 3, .int .u16 n]) ∧ Below w.heap.size w w' := by
 go_enter Tryz.func32, Tryz.ntmps32; go_wp2
 refine bodyPost_ret (v := _) ?_ rfl ⟨rfl, ?_⟩
 ·simp [results, Tryz.results32, go_sem]
 ·with_reducible exact own1 _ _
theorem high_2_5 (b n : Int) (hb1 : 0 ≤ b) (hb2 : b < 256) (w : World) : Calls Tryz.prog 32 #[.int .i64 2, .int .i64 5, .int .u8 b, .int .u16 n] w fun e w' => e = .returned (.agg #[.int .i64 30, .int .i64 1, .int .i64 0, .int .i64 1, .int .u16 0]) ∧ Below w.heap.size w w' := by
 go_enter Tryz.func32, Tryz.ntmps32; go_wp2
 refine bodyPost_ret (v := _) ?_ rfl ⟨rfl, ?_⟩
 ·simp [results, Tryz.results32, go_sem]
 ·with_reducible exact own1 _ _
theorem high_3_5 (b n : Int) (hb1 : 0 ≤ b) (hb2 : b < 256) (w : World) : Calls Tryz.prog 32 #[.int .i64 3, .int .i64 5, .int .u8 b, .int .u16 n] w fun e w' => e = .returned (.agg #[.int .i64 4, .int .i64 0, .int .i64 0, .int .i64 1, .int .u16 0]) ∧ Below w.heap.size w w' := by
 go_enter Tryz.func32, Tryz.ntmps32; go_wp2
 refine bodyPost_ret (v := _) ?_ rfl ⟨rfl, ?_⟩
 ·simp [results, Tryz.results32, go_sem]
 ·with_reducible exact own1 _ _
theorem high_4_5 (b n : Int) (hb1 : 0 ≤ b) (hb2 : b < 256) (w : World) : Calls Tryz.prog 32 #[.int .i64 4, .int .i64 5, .int .u8 b, .int .u16 n] w fun e w' => e = .returned (.agg #[.int .i64 30, .int .i64 2, .int .i64 0, .int .i64 1, .int .u16 0]) ∧ Below w.heap.size w w' := by
 go_enter Tryz.func32, Tryz.ntmps32; go_wp2
 refine bodyPost_ret (v := _) ?_ rfl ⟨rfl, ?_⟩
 ·simp [results, Tryz.results32, go_sem]
 ·with_reducible exact own1 _ _
theorem high_5_5 (b n : Int) (hb1 : 0 ≤ b) (hb2 : b < 256) (w : World) : Calls Tryz.prog 32 #[.int .i64 5, .int .i64 5, .int .u8 b, .int .u16 n] w fun e w' => e = .returned (.agg #[.int .i64 4, .int .i64 0, .int .i64 0, .int .i64 1, .int .u16 0]) ∧ Below w.heap.size w w' := by
 go_enter Tryz.func32, Tryz.ntmps32; go_wp2
 refine bodyPost_ret (v := _) ?_ rfl ⟨rfl, ?_⟩
 ·simp [results, Tryz.results32, go_sem]
 ·with_reducible exact own1 _ _
theorem high_6_5 (b n : Int) (hb1 : 0 ≤ b) (hb2 : b < 256) (w : World) : Calls Tryz.prog 32 #[.int .i64 6, .int .i64 5, .int .u8 b, .int .u16 n] w fun e w' => e = .returned (.agg #[.int .i64 30, .int .i64 4, .int .i64 0, .int .i64 1, .int .u16 0]) ∧ Below w.heap.size w w' := by
 go_enter Tryz.func32, Tryz.ntmps32; go_wp2
 refine bodyPost_ret (v := _) ?_ rfl ⟨rfl, ?_⟩
 ·simp [results, Tryz.results32, go_sem]
 ·with_reducible exact own1 _ _
theorem high_7_5 (b n : Int) (hb1 : 0 ≤ b) (hb2 : b < 256) (w : World) : Calls Tryz.prog 32 #[.int .i64 7, .int .i64 5, .int .u8 b, .int .u16 n] w fun e w' => e = .returned (.agg #[.int .i64 4, .int .i64 0, .int .i64 0, .int .i64 1, .int .u16 0]) ∧ Below w.heap.size w w' := by
 go_enter Tryz.func32, Tryz.ntmps32; go_wp2
 refine bodyPost_ret (v := _) ?_ rfl ⟨rfl, ?_⟩
 ·simp [results, Tryz.results32, go_sem]
 ·with_reducible exact own1 _ _
theorem high_y_6 (y : Int) (hy1 : 0 ≤ y) (hy2 : y < 8) (b n : Int) (hb1 : 0 ≤ b) (hb2 : b < 256) (w : World) : Calls Tryz.prog 32 #[.int .i64 y, .int .i64 6, .int .u8 b, .int .u16 n] w fun e w' => e = .returned (.agg #[.int .i64 11, .int .i64 y, .int .i64 0, .int .i64 2, .int .u16 b]) ∧ Below w.heap.size w w' := by
 go_enter Tryz.func32, Tryz.ntmps32; go_wp2
 refine bodyPost_ret (v := _) ?_ rfl ⟨rfl, ?_⟩
 ·simp [results, Tryz.results32, go_sem]
 ·with_reducible exact own1 _ _
theorem high_y_7 (y : Int) (hy1 : 0 ≤ y) (hy2 : y < 8) (b n : Int) (hb1 : 0 ≤ b) (hb2 : b < 256) (w : World) : Calls Tryz.prog 32 #[.int .i64 y, .int .i64 7, .int .u8 b, .int .u16 n] w fun e w' => e = .returned (.agg #[.int .i64 28, .int .i64 0, .int .i64 0, .int .i64 1, .int .u16 (8 * y)]) ∧ Below w.heap.size w w' := by
 go_enter Tryz.func32, Tryz.ntmps32; go_wp2
 refine bodyPost_ret (v := _) ?_ rfl ⟨rfl, ?_⟩
 ·simp [results, Tryz.results32, go_sem]
 ·with_reducible exact own1 _ _
end Go.Proofs.YtngdogldgcgnjaaGreat
