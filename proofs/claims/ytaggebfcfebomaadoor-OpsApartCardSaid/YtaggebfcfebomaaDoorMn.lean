/-
  What ops.mnemonic returns, kind by kind: for every world and every order.
-/
import Derived.Test.YtaggebfcfebomaaDoorCtl
namespace Go.Proofs.YtaggebfcfebomaaDoor
open Go.ChangeShapes Go.WideShapes Go.ChangeAt Go.RowKit
set_option linter.unusedVariables false
set_option maxRecDepth 100000 in
set_option maxHeartbeats 2000000 in
theorem mn_1 (x y s n : Int) (w : World) : Calls Tryd.prog 22 #[.agg #[.int .i64 1, .int .i64 x, .int .i64 y, .int .i64 s, .int .u16 n]] w fun e w' => e = .returned (.string ⟨([110, 111, 112]).toArray⟩) ∧ Below w.heap.size w w' := by
  go_enter Tryd.func22, Tryd.ntmps22
  go_wp2_with (go_at_call 42; (with_reducible refine (ctl_1 _).mono ?_); rintro e w' ⟨rfl, rfl⟩)
  go_ret
  exact ⟨rfl, own1 _ _⟩
set_option maxRecDepth 100000 in
set_option maxHeartbeats 2000000 in
theorem mn_2 (x y s n : Int) (w : World) : Calls Tryd.prog 22 #[.agg #[.int .i64 2, .int .i64 x, .int .i64 y, .int .i64 s, .int .u16 n]] w fun e w' => e = .returned (.string ⟨([115, 116, 111, 112]).toArray⟩) ∧ Below w.heap.size w w' := by
  go_enter Tryd.func22, Tryd.ntmps22
  go_wp2_with (go_at_call 42; (with_reducible refine (ctl_2 _).mono ?_); rintro e w' ⟨rfl, rfl⟩)
  go_ret
  exact ⟨rfl, own1 _ _⟩
set_option maxRecDepth 100000 in
set_option maxHeartbeats 2000000 in
theorem mn_3 (x y s n : Int) (w : World) : Calls Tryd.prog 22 #[.agg #[.int .i64 3, .int .i64 x, .int .i64 y, .int .i64 s, .int .u16 n]] w fun e w' => e = .returned (.string ⟨([104, 97, 108, 116]).toArray⟩) ∧ Below w.heap.size w w' := by
  go_enter Tryd.func22, Tryd.ntmps22
  go_wp2_with (go_at_call 42; (with_reducible refine (ctl_3 _).mono ?_); rintro e w' ⟨rfl, rfl⟩)
  go_ret
  exact ⟨rfl, own1 _ _⟩
set_option maxRecDepth 100000 in
set_option maxHeartbeats 2000000 in
theorem mn_4 (x y s n : Int) (w : World) : Calls Tryd.prog 22 #[.agg #[.int .i64 4, .int .i64 x, .int .i64 y, .int .i64 s, .int .u16 n]] w fun e w' => e = .returned (.string ⟨([98, 97, 100]).toArray⟩) ∧ Below w.heap.size w w' := by
  go_enter Tryd.func22, Tryd.ntmps22
  go_wp2_with (go_at_call 42; (with_reducible refine (ctl_4 _).mono ?_); rintro e w' ⟨rfl, rfl⟩)
  go_ret
  exact ⟨rfl, own1 _ _⟩
set_option maxRecDepth 100000 in
set_option maxHeartbeats 2000000 in
theorem mn_5 (x y s n : Int) (w : World) : Calls Tryd.prog 22 #[.agg #[.int .i64 5, .int .i64 x, .int .i64 y, .int .i64 s, .int .u16 n]] w fun e w' => e = .returned (.string ⟨([100, 105]).toArray⟩) ∧ Below w.heap.size w w' := by
  go_enter Tryd.func22, Tryd.ntmps22
  go_wp2_with (go_at_call 42; (with_reducible refine (ctl_5 _).mono ?_); rintro e w' ⟨rfl, rfl⟩)
  go_ret
  exact ⟨rfl, own1 _ _⟩
set_option maxRecDepth 100000 in
set_option maxHeartbeats 2000000 in
theorem mn_6 (x y s n : Int) (w : World) : Calls Tryd.prog 22 #[.agg #[.int .i64 6, .int .i64 x, .int .i64 y, .int .i64 s, .int .u16 n]] w fun e w' => e = .returned (.string ⟨([101, 105]).toArray⟩) ∧ Below w.heap.size w w' := by
  go_enter Tryd.func22, Tryd.ntmps22
  go_wp2_with (go_at_call 42; (with_reducible refine (ctl_6 _).mono ?_); rintro e w' ⟨rfl, rfl⟩)
  go_ret
  exact ⟨rfl, own1 _ _⟩
set_option maxRecDepth 100000 in
set_option maxHeartbeats 2000000 in
theorem mn_7 (x y s n : Int) (w : World) : Calls Tryd.prog 22 #[.agg #[.int .i64 7, .int .i64 x, .int .i64 y, .int .i64 s, .int .u16 n]] w fun e w' => e = .returned (.string ⟨([108, 100]).toArray⟩) ∧ Below w.heap.size w w' := by
  go_enter Tryd.func22, Tryd.ntmps22
  go_wp2
  go_ret
  exact ⟨rfl, own1 _ _⟩
set_option maxRecDepth 100000 in
set_option maxHeartbeats 2000000 in
theorem mn_8 (x y s n : Int) (w : World) : Calls Tryd.prog 22 #[.agg #[.int .i64 8, .int .i64 x, .int .i64 y, .int .i64 s, .int .u16 n]] w fun e w' => e = .returned (.string ⟨([108, 100]).toArray⟩) ∧ Below w.heap.size w w' := by
  go_enter Tryd.func22, Tryd.ntmps22
  go_wp2
  go_ret
  exact ⟨rfl, own1 _ _⟩
set_option maxRecDepth 100000 in
set_option maxHeartbeats 2000000 in
theorem mn_9 (x y s n : Int) (w : World) : Calls Tryd.prog 22 #[.agg #[.int .i64 9, .int .i64 x, .int .i64 y, .int .i64 s, .int .u16 n]] w fun e w' => e = .returned (.string ⟨([108, 100]).toArray⟩) ∧ Below w.heap.size w w' := by
  go_enter Tryd.func22, Tryd.ntmps22
  go_wp2
  go_ret
  exact ⟨rfl, own1 _ _⟩
set_option maxRecDepth 100000 in
set_option maxHeartbeats 2000000 in
theorem mn_10 (x y s n : Int) (w : World) : Calls Tryd.prog 22 #[.agg #[.int .i64 10, .int .i64 x, .int .i64 y, .int .i64 s, .int .u16 n]] w fun e w' => e = .returned (.string ⟨(pickL x sumN).toArray⟩) ∧ Below w.heap.size w w' := by
  go_enter Tryd.func22, Tryd.ntmps22
  go_wp2_with fail
  refine (pick_c x sumN (w.heap.size + 1) 8 rfl (by omega) _ (Texts.newB (w.alloc (.cells #[.int .i64 10, .int .i64 x, .int .i64 y, .int .i64 s, .int .u16 n] 27)) _ _ rfl _ _ (by simp))).mono ?_
  rintro e w' ⟨rfl, rfl⟩
  go_wp2
  go_ret
  exact ⟨rfl, own2 _ _ _⟩
set_option maxRecDepth 100000 in
set_option maxHeartbeats 2000000 in
theorem mn_11 (x y s n : Int) (w : World) : Calls Tryd.prog 22 #[.agg #[.int .i64 11, .int .i64 x, .int .i64 y, .int .i64 s, .int .u16 n]] w fun e w' => e = .returned (.string ⟨(pickL x sumN).toArray⟩) ∧ Below w.heap.size w w' := by
  go_enter Tryd.func22, Tryd.ntmps22
  go_wp2_with fail
  refine (pick_c x sumN (w.heap.size + 1) 8 rfl (by omega) _ (Texts.newB (w.alloc (.cells #[.int .i64 11, .int .i64 x, .int .i64 y, .int .i64 s, .int .u16 n] 27)) _ _ rfl _ _ (by simp))).mono ?_
  rintro e w' ⟨rfl, rfl⟩
  go_wp2
  go_ret
  exact ⟨rfl, own2 _ _ _⟩
set_option maxRecDepth 100000 in
set_option maxHeartbeats 2000000 in
theorem mn_12 (x y s n : Int) (w : World) : Calls Tryd.prog 22 #[.agg #[.int .i64 12, .int .i64 x, .int .i64 y, .int .i64 s, .int .u16 n]] w fun e w' => e = .returned (.string ⟨([105, 110, 99]).toArray⟩) ∧ Below w.heap.size w w' := by
  go_enter Tryd.func22, Tryd.ntmps22
  go_wp2
  go_ret
  exact ⟨rfl, own1 _ _⟩
set_option maxRecDepth 100000 in
set_option maxHeartbeats 2000000 in
theorem mn_13 (x y s n : Int) (w : World) : Calls Tryd.prog 22 #[.agg #[.int .i64 13, .int .i64 x, .int .i64 y, .int .i64 s, .int .u16 n]] w fun e w' => e = .returned (.string ⟨([100, 101, 99]).toArray⟩) ∧ Below w.heap.size w w' := by
  go_enter Tryd.func22, Tryd.ntmps22
  go_wp2
  go_ret
  exact ⟨rfl, own1 _ _⟩
set_option maxRecDepth 100000 in
set_option maxHeartbeats 2000000 in
theorem mn_14 (x y s n : Int) (w : World) : Calls Tryd.prog 22 #[.agg #[.int .i64 14, .int .i64 x, .int .i64 y, .int .i64 s, .int .u16 n]] w fun e w' => e = .returned (.string ⟨([105, 110, 99]).toArray⟩) ∧ Below w.heap.size w w' := by
  go_enter Tryd.func22, Tryd.ntmps22
  go_wp2
  go_ret
  exact ⟨rfl, own1 _ _⟩
set_option maxRecDepth 100000 in
set_option maxHeartbeats 2000000 in
theorem mn_15 (x y s n : Int) (w : World) : Calls Tryd.prog 22 #[.agg #[.int .i64 15, .int .i64 x, .int .i64 y, .int .i64 s, .int .u16 n]] w fun e w' => e = .returned (.string ⟨([100, 101, 99]).toArray⟩) ∧ Below w.heap.size w w' := by
  go_enter Tryd.func22, Tryd.ntmps22
  go_wp2
  go_ret
  exact ⟨rfl, own1 _ _⟩
set_option maxRecDepth 100000 in
set_option maxHeartbeats 2000000 in
theorem mn_16 (x y s n : Int) (w : World) : Calls Tryd.prog 22 #[.agg #[.int .i64 16, .int .i64 x, .int .i64 y, .int .i64 s, .int .u16 n]] w fun e w' => e = .returned (.string ⟨([97, 100, 100]).toArray⟩) ∧ Below w.heap.size w w' := by
  go_enter Tryd.func22, Tryd.ntmps22
  go_wp2
  go_ret
  exact ⟨rfl, own1 _ _⟩
set_option maxRecDepth 100000 in
set_option maxHeartbeats 2000000 in
theorem mn_17 (x y s n : Int) (w : World) : Calls Tryd.prog 22 #[.agg #[.int .i64 17, .int .i64 x, .int .i64 y, .int .i64 s, .int .u16 n]] w fun e w' => e = .returned (.string ⟨(pickL x turnN).toArray⟩) ∧ Below w.heap.size w w' := by
  go_enter Tryd.func22, Tryd.ntmps22
  go_wp2_with fail
  refine (pick_c x turnN (w.heap.size + 1) 8 rfl (by omega) _ (Texts.newB (w.alloc (.cells #[.int .i64 17, .int .i64 x, .int .i64 y, .int .i64 s, .int .u16 n] 27)) _ _ rfl _ _ (by simp))).mono ?_
  rintro e w' ⟨rfl, rfl⟩
  go_wp2
  go_ret
  exact ⟨rfl, own2 _ _ _⟩
set_option maxRecDepth 100000 in
set_option maxHeartbeats 2000000 in
theorem mn_18 (x y s n : Int) (w : World) : Calls Tryd.prog 22 #[.agg #[.int .i64 18, .int .i64 x, .int .i64 y, .int .i64 s, .int .u16 n]] w fun e w' => e = .returned (.string ⟨(pickL x turnAN).toArray⟩) ∧ Below w.heap.size w w' := by
  go_enter Tryd.func22, Tryd.ntmps22
  go_wp2_with fail
  refine (pick_c x turnAN (w.heap.size + 1) 4 rfl (by omega) _ (Texts.newB (w.alloc (.cells #[.int .i64 18, .int .i64 x, .int .i64 y, .int .i64 s, .int .u16 n] 27)) _ _ rfl _ _ (by simp))).mono ?_
  rintro e w' ⟨rfl, rfl⟩
  go_wp2
  go_ret
  exact ⟨rfl, own2 _ _ _⟩
set_option maxRecDepth 100000 in
set_option maxHeartbeats 2000000 in
theorem mn_19 (x y s n : Int) (w : World) : Calls Tryd.prog 22 #[.agg #[.int .i64 19, .int .i64 x, .int .i64 y, .int .i64 s, .int .u16 n]] w fun e w' => e = .returned (.string ⟨([100, 97, 97]).toArray⟩) ∧ Below w.heap.size w w' := by
  go_enter Tryd.func22, Tryd.ntmps22
  go_wp2_with (go_at_call 42; (with_reducible refine (ctl_19 _).mono ?_); rintro e w' ⟨rfl, rfl⟩)
  go_ret
  exact ⟨rfl, own1 _ _⟩
set_option maxRecDepth 100000 in
set_option maxHeartbeats 2000000 in
theorem mn_20 (x y s n : Int) (w : World) : Calls Tryd.prog 22 #[.agg #[.int .i64 20, .int .i64 x, .int .i64 y, .int .i64 s, .int .u16 n]] w fun e w' => e = .returned (.string ⟨([99, 112, 108]).toArray⟩) ∧ Below w.heap.size w w' := by
  go_enter Tryd.func22, Tryd.ntmps22
  go_wp2_with (go_at_call 42; (with_reducible refine (ctl_20 _).mono ?_); rintro e w' ⟨rfl, rfl⟩)
  go_ret
  exact ⟨rfl, own1 _ _⟩
set_option maxRecDepth 100000 in
set_option maxHeartbeats 2000000 in
theorem mn_21 (x y s n : Int) (w : World) : Calls Tryd.prog 22 #[.agg #[.int .i64 21, .int .i64 x, .int .i64 y, .int .i64 s, .int .u16 n]] w fun e w' => e = .returned (.string ⟨([115, 99, 102]).toArray⟩) ∧ Below w.heap.size w w' := by
  go_enter Tryd.func22, Tryd.ntmps22
  go_wp2_with (go_at_call 42; (with_reducible refine (ctl_21 _).mono ?_); rintro e w' ⟨rfl, rfl⟩)
  go_ret
  exact ⟨rfl, own1 _ _⟩
set_option maxRecDepth 100000 in
set_option maxHeartbeats 2000000 in
theorem mn_22 (x y s n : Int) (w : World) : Calls Tryd.prog 22 #[.agg #[.int .i64 22, .int .i64 x, .int .i64 y, .int .i64 s, .int .u16 n]] w fun e w' => e = .returned (.string ⟨([99, 99, 102]).toArray⟩) ∧ Below w.heap.size w w' := by
  go_enter Tryd.func22, Tryd.ntmps22
  go_wp2_with (go_at_call 42; (with_reducible refine (ctl_22 _).mono ?_); rintro e w' ⟨rfl, rfl⟩)
  go_ret
  exact ⟨rfl, own1 _ _⟩
set_option maxRecDepth 100000 in
set_option maxHeartbeats 2000000 in
theorem mn_23 (x y s n : Int) (w : World) : Calls Tryd.prog 22 #[.agg #[.int .i64 23, .int .i64 x, .int .i64 y, .int .i64 s, .int .u16 n]] w fun e w' => e = .returned (.string ⟨([106, 114]).toArray⟩) ∧ Below w.heap.size w w' := by
  go_enter Tryd.func22, Tryd.ntmps22
  go_wp2_with (go_at_call 42; (with_reducible refine (ctl_23 _).mono ?_); rintro e w' ⟨rfl, rfl⟩)
  go_ret
  exact ⟨rfl, own1 _ _⟩
set_option maxRecDepth 100000 in
set_option maxHeartbeats 2000000 in
theorem mn_24 (x y s n : Int) (w : World) : Calls Tryd.prog 22 #[.agg #[.int .i64 24, .int .i64 x, .int .i64 y, .int .i64 s, .int .u16 n]] w fun e w' => e = .returned (.string ⟨([106, 112]).toArray⟩) ∧ Below w.heap.size w w' := by
  go_enter Tryd.func22, Tryd.ntmps22
  go_wp2_with (go_at_call 42; (with_reducible refine (ctl_24 _).mono ?_); rintro e w' ⟨rfl, rfl⟩)
  go_ret
  exact ⟨rfl, own1 _ _⟩
set_option maxRecDepth 100000 in
set_option maxHeartbeats 2000000 in
theorem mn_25 (x y s n : Int) (w : World) : Calls Tryd.prog 22 #[.agg #[.int .i64 25, .int .i64 x, .int .i64 y, .int .i64 s, .int .u16 n]] w fun e w' => e = .returned (.string ⟨([99, 97, 108, 108]).toArray⟩) ∧ Below w.heap.size w w' := by
  go_enter Tryd.func22, Tryd.ntmps22
  go_wp2_with (go_at_call 42; (with_reducible refine (ctl_25 _).mono ?_); rintro e w' ⟨rfl, rfl⟩)
  go_ret
  exact ⟨rfl, own1 _ _⟩
set_option maxRecDepth 100000 in
set_option maxHeartbeats 2000000 in
theorem mn_26 (x y s n : Int) (w : World) : Calls Tryd.prog 22 #[.agg #[.int .i64 26, .int .i64 x, .int .i64 y, .int .i64 s, .int .u16 n]] w fun e w' => e = .returned (.string ⟨([114, 101, 116]).toArray⟩) ∧ Below w.heap.size w w' := by
  go_enter Tryd.func22, Tryd.ntmps22
  go_wp2_with (go_at_call 42; (with_reducible refine (ctl_26 _).mono ?_); rintro e w' ⟨rfl, rfl⟩)
  go_ret
  exact ⟨rfl, own1 _ _⟩
set_option maxRecDepth 100000 in
set_option maxHeartbeats 2000000 in
theorem mn_27 (x y s n : Int) (w : World) : Calls Tryd.prog 22 #[.agg #[.int .i64 27, .int .i64 x, .int .i64 y, .int .i64 s, .int .u16 n]] w fun e w' => e = .returned (.string ⟨([114, 101, 116, 105]).toArray⟩) ∧ Below w.heap.size w w' := by
  go_enter Tryd.func22, Tryd.ntmps22
  go_wp2_with (go_at_call 42; (with_reducible refine (ctl_27 _).mono ?_); rintro e w' ⟨rfl, rfl⟩)
  go_ret
  exact ⟨rfl, own1 _ _⟩
set_option maxRecDepth 100000 in
set_option maxHeartbeats 2000000 in
theorem mn_28 (x y s n : Int) (w : World) : Calls Tryd.prog 22 #[.agg #[.int .i64 28, .int .i64 x, .int .i64 y, .int .i64 s, .int .u16 n]] w fun e w' => e = .returned (.string ⟨([114, 115, 116]).toArray⟩) ∧ Below w.heap.size w w' := by
  go_enter Tryd.func22, Tryd.ntmps22
  go_wp2_with (go_at_call 42; (with_reducible refine (ctl_28 _).mono ?_); rintro e w' ⟨rfl, rfl⟩)
  go_ret
  exact ⟨rfl, own1 _ _⟩
set_option maxRecDepth 100000 in
set_option maxHeartbeats 2000000 in
theorem mn_29 (x y s n : Int) (w : World) : Calls Tryd.prog 22 #[.agg #[.int .i64 29, .int .i64 x, .int .i64 y, .int .i64 s, .int .u16 n]] w fun e w' => e = .returned (.string ⟨([106, 112]).toArray⟩) ∧ Below w.heap.size w w' := by
  go_enter Tryd.func22, Tryd.ntmps22
  go_wp2_with (go_at_call 42; (with_reducible refine (ctl_29 _).mono ?_); rintro e w' ⟨rfl, rfl⟩)
  go_ret
  exact ⟨rfl, own1 _ _⟩
set_option maxRecDepth 100000 in
set_option maxHeartbeats 2000000 in
theorem mn_30 (x y s n : Int) (w : World) : Calls Tryd.prog 22 #[.agg #[.int .i64 30, .int .i64 x, .int .i64 y, .int .i64 s, .int .u16 n]] w fun e w' => e = .returned (.string ⟨([112, 117, 115, 104]).toArray⟩) ∧ Below w.heap.size w w' := by
  go_enter Tryd.func22, Tryd.ntmps22
  go_wp2_with (go_at_call 42; (with_reducible refine (ctl_30 _).mono ?_); rintro e w' ⟨rfl, rfl⟩)
  go_ret
  exact ⟨rfl, own1 _ _⟩
set_option maxRecDepth 100000 in
set_option maxHeartbeats 2000000 in
theorem mn_31 (x y s n : Int) (w : World) : Calls Tryd.prog 22 #[.agg #[.int .i64 31, .int .i64 x, .int .i64 y, .int .i64 s, .int .u16 n]] w fun e w' => e = .returned (.string ⟨([112, 111, 112]).toArray⟩) ∧ Below w.heap.size w w' := by
  go_enter Tryd.func22, Tryd.ntmps22
  go_wp2_with (go_at_call 42; (with_reducible refine (ctl_31 _).mono ?_); rintro e w' ⟨rfl, rfl⟩)
  go_ret
  exact ⟨rfl, own1 _ _⟩
set_option maxRecDepth 100000 in
set_option maxHeartbeats 2000000 in
theorem mn_32 (x y s n : Int) (w : World) : Calls Tryd.prog 22 #[.agg #[.int .i64 32, .int .i64 x, .int .i64 y, .int .i64 s, .int .u16 n]] w fun e w' => e = .returned (.string ⟨([108, 100]).toArray⟩) ∧ Below w.heap.size w w' := by
  go_enter Tryd.func22, Tryd.ntmps22
  go_wp2
  go_ret
  exact ⟨rfl, own1 _ _⟩
set_option maxRecDepth 100000 in
set_option maxHeartbeats 2000000 in
theorem mn_33 (x y s n : Int) (w : World) : Calls Tryd.prog 22 #[.agg #[.int .i64 33, .int .i64 x, .int .i64 y, .int .i64 s, .int .u16 n]] w fun e w' => e = .returned (.string ⟨([108, 100]).toArray⟩) ∧ Below w.heap.size w w' := by
  go_enter Tryd.func22, Tryd.ntmps22
  go_wp2
  go_ret
  exact ⟨rfl, own1 _ _⟩
set_option maxRecDepth 100000 in
set_option maxHeartbeats 2000000 in
theorem mn_34 (x y s n : Int) (w : World) : Calls Tryd.prog 22 #[.agg #[.int .i64 34, .int .i64 x, .int .i64 y, .int .i64 s, .int .u16 n]] w fun e w' => e = .returned (.string ⟨([108, 100, 104]).toArray⟩) ∧ Below w.heap.size w w' := by
  go_enter Tryd.func22, Tryd.ntmps22
  go_wp2
  go_ret
  exact ⟨rfl, own1 _ _⟩
set_option maxRecDepth 100000 in
set_option maxHeartbeats 2000000 in
theorem mn_35 (x y s n : Int) (w : World) : Calls Tryd.prog 22 #[.agg #[.int .i64 35, .int .i64 x, .int .i64 y, .int .i64 s, .int .u16 n]] w fun e w' => e = .returned (.string ⟨([108, 100, 104]).toArray⟩) ∧ Below w.heap.size w w' := by
  go_enter Tryd.func22, Tryd.ntmps22
  go_wp2
  go_ret
  exact ⟨rfl, own1 _ _⟩
set_option maxRecDepth 100000 in
set_option maxHeartbeats 2000000 in
theorem mn_36 (x y s n : Int) (w : World) : Calls Tryd.prog 22 #[.agg #[.int .i64 36, .int .i64 x, .int .i64 y, .int .i64 s, .int .u16 n]] w fun e w' => e = .returned (.string ⟨([108, 100, 104]).toArray⟩) ∧ Below w.heap.size w w' := by
  go_enter Tryd.func22, Tryd.ntmps22
  go_wp2
  go_ret
  exact ⟨rfl, own1 _ _⟩
set_option maxRecDepth 100000 in
set_option maxHeartbeats 2000000 in
theorem mn_37 (x y s n : Int) (w : World) : Calls Tryd.prog 22 #[.agg #[.int .i64 37, .int .i64 x, .int .i64 y, .int .i64 s, .int .u16 n]] w fun e w' => e = .returned (.string ⟨([108, 100, 104]).toArray⟩) ∧ Below w.heap.size w w' := by
  go_enter Tryd.func22, Tryd.ntmps22
  go_wp2
  go_ret
  exact ⟨rfl, own1 _ _⟩
set_option maxRecDepth 100000 in
set_option maxHeartbeats 2000000 in
theorem mn_38 (x y s n : Int) (w : World) : Calls Tryd.prog 22 #[.agg #[.int .i64 38, .int .i64 x, .int .i64 y, .int .i64 s, .int .u16 n]] w fun e w' => e = .returned (.string ⟨([108, 100]).toArray⟩) ∧ Below w.heap.size w w' := by
  go_enter Tryd.func22, Tryd.ntmps22
  go_wp2
  go_ret
  exact ⟨rfl, own1 _ _⟩
set_option maxRecDepth 100000 in
set_option maxHeartbeats 2000000 in
theorem mn_39 (x y s n : Int) (w : World) : Calls Tryd.prog 22 #[.agg #[.int .i64 39, .int .i64 x, .int .i64 y, .int .i64 s, .int .u16 n]] w fun e w' => e = .returned (.string ⟨([108, 100]).toArray⟩) ∧ Below w.heap.size w w' := by
  go_enter Tryd.func22, Tryd.ntmps22
  go_wp2
  go_ret
  exact ⟨rfl, own1 _ _⟩
set_option maxRecDepth 100000 in
set_option maxHeartbeats 2000000 in
theorem mn_40 (x y s n : Int) (w : World) : Calls Tryd.prog 22 #[.agg #[.int .i64 40, .int .i64 x, .int .i64 y, .int .i64 s, .int .u16 n]] w fun e w' => e = .returned (.string ⟨([108, 100]).toArray⟩) ∧ Below w.heap.size w w' := by
  go_enter Tryd.func22, Tryd.ntmps22
  go_wp2
  go_ret
  exact ⟨rfl, own1 _ _⟩
set_option maxRecDepth 100000 in
set_option maxHeartbeats 2000000 in
theorem mn_41 (x y s n : Int) (w : World) : Calls Tryd.prog 22 #[.agg #[.int .i64 41, .int .i64 x, .int .i64 y, .int .i64 s, .int .u16 n]] w fun e w' => e = .returned (.string ⟨([97, 100, 100]).toArray⟩) ∧ Below w.heap.size w w' := by
  go_enter Tryd.func22, Tryd.ntmps22
  go_wp2
  go_ret
  exact ⟨rfl, own1 _ _⟩
set_option maxRecDepth 100000 in
set_option maxHeartbeats 2000000 in
theorem mn_42 (x y s n : Int) (w : World) : Calls Tryd.prog 22 #[.agg #[.int .i64 42, .int .i64 x, .int .i64 y, .int .i64 s, .int .u16 n]] w fun e w' => e = .returned (.string ⟨([108, 100]).toArray⟩) ∧ Below w.heap.size w w' := by
  go_enter Tryd.func22, Tryd.ntmps22
  go_wp2
  go_ret
  exact ⟨rfl, own1 _ _⟩
set_option maxRecDepth 100000 in
set_option maxHeartbeats 2000000 in
theorem mn_43 (x y s n : Int) (w : World) : Calls Tryd.prog 22 #[.agg #[.int .i64 43, .int .i64 x, .int .i64 y, .int .i64 s, .int .u16 n]] w fun e w' => e = .returned (.string ⟨([108, 100]).toArray⟩) ∧ Below w.heap.size w w' := by
  go_enter Tryd.func22, Tryd.ntmps22
  go_wp2
  go_ret
  exact ⟨rfl, own1 _ _⟩
set_option maxRecDepth 100000 in
set_option maxHeartbeats 2000000 in
theorem mn_44 (x y s n : Int) (w : World) : Calls Tryd.prog 22 #[.agg #[.int .i64 44, .int .i64 x, .int .i64 y, .int .i64 s, .int .u16 n]] w fun e w' => e = .returned (.string ⟨([98, 105, 116]).toArray⟩) ∧ Below w.heap.size w w' := by
  go_enter Tryd.func22, Tryd.ntmps22
  go_wp2
  go_ret
  exact ⟨rfl, own1 _ _⟩
set_option maxRecDepth 100000 in
set_option maxHeartbeats 2000000 in
theorem mn_45 (x y s n : Int) (w : World) : Calls Tryd.prog 22 #[.agg #[.int .i64 45, .int .i64 x, .int .i64 y, .int .i64 s, .int .u16 n]] w fun e w' => e = .returned (.string ⟨([114, 101, 115]).toArray⟩) ∧ Below w.heap.size w w' := by
  go_enter Tryd.func22, Tryd.ntmps22
  go_wp2
  go_ret
  exact ⟨rfl, own1 _ _⟩
set_option maxRecDepth 100000 in
set_option maxHeartbeats 2000000 in
theorem mn_46 (x y s n : Int) (w : World) : Calls Tryd.prog 22 #[.agg #[.int .i64 46, .int .i64 x, .int .i64 y, .int .i64 s, .int .u16 n]] w fun e w' => e = .returned (.string ⟨([115, 101, 116]).toArray⟩) ∧ Below w.heap.size w w' := by
  go_enter Tryd.func22, Tryd.ntmps22
  go_wp2
  go_ret
  exact ⟨rfl, own1 _ _⟩
set_option maxRecDepth 100000 in
set_option maxHeartbeats 2000000 in
theorem mn_d (k x y s n : Int) (h1 : (k == 1) = false) (h2 : (k == 2) = false) (h3 : (k == 3) = false) (h4 : (k == 4) = false) (h5 : (k == 5) = false) (h6 : (k == 6) = false) (h7 : (k == 7) = false) (h8 : (k == 8) = false) (h9 : (k == 9) = false) (h10 : (k == 10) = false) (h11 : (k == 11) = false) (h12 : (k == 12) = false) (h13 : (k == 13) = false) (h14 : (k == 14) = false) (h15 : (k == 15) = false) (h16 : (k == 16) = false) (h17 : (k == 17) = false) (h18 : (k == 18) = false) (h19 : (k == 19) = false) (h20 : (k == 20) = false) (h21 : (k == 21) = false) (h22 : (k == 22) = false) (h23 : (k == 23) = false) (h24 : (k == 24) = false) (h25 : (k == 25) = false) (h26 : (k == 26) = false) (h27 : (k == 27) = false) (h28 : (k == 28) = false) (h29 : (k == 29) = false) (h30 : (k == 30) = false) (h31 : (k == 31) = false) (h32 : (k == 32) = false) (h33 : (k == 33) = false) (h34 : (k == 34) = false) (h35 : (k == 35) = false) (h36 : (k == 36) = false) (h37 : (k == 37) = false) (h38 : (k == 38) = false) (h39 : (k == 39) = false) (h40 : (k == 40) = false) (h41 : (k == 41) = false) (h42 : (k == 42) = false) (h43 : (k == 43) = false) (h44 : (k == 44) = false) (h45 : (k == 45) = false) (h46 : (k == 46) = false) (w : World) : Calls Tryd.prog 22 #[.agg #[.int .i64 k, .int .i64 x, .int .i64 y, .int .i64 s, .int .u16 n]] w fun e w' => e = .returned (.string ⟨([63]).toArray⟩) ∧ Below w.heap.size w w' := by
  have H := fun w => ctl_d k h1 h2 h3 h4 h5 h6 h19 h20 h21 h22 h23 h24 h25 h26 h27 h28 h29 h30 h31 w
  clear h1 h2 h3 h4 h5 h6 h19 h20 h21 h22 h23 h24 h25 h26 h27 h28 h29 h30 h31
  go_enter Tryd.func22, Tryd.ntmps22
  go_wp2_with fail
  refine (H _).mono ?_
  rintro e w' ⟨rfl, rfl⟩
  go_wp2
  go_ret
  exact ⟨rfl, own1 _ _⟩
end Go.Proofs.YtaggebfcfebomaaDoor
