/-
  What ops.either, ops.stacked and ops.digitsOf return: for every world; no condition but that a digit is one.
-/
import Derived.Test.YtngdogldgcgnjaaGreatLeafD
namespace Go.Proofs.YtngdogldgcgnjaaGreat
open Go.ChangeShapes Go.WideShapes Go.ChangeAt Go.RowKit
set_option maxRecDepth 100000 in
set_option maxHeartbeats 2000000 in
theorem either_c (q : Int) (a b : OpV) (w : World) : Calls Tryz.prog 133 #[.int .i64 q, .agg #[.int .i64 a.k, .int .i64 a.x, .int .i64 a.y, .int .i64 a.s, .int .u16 a.n], .agg #[.int .i64 b.k, .int .i64 b.x, .int .i64 b.y, .int .i64 b.s, .int .u16 b.n]] w fun e w' =>
    e = .returned (.agg #[.int .i64 (eitherF q a b).k, .int .i64 (eitherF q a b).x, .int .i64 (eitherF q a b).y, .int .i64 (eitherF q a b).s, .int .u16 (eitherF q a b).n]) ∧ Below w.heap.size w w' := by
  by_cases hq : q = 0
  · obtain rfl := hq
    have e1 : eitherF 0 a b = a := rfl
    rw [e1]
    clear e1
    go_enter Tryz.func133, Tryz.ntmps133
    go_wp2
    refine bodyPost_ret (v := _) ?_ rfl ⟨rfl, ?_⟩
    · simp [results, Tryz.results133, go_sem]
    · with_reducible exact own3 _ _ _ _
  · have e1 : eitherF q a b = b := if_neg hq
    rw [e1]
    clear e1
    have hq' : (q == 0) = false := by simpa using hq
    clear hq
    go_enter Tryz.func133, Tryz.ntmps133
    go_wp2
    refine bodyPost_ret (v := _) ?_ rfl ⟨rfl, ?_⟩
    · simp [results, Tryz.results133, go_sem]
    · with_reducible exact own3 _ _ _ _
theorem stk_c (p : Int) (w : World) : Calls Tryz.prog 136 #[.int .i64 p] w fun e w' => e = .returned (.int .i64 (stkF p)) ∧ w = w' := by
  by_cases hq : p = 3
  · obtain rfl := hq
    go_enter Tryz.func136, Tryz.ntmps136
    go_wp2
    go_ret
    exact ⟨rfl, rfl⟩
  · have e1 : stkF p = p := if_neg hq
    rw [e1]
    clear e1
    have hq' : (p == 3) = false := by simpa using hq
    clear hq
    go_enter Tryz.func136, Tryz.ntmps136
    go_wp2
    go_ret
    exact ⟨rfl, rfl⟩
theorem sh3 (n : Int) (h1 : 0 ≤ n) (h2 : n < 256) : bits .and .i64 (n / 8) 7 = n / 8 % 8 :=
  byte_all (P := fun n => bits .and .i64 (n / 8) 7 = n / 8 % 8) (by decide +kernel) n h1 h2
theorem sh0 (n : Int) (h1 : 0 ≤ n) (h2 : n < 256) : bits .and .i64 n 7 = n % 8 :=
  byte_all (P := fun n => bits .and .i64 n 7 = n % 8) (by decide +kernel) n h1 h2
theorem sh1 (n : Int) (h1 : 0 ≤ n) (h2 : n < 256) : bits .and .i64 (n / 8 % 8) 1 = n / 8 % 8 % 2 :=
  byte_all (P := fun n => bits .and .i64 (n / 8 % 8) 1 = n / 8 % 8 % 2) (by decide +kernel) n h1 h2
set_option maxRecDepth 100000 in
theorem digits_c (n : Int) (h1 : 0 ≤ n) (h2 : n < 256) (w : World) : Calls Tryz.prog 102 #[.int .i64 n] w fun e w' =>
    e = .returned (.agg #[.int .i64 (n / 64), .int .i64 (n / 8 % 8), .int .i64 (n % 8), .int .i64 (n / 8 % 8 / 2), .int .i64 (n / 8 % 8 % 2)]) ∧ Below w.heap.size w w' := by
  have e3 := sh3 n h1 h2
  have e0 := sh0 n h1 h2
  have e1 := sh1 n h1 h2
  go_enter Tryz.func102, Tryz.ntmps102
  go_wp2
  refine bodyPost_ret (v := _) ?_ rfl ⟨rfl, ?_⟩
  · simp [results, Tryz.results102, go_sem]
  · with_reducible exact own1 _ _
end Go.Proofs.YtngdogldgcgnjaaGreat
