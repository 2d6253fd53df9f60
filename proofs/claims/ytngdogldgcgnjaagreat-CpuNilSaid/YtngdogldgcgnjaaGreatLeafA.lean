/-
  What the small functions of the decoding table return: for every world; digits as those of a byte.
-/
import Derived.Test.YtngdogldgcgnjaaGreatLeafD
namespace Go.Proofs.YtngdogldgcgnjaaGreat
open Go.ChangeShapes Go.WideShapes Go.ChangeAt Go.RowKit
set_option maxRecDepth 100000 in
set_option maxHeartbeats 2000000 in
theorem rel_c_h (x y z p q : Int) (r : OpV) (hr : relF y = r) (h1 : 0 ≤ y) (h2 : y < 8) (w : World) : Calls Tryz.prog 132 #[.agg #[.int .i64 x, .int .i64 y, .int .i64 z, .int .i64 p, .int .i64 q]] w fun e w' =>
  e = .returned (.agg #[.int .i64 (r).k, .int .i64 (r).x, .int .i64 (r).y, .int .i64 (r).s, .int .u16 (r).n]) ∧ Below w.heap.size w w' := by
 have hv : y = 0 ∨ y = 1 ∨ y = 2 ∨ y = 3 ∨ y = 4 ∨ y = 5 ∨ y = 6 ∨ y = 7 := by omega
 rcases hv with rfl | rfl | rfl | rfl | rfl | rfl | rfl | rfl
 all_goals
  clear h1 h2
  simp [relF] at hr
  subst hr
  go_enter Tryz.func132, Tryz.ntmps132
  go_wp2_with (go_at_call 83; ((first | (with_reducible refine (op_0 _ _ _).mono ?_) | ((with_reducible refine (op_1n _ _ _ _ _ _ ?_).mono ?_); (· simp)) | ((with_reducible refine (op_2n _ _ _ _ _ _ _ ?_).mono ?_); (· simp))); rintro e w1 ⟨rfl, hb⟩; obtain ⟨hc, hf⟩ := bcell hb; have HB := Lib.hid hb; clear hb))
  refine bodyPost_ret (v := _) ?_ rfl ⟨rfl, ?_⟩
  ·simp [results, Tryz.results132, go_sem, hc]
  ·clear hc hf
   have hbb := HB.out
   clear HB
   with_reducible first | exact set5 (via (own2 _ _ _) hbb) _ (Nat.le_add_right _ _) _ _ _ _ _ | exact set5 (via (own3 _ _ _ _) hbb) _ (Nat.le_add_right _ _) _ _ _ _ _
theorem rel_c (x y z p q : Int) (h1 : 0 ≤ y) (h2 : y < 8) (w : World) : Calls Tryz.prog 132 #[.agg #[.int .i64 x, .int .i64 y, .int .i64 z, .int .i64 p, .int .i64 q]] w fun e w' =>
  e = .returned (.agg #[.int .i64 (relF y).k, .int .i64 (relF y).x, .int .i64 (relF y).y, .int .i64 (relF y).s, .int .u16 (relF y).n]) ∧ Below w.heap.size w w' := rel_c_h x y z p q _ rfl h1 h2 w

set_option maxRecDepth 100000 in
set_option maxHeartbeats 2000000 in
theorem ofA_c_h (x y z p q : Int) (r : OpV) (hr : ofAF y = r) (h1 : 0 ≤ y) (h2 : y < 8) (w : World) : Calls Tryz.prog 134 #[.agg #[.int .i64 x, .int .i64 y, .int .i64 z, .int .i64 p, .int .i64 q]] w fun e w' =>
  e = .returned (.agg #[.int .i64 (r).k, .int .i64 (r).x, .int .i64 (r).y, .int .i64 (r).s, .int .u16 (r).n]) ∧ Below w.heap.size w w' := by
 have hv : y = 0 ∨ y = 1 ∨ y = 2 ∨ y = 3 ∨ y = 4 ∨ y = 5 ∨ y = 6 ∨ y = 7 := by omega
 rcases hv with rfl | rfl | rfl | rfl | rfl | rfl | rfl | rfl
 all_goals
  clear h1 h2
  simp [ofAF] at hr
  subst hr
  go_enter Tryz.func134, Tryz.ntmps134
  go_wp2_with (go_at_call 83; ((first | (with_reducible refine (op_0 _ _ _).mono ?_) | ((with_reducible refine (op_1n _ _ _ _ _ _ ?_).mono ?_); (· simp)) | ((with_reducible refine (op_2n _ _ _ _ _ _ _ ?_).mono ?_); (· simp))); rintro e w1 ⟨rfl, hb⟩; obtain ⟨hc, hf⟩ := bcell hb; have HB := Lib.hid hb; clear hb))
  refine bodyPost_ret (v := _) ?_ rfl ⟨rfl, ?_⟩
  ·simp [results, Tryz.results134, go_sem, hc]
  ·clear hc hf
   have hbb := HB.out
   clear HB
   with_reducible first | exact set5 (via (own2 _ _ _) hbb) _ (Nat.le_add_right _ _) _ _ _ _ _ | exact set5 (via (own3 _ _ _ _) hbb) _ (Nat.le_add_right _ _) _ _ _ _ _
theorem ofA_c (x y z p q : Int) (h1 : 0 ≤ y) (h2 : y < 8) (w : World) : Calls Tryz.prog 134 #[.agg #[.int .i64 x, .int .i64 y, .int .i64 z, .int .i64 p, .int .i64 q]] w fun e w' =>
  e = .returned (.agg #[.int .i64 (ofAF y).k, .int .i64 (ofAF y).x, .int .i64 (ofAF y).y, .int .i64 (ofAF y).s, .int .u16 (ofAF y).n]) ∧ Below w.heap.size w w' := ofA_c_h x y z p q _ rfl h1 h2 w

set_option maxRecDepth 100000 in
set_option maxHeartbeats 2000000 in
theorem roh_c_h (x y z p q : Int) (r : OpV) (hr : rohF y = r) (h1 : 0 ≤ y) (h2 : y < 8) (w : World) : Calls Tryz.prog 135 #[.agg #[.int .i64 x, .int .i64 y, .int .i64 z, .int .i64 p, .int .i64 q]] w fun e w' =>
  e = .returned (.agg #[.int .i64 (r).k, .int .i64 (r).x, .int .i64 (r).y, .int .i64 (r).s, .int .u16 (r).n]) ∧ Below w.heap.size w w' := by
 have hv : y = 0 ∨ y = 1 ∨ y = 2 ∨ y = 3 ∨ y = 4 ∨ y = 5 ∨ y = 6 ∨ y = 7 := by omega
 rcases hv with rfl | rfl | rfl | rfl | rfl | rfl | rfl | rfl
 all_goals
  clear h1 h2
  simp [rohF] at hr
  subst hr
  go_enter Tryz.func135, Tryz.ntmps135
  go_wp2_with (go_at_call 83; ((first | (with_reducible refine (op_0 _ _ _).mono ?_) | ((with_reducible refine (op_1n _ _ _ _ _ _ ?_).mono ?_); (· simp)) | ((with_reducible refine (op_2n _ _ _ _ _ _ _ ?_).mono ?_); (· simp))); rintro e w1 ⟨rfl, hb⟩; obtain ⟨hc, hf⟩ := bcell hb; have HB := Lib.hid hb; clear hb))
  refine bodyPost_ret (v := _) ?_ rfl ⟨rfl, ?_⟩
  ·simp [results, Tryz.results135, go_sem, hc]
  ·clear hc hf
   have hbb := HB.out
   clear HB
   with_reducible first | exact set5 (via (own2 _ _ _) hbb) _ (Nat.le_add_right _ _) _ _ _ _ _ | exact set5 (via (own3 _ _ _ _) hbb) _ (Nat.le_add_right _ _) _ _ _ _ _
theorem roh_c (x y z p q : Int) (h1 : 0 ≤ y) (h2 : y < 8) (w : World) : Calls Tryz.prog 135 #[.agg #[.int .i64 x, .int .i64 y, .int .i64 z, .int .i64 p, .int .i64 q]] w fun e w' =>
  e = .returned (.agg #[.int .i64 (rohF y).k, .int .i64 (rohF y).x, .int .i64 (rohF y).y, .int .i64 (rohF y).s, .int .u16 (rohF y).n]) ∧ Below w.heap.size w w' := roh_c_h x y z p q _ rfl h1 h2 w

set_option maxRecDepth 100000 in
set_option maxHeartbeats 2000000 in
theorem jof_c_h (x y z p q : Int) (r : OpV) (hr : jofF y = r) (h1 : 0 ≤ y) (h2 : y < 8) (w : World) : Calls Tryz.prog 138 #[.agg #[.int .i64 x, .int .i64 y, .int .i64 z, .int .i64 p, .int .i64 q]] w fun e w' =>
  e = .returned (.agg #[.int .i64 (r).k, .int .i64 (r).x, .int .i64 (r).y, .int .i64 (r).s, .int .u16 (r).n]) ∧ Below w.heap.size w w' := by
 have hv : y = 0 ∨ y = 1 ∨ y = 2 ∨ y = 3 ∨ y = 4 ∨ y = 5 ∨ y = 6 ∨ y = 7 := by omega
 rcases hv with rfl | rfl | rfl | rfl | rfl | rfl | rfl | rfl
 all_goals
  clear h1 h2
  simp [jofF] at hr
  subst hr
  go_enter Tryz.func138, Tryz.ntmps138
  go_wp2_with (go_at_call 83; ((first | (with_reducible refine (op_0 _ _ _).mono ?_) | ((with_reducible refine (op_1n _ _ _ _ _ _ ?_).mono ?_); (· simp)) | ((with_reducible refine (op_2n _ _ _ _ _ _ _ ?_).mono ?_); (· simp))); rintro e w1 ⟨rfl, hb⟩; obtain ⟨hc, hf⟩ := bcell hb; have HB := Lib.hid hb; clear hb))
  refine bodyPost_ret (v := _) ?_ rfl ⟨rfl, ?_⟩
  ·simp [results, Tryz.results138, go_sem, hc]
  ·clear hc hf
   have hbb := HB.out
   clear HB
   with_reducible first | exact set5 (via (own2 _ _ _) hbb) _ (Nat.le_add_right _ _) _ _ _ _ _ | exact set5 (via (own3 _ _ _ _) hbb) _ (Nat.le_add_right _ _) _ _ _ _ _
theorem jof_c (x y z p q : Int) (h1 : 0 ≤ y) (h2 : y < 8) (w : World) : Calls Tryz.prog 138 #[.agg #[.int .i64 x, .int .i64 y, .int .i64 z, .int .i64 p, .int .i64 q]] w fun e w' =>
  e = .returned (.agg #[.int .i64 (jofF y).k, .int .i64 (jofF y).x, .int .i64 (jofF y).y, .int .i64 (jofF y).s, .int .u16 (jofF y).n]) ∧ Below w.heap.size w w' := jof_c_h x y z p q _ rfl h1 h2 w
end Go.Proofs.YtngdogldgcgnjaaGreat
