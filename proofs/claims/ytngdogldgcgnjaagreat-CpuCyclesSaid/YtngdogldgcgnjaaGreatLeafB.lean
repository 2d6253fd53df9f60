/-
  What the small functions of the decoding table return: for every world; digits as those of a byte.
-/
import Derived.Test.YtngdogldgcgnjaaGreatLeafD
namespace Go.Proofs.YtngdogldgcgnjaaGreat
open Go.ChangeShapes Go.WideShapes Go.ChangeAt Go.RowKit
set_option maxRecDepth 100000 in
set_option maxHeartbeats 2000000 in
theorem wo_c_h (x y z p q : Int) (r : OpV) (hr : woF p = r) (h1 : 0 ≤ p) (h2 : p < 4) (w : World) : Calls Tryz.prog 137 #[.agg #[.int .i64 x, .int .i64 y, .int .i64 z, .int .i64 p, .int .i64 q]] w fun e w' =>
    e = .returned (.agg #[.int .i64 (r).k, .int .i64 (r).x, .int .i64 (r).y, .int .i64 (r).s, .int .u16 (r).n]) ∧ Below w.heap.size w w' := by
  have hv : p = 0 ∨ p = 1 ∨ p = 2 ∨ p = 3 := by omega
  rcases hv with rfl | rfl | rfl | rfl
  all_goals
    clear h1 h2
    simp [woF] at hr
    subst hr
    go_enter Tryz.func137, Tryz.ntmps137
    go_wp2_with (go_at_call 83; ((first | (with_reducible refine (op_0 _ _ _).mono ?_) | ((with_reducible refine (op_1n _ _ _ _ _ _ ?_).mono ?_); (· simp)) | ((with_reducible refine (op_2n _ _ _ _ _ _ _ ?_).mono ?_); (· simp))); rintro e w1 ⟨rfl, hb⟩; obtain ⟨hc, hf⟩ := bcell hb; have HB := Lib.hid hb; clear hb))
    refine bodyPost_ret (v := _) ?_ rfl ⟨rfl, ?_⟩
    · simp [results, Tryz.results137, go_sem, hc]
    · clear hc hf
      have hbb := HB.out
      clear HB
      with_reducible first | exact set5 (via (own2 _ _ _) hbb) _ (Nat.le_add_right _ _) _ _ _ _ _ | exact set5 (via (own3 _ _ _ _) hbb) _ (Nat.le_add_right _ _) _ _ _ _ _
theorem wo_c (x y z p q : Int) (h1 : 0 ≤ p) (h2 : p < 4) (w : World) : Calls Tryz.prog 137 #[.agg #[.int .i64 x, .int .i64 y, .int .i64 z, .int .i64 p, .int .i64 q]] w fun e w' =>
    e = .returned (.agg #[.int .i64 (woF p).k, .int .i64 (woF p).x, .int .i64 (woF p).y, .int .i64 (woF p).s, .int .u16 (woF p).n]) ∧ Below w.heap.size w w' := wo_c_h x y z p q _ rfl h1 h2 w

set_option maxRecDepth 100000 in
set_option maxHeartbeats 2000000 in
theorem jos_c_h (x y z p q : Int) (r : OpV) (hr : josF y = r) (h1 : 0 ≤ y) (h2 : y < 8) (w : World) : Calls Tryz.prog 139 #[.agg #[.int .i64 x, .int .i64 y, .int .i64 z, .int .i64 p, .int .i64 q]] w fun e w' =>
    e = .returned (.agg #[.int .i64 (r).k, .int .i64 (r).x, .int .i64 (r).y, .int .i64 (r).s, .int .u16 (r).n]) ∧ Below w.heap.size w w' := by
  have hv : y = 0 ∨ y = 1 ∨ y = 2 ∨ y = 3 ∨ y = 4 ∨ y = 5 ∨ y = 6 ∨ y = 7 := by omega
  rcases hv with rfl | rfl | rfl | rfl | rfl | rfl | rfl | rfl
  all_goals
    clear h1 h2
    simp [josF] at hr
    subst hr
    go_enter Tryz.func139, Tryz.ntmps139
    go_wp2_with (go_at_call 83; ((first | (with_reducible refine (op_0 _ _ _).mono ?_) | ((with_reducible refine (op_1n _ _ _ _ _ _ ?_).mono ?_); (· simp)) | ((with_reducible refine (op_2n _ _ _ _ _ _ _ ?_).mono ?_); (· simp))); rintro e w1 ⟨rfl, hb⟩; obtain ⟨hc, hf⟩ := bcell hb; have HB := Lib.hid hb; clear hb))
    refine bodyPost_ret (v := _) ?_ rfl ⟨rfl, ?_⟩
    · simp [results, Tryz.results139, go_sem, hc]
    · clear hc hf
      have hbb := HB.out
      clear HB
      with_reducible first | exact set5 (via (own2 _ _ _) hbb) _ (Nat.le_add_right _ _) _ _ _ _ _ | exact set5 (via (own3 _ _ _ _) hbb) _ (Nat.le_add_right _ _) _ _ _ _ _
theorem jos_c (x y z p q : Int) (h1 : 0 ≤ y) (h2 : y < 8) (w : World) : Calls Tryz.prog 139 #[.agg #[.int .i64 x, .int .i64 y, .int .i64 z, .int .i64 p, .int .i64 q]] w fun e w' =>
    e = .returned (.agg #[.int .i64 (josF y).k, .int .i64 (josF y).x, .int .i64 (josF y).y, .int .i64 (josF y).s, .int .u16 (josF y).n]) ∧ Below w.heap.size w w' := jos_c_h x y z p q _ rfl h1 h2 w

set_option maxRecDepth 100000 in
set_option maxHeartbeats 2000000 in
theorem cc_c_h (x y z p q : Int) (r : OpV) (hr : ccF y = r) (h1 : 0 ≤ y) (h2 : y < 8) (w : World) : Calls Tryz.prog 140 #[.agg #[.int .i64 x, .int .i64 y, .int .i64 z, .int .i64 p, .int .i64 q]] w fun e w' =>
    e = .returned (.agg #[.int .i64 (r).k, .int .i64 (r).x, .int .i64 (r).y, .int .i64 (r).s, .int .u16 (r).n]) ∧ Below w.heap.size w w' := by
  have hv : y = 0 ∨ y = 1 ∨ y = 2 ∨ y = 3 ∨ y = 4 ∨ y = 5 ∨ y = 6 ∨ y = 7 := by omega
  rcases hv with rfl | rfl | rfl | rfl | rfl | rfl | rfl | rfl
  all_goals
    clear h1 h2
    simp [ccF] at hr
    subst hr
    go_enter Tryz.func140, Tryz.ntmps140
    go_wp2_with (go_at_call 83; ((first | (with_reducible refine (op_0 _ _ _).mono ?_) | ((with_reducible refine (op_1n _ _ _ _ _ _ ?_).mono ?_); (· simp)) | ((with_reducible refine (op_2n _ _ _ _ _ _ _ ?_).mono ?_); (· simp))); rintro e w1 ⟨rfl, hb⟩; obtain ⟨hc, hf⟩ := bcell hb; have HB := Lib.hid hb; clear hb))
    refine bodyPost_ret (v := _) ?_ rfl ⟨rfl, ?_⟩
    · simp [results, Tryz.results140, go_sem, hc]
    · clear hc hf
      have hbb := HB.out
      clear HB
      with_reducible first | exact set5 (via (own2 _ _ _) hbb) _ (Nat.le_add_right _ _) _ _ _ _ _ | exact set5 (via (own3 _ _ _ _) hbb) _ (Nat.le_add_right _ _) _ _ _ _ _
theorem cc_c (x y z p q : Int) (h1 : 0 ≤ y) (h2 : y < 8) (w : World) : Calls Tryz.prog 140 #[.agg #[.int .i64 x, .int .i64 y, .int .i64 z, .int .i64 p, .int .i64 q]] w fun e w' =>
    e = .returned (.agg #[.int .i64 (ccF y).k, .int .i64 (ccF y).x, .int .i64 (ccF y).y, .int .i64 (ccF y).s, .int .u16 (ccF y).n]) ∧ Below w.heap.size w w' := cc_c_h x y z p q _ rfl h1 h2 w

set_option maxRecDepth 100000 in
set_option maxHeartbeats 2000000 in
theorem call_c_h (x y z p q : Int) (r : OpV) (hr : callF p = r) (h1 : 0 ≤ p) (h2 : p < 4) (w : World) : Calls Tryz.prog 141 #[.agg #[.int .i64 x, .int .i64 y, .int .i64 z, .int .i64 p, .int .i64 q]] w fun e w' =>
    e = .returned (.agg #[.int .i64 (r).k, .int .i64 (r).x, .int .i64 (r).y, .int .i64 (r).s, .int .u16 (r).n]) ∧ Below w.heap.size w w' := by
  have hv : p = 0 ∨ p = 1 ∨ p = 2 ∨ p = 3 := by omega
  rcases hv with rfl | rfl | rfl | rfl
  all_goals
    clear h1 h2
    simp [callF] at hr
    subst hr
    go_enter Tryz.func141, Tryz.ntmps141
    go_wp2_with (go_at_call 83; ((first | (with_reducible refine (op_0 _ _ _).mono ?_) | ((with_reducible refine (op_1n _ _ _ _ _ _ ?_).mono ?_); (· simp)) | ((with_reducible refine (op_2n _ _ _ _ _ _ _ ?_).mono ?_); (· simp))); rintro e w1 ⟨rfl, hb⟩; obtain ⟨hc, hf⟩ := bcell hb; have HB := Lib.hid hb; clear hb))
    refine bodyPost_ret (v := _) ?_ rfl ⟨rfl, ?_⟩
    · simp [results, Tryz.results141, go_sem, hc]
    · clear hc hf
      have hbb := HB.out
      clear HB
      with_reducible first | exact set5 (via (own2 _ _ _) hbb) _ (Nat.le_add_right _ _) _ _ _ _ _ | exact set5 (via (own3 _ _ _ _) hbb) _ (Nat.le_add_right _ _) _ _ _ _ _
theorem call_c (x y z p q : Int) (h1 : 0 ≤ p) (h2 : p < 4) (w : World) : Calls Tryz.prog 141 #[.agg #[.int .i64 x, .int .i64 y, .int .i64 z, .int .i64 p, .int .i64 q]] w fun e w' =>
    e = .returned (.agg #[.int .i64 (callF p).k, .int .i64 (callF p).x, .int .i64 (callF p).y, .int .i64 (callF p).s, .int .u16 (callF p).n]) ∧ Below w.heap.size w w' := call_c_h x y z p q _ rfl h1 h2 w

set_option maxRecDepth 100000 in
set_option maxHeartbeats 2000000 in
theorem pref_c_h (x y z p q : Int) (r : OpV) (hr : prefF x y z = r) (h1 : 0 ≤ x) (h2 : x < 4) (w : World) : Calls Tryz.prog 104 #[.agg #[.int .i64 x, .int .i64 y, .int .i64 z, .int .i64 p, .int .i64 q]] w fun e w' =>
    e = .returned (.agg #[.int .i64 (r).k, .int .i64 (r).x, .int .i64 (r).y, .int .i64 (r).s, .int .u16 (r).n]) ∧ Below w.heap.size w w' := by
  have hv : x = 0 ∨ x = 1 ∨ x = 2 ∨ x = 3 := by omega
  rcases hv with rfl | rfl | rfl | rfl
  all_goals
    clear h1 h2
    simp [prefF] at hr
    subst hr
    go_enter Tryz.func104, Tryz.ntmps104
    go_wp2_with (go_at_call 83; ((first | (with_reducible refine (op_0 _ _ _).mono ?_) | ((with_reducible refine (op_1n _ _ _ _ _ _ ?_).mono ?_); (· simp)) | ((with_reducible refine (op_2n _ _ _ _ _ _ _ ?_).mono ?_); (· simp))); rintro e w1 ⟨rfl, hb⟩; obtain ⟨hc, hf⟩ := bcell hb; have HB := Lib.hid hb; clear hb))
    refine bodyPost_ret (v := _) ?_ rfl ⟨rfl, ?_⟩
    · simp [results, Tryz.results104, go_sem, hc]
    · clear hc hf
      have hbb := HB.out
      clear HB
      with_reducible first | exact set5 (via (own2 _ _ _) hbb) _ (Nat.le_add_right _ _) _ _ _ _ _ | exact set5 (via (own3 _ _ _ _) hbb) _ (Nat.le_add_right _ _) _ _ _ _ _
theorem pref_c (x y z p q : Int) (h1 : 0 ≤ x) (h2 : x < 4) (w : World) : Calls Tryz.prog 104 #[.agg #[.int .i64 x, .int .i64 y, .int .i64 z, .int .i64 p, .int .i64 q]] w fun e w' =>
    e = .returned (.agg #[.int .i64 (prefF x y z).k, .int .i64 (prefF x y z).x, .int .i64 (prefF x y z).y, .int .i64 (prefF x y z).s, .int .u16 (prefF x y z).n]) ∧ Below w.heap.size w w' := pref_c_h x y z p q _ rfl h1 h2 w
end Go.Proofs.YtngdogldgcgnjaaGreat
