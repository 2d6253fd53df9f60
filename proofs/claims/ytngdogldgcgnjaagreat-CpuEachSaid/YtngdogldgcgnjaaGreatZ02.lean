/-
  What the small functions of the decoding table return: for every world; digits as those of a byte.
  (Some texts in one.)
-/
import Derived.Test.YtngdogldgcgnjaaGreatZ01
set_option maxRecDepth 100000
set_option maxHeartbeats 8000000
namespace Go.Proofs.YtngdogldgcgnjaaGreat
open Go.ChangeShapes Go.WideShapes Go.ChangeAt Go.RowKit
theorem rel_c_h (x y z p q : Int) (r : OpV) (hr : relF y = r) (h1 : 0 ≤ y) (h2 : y < 8) (w : World) : Calls Tryz.prog 132 #[.agg #[.int .i64 x, .int .i64 y, .int .i64 z, .int .i64 p, .int .i64 q]] w fun e w' =>
  e = .returned (.agg #[.int .i64 (r).k, .int .i64 (r).x, .int .i64 (r).y, .int .i64 (r).s, .int .u16 (r).n]) ∧ Below w.heap.size w w' := by
 have hv : y = 0 ∨ y = 1 ∨ y = 2 ∨ y = 3 ∨ y = 4 ∨ y = 5 ∨ y = 6 ∨ y = 7 := by omega
 rcases hv with rfl | rfl | rfl | rfl | rfl | rfl | rfl | rfl
 all_goals
  clear h1 h2
  simp [relF] at hr
  subst hr; go_enter Tryz.func132, Tryz.ntmps132
  go_wp2_with (go_at_call 83; ((first | (with_reducible refine (op_0 _ _ _).mono ?_) | ((with_reducible refine (op_1n _ _ _ _ _ _ ?_).mono ?_); (· simp)) | ((with_reducible refine (op_2n _ _ _ _ _ _ _ ?_).mono ?_); (· simp))); rintro e w1 ⟨rfl, hb⟩; obtain ⟨hc, hf⟩ := bcell hb; have HB := Lib.hid hb; clear hb))
  refine bodyPost_ret (v := _) ?_ rfl ⟨rfl, ?_⟩
  ·simp [results, Tryz.results132, go_sem, hc]
  ·clear hc hf
   have hbb := HB.out; clear HB
   with_reducible first | exact set5 (via (own2 _ _ _) hbb) _ (Nat.le_add_right _ _) _ _ _ _ _ | exact set5 (via (own3 _ _ _ _) hbb) _ (Nat.le_add_right _ _) _ _ _ _ _
theorem rel_c (x y z p q : Int) (h1 : 0 ≤ y) (h2 : y < 8) (w : World) : Calls Tryz.prog 132 #[.agg #[.int .i64 x, .int .i64 y, .int .i64 z, .int .i64 p, .int .i64 q]] w fun e w' =>
  e = .returned (.agg #[.int .i64 (relF y).k, .int .i64 (relF y).x, .int .i64 (relF y).y, .int .i64 (relF y).s, .int .u16 (relF y).n]) ∧ Below w.heap.size w w' := rel_c_h x y z p q _ rfl h1 h2 w
theorem ofA_c_h (x y z p q : Int) (r : OpV) (hr : ofAF y = r) (h1 : 0 ≤ y) (h2 : y < 8) (w : World) : Calls Tryz.prog 134 #[.agg #[.int .i64 x, .int .i64 y, .int .i64 z, .int .i64 p, .int .i64 q]] w fun e w' =>
  e = .returned (.agg #[.int .i64 (r).k, .int .i64 (r).x, .int .i64 (r).y, .int .i64 (r).s, .int .u16 (r).n]) ∧ Below w.heap.size w w' := by
 have hv : y = 0 ∨ y = 1 ∨ y = 2 ∨ y = 3 ∨ y = 4 ∨ y = 5 ∨ y = 6 ∨ y = 7 := by omega
 rcases hv with rfl | rfl | rfl | rfl | rfl | rfl | rfl | rfl
 all_goals
  clear h1 h2
  simp [ofAF] at hr
  subst hr; go_enter Tryz.func134, Tryz.ntmps134
  go_wp2_with (go_at_call 83; ((first | (with_reducible refine (op_0 _ _ _).mono ?_) | ((with_reducible refine (op_1n _ _ _ _ _ _ ?_).mono ?_); (· simp)) | ((with_reducible refine (op_2n _ _ _ _ _ _ _ ?_).mono ?_); (· simp))); rintro e w1 ⟨rfl, hb⟩; obtain ⟨hc, hf⟩ := bcell hb; have HB := Lib.hid hb; clear hb))
  refine bodyPost_ret (v := _) ?_ rfl ⟨rfl, ?_⟩
  ·simp [results, Tryz.results134, go_sem, hc]
  ·clear hc hf
   have hbb := HB.out; clear HB
   with_reducible first | exact set5 (via (own2 _ _ _) hbb) _ (Nat.le_add_right _ _) _ _ _ _ _ | exact set5 (via (own3 _ _ _ _) hbb) _ (Nat.le_add_right _ _) _ _ _ _ _
theorem ofA_c (x y z p q : Int) (h1 : 0 ≤ y) (h2 : y < 8) (w : World) : Calls Tryz.prog 134 #[.agg #[.int .i64 x, .int .i64 y, .int .i64 z, .int .i64 p, .int .i64 q]] w fun e w' =>
  e = .returned (.agg #[.int .i64 (ofAF y).k, .int .i64 (ofAF y).x, .int .i64 (ofAF y).y, .int .i64 (ofAF y).s, .int .u16 (ofAF y).n]) ∧ Below w.heap.size w w' := ofA_c_h x y z p q _ rfl h1 h2 w
theorem roh_c_h (x y z p q : Int) (r : OpV) (hr : rohF y = r) (h1 : 0 ≤ y) (h2 : y < 8) (w : World) : Calls Tryz.prog 135 #[.agg #[.int .i64 x, .int .i64 y, .int .i64 z, .int .i64 p, .int .i64 q]] w fun e w' =>
  e = .returned (.agg #[.int .i64 (r).k, .int .i64 (r).x, .int .i64 (r).y, .int .i64 (r).s, .int .u16 (r).n]) ∧ Below w.heap.size w w' := by
 have hv : y = 0 ∨ y = 1 ∨ y = 2 ∨ y = 3 ∨ y = 4 ∨ y = 5 ∨ y = 6 ∨ y = 7 := by omega
 rcases hv with rfl | rfl | rfl | rfl | rfl | rfl | rfl | rfl
 all_goals
  clear h1 h2
  simp [rohF] at hr
  subst hr; go_enter Tryz.func135, Tryz.ntmps135
  go_wp2_with (go_at_call 83; ((first | (with_reducible refine (op_0 _ _ _).mono ?_) | ((with_reducible refine (op_1n _ _ _ _ _ _ ?_).mono ?_); (· simp)) | ((with_reducible refine (op_2n _ _ _ _ _ _ _ ?_).mono ?_); (· simp))); rintro e w1 ⟨rfl, hb⟩; obtain ⟨hc, hf⟩ := bcell hb; have HB := Lib.hid hb; clear hb))
  refine bodyPost_ret (v := _) ?_ rfl ⟨rfl, ?_⟩
  ·simp [results, Tryz.results135, go_sem, hc]
  ·clear hc hf
   have hbb := HB.out; clear HB
   with_reducible first | exact set5 (via (own2 _ _ _) hbb) _ (Nat.le_add_right _ _) _ _ _ _ _ | exact set5 (via (own3 _ _ _ _) hbb) _ (Nat.le_add_right _ _) _ _ _ _ _
theorem roh_c (x y z p q : Int) (h1 : 0 ≤ y) (h2 : y < 8) (w : World) : Calls Tryz.prog 135 #[.agg #[.int .i64 x, .int .i64 y, .int .i64 z, .int .i64 p, .int .i64 q]] w fun e w' =>
  e = .returned (.agg #[.int .i64 (rohF y).k, .int .i64 (rohF y).x, .int .i64 (rohF y).y, .int .i64 (rohF y).s, .int .u16 (rohF y).n]) ∧ Below w.heap.size w w' := roh_c_h x y z p q _ rfl h1 h2 w
theorem jof_c_h (x y z p q : Int) (r : OpV) (hr : jofF y = r) (h1 : 0 ≤ y) (h2 : y < 8) (w : World) : Calls Tryz.prog 138 #[.agg #[.int .i64 x, .int .i64 y, .int .i64 z, .int .i64 p, .int .i64 q]] w fun e w' =>
  e = .returned (.agg #[.int .i64 (r).k, .int .i64 (r).x, .int .i64 (r).y, .int .i64 (r).s, .int .u16 (r).n]) ∧ Below w.heap.size w w' := by
 have hv : y = 0 ∨ y = 1 ∨ y = 2 ∨ y = 3 ∨ y = 4 ∨ y = 5 ∨ y = 6 ∨ y = 7 := by omega
 rcases hv with rfl | rfl | rfl | rfl | rfl | rfl | rfl | rfl
 all_goals
  clear h1 h2
  simp [jofF] at hr
  subst hr; go_enter Tryz.func138, Tryz.ntmps138
  go_wp2_with (go_at_call 83; ((first | (with_reducible refine (op_0 _ _ _).mono ?_) | ((with_reducible refine (op_1n _ _ _ _ _ _ ?_).mono ?_); (· simp)) | ((with_reducible refine (op_2n _ _ _ _ _ _ _ ?_).mono ?_); (· simp))); rintro e w1 ⟨rfl, hb⟩; obtain ⟨hc, hf⟩ := bcell hb; have HB := Lib.hid hb; clear hb))
  refine bodyPost_ret (v := _) ?_ rfl ⟨rfl, ?_⟩
  ·simp [results, Tryz.results138, go_sem, hc]
  ·clear hc hf
   have hbb := HB.out; clear HB
   with_reducible first | exact set5 (via (own2 _ _ _) hbb) _ (Nat.le_add_right _ _) _ _ _ _ _ | exact set5 (via (own3 _ _ _ _) hbb) _ (Nat.le_add_right _ _) _ _ _ _ _
theorem jof_c (x y z p q : Int) (h1 : 0 ≤ y) (h2 : y < 8) (w : World) : Calls Tryz.prog 138 #[.agg #[.int .i64 x, .int .i64 y, .int .i64 z, .int .i64 p, .int .i64 q]] w fun e w' =>
  e = .returned (.agg #[.int .i64 (jofF y).k, .int .i64 (jofF y).x, .int .i64 (jofF y).y, .int .i64 (jofF y).s, .int .u16 (jofF y).n]) ∧ Below w.heap.size w w' := jof_c_h x y z p q _ rfl h1 h2 w
end Go.Proofs.YtngdogldgcgnjaaGreat
namespace Go.Proofs.YtngdogldgcgnjaaGreat
open Go.ChangeShapes Go.WideShapes Go.ChangeAt Go.RowKit
theorem wo_c_h (x y z p q : Int) (r : OpV) (hr : woF p = r) (h1 : 0 ≤ p) (h2 : p < 4) (w : World) : Calls Tryz.prog 137 #[.agg #[.int .i64 x, .int .i64 y, .int .i64 z, .int .i64 p, .int .i64 q]] w fun e w' =>
  e = .returned (.agg #[.int .i64 (r).k, .int .i64 (r).x, .int .i64 (r).y, .int .i64 (r).s, .int .u16 (r).n]) ∧ Below w.heap.size w w' := by
 have hv : p = 0 ∨ p = 1 ∨ p = 2 ∨ p = 3 := by omega
 rcases hv with rfl | rfl | rfl | rfl
 all_goals
  clear h1 h2
  simp [woF] at hr
  subst hr; go_enter Tryz.func137, Tryz.ntmps137
  go_wp2_with (go_at_call 83; ((first | (with_reducible refine (op_0 _ _ _).mono ?_) | ((with_reducible refine (op_1n _ _ _ _ _ _ ?_).mono ?_); (· simp)) | ((with_reducible refine (op_2n _ _ _ _ _ _ _ ?_).mono ?_); (· simp))); rintro e w1 ⟨rfl, hb⟩; obtain ⟨hc, hf⟩ := bcell hb; have HB := Lib.hid hb; clear hb))
  refine bodyPost_ret (v := _) ?_ rfl ⟨rfl, ?_⟩
  ·simp [results, Tryz.results137, go_sem, hc]
  ·clear hc hf
   have hbb := HB.out; clear HB
   with_reducible first | exact set5 (via (own2 _ _ _) hbb) _ (Nat.le_add_right _ _) _ _ _ _ _ | exact set5 (via (own3 _ _ _ _) hbb) _ (Nat.le_add_right _ _) _ _ _ _ _
theorem wo_c (x y z p q : Int) (h1 : 0 ≤ p) (h2 : p < 4) (w : World) : Calls Tryz.prog 137 #[.agg #[.int .i64 x, .int .i64 y, .int .i64 z, .int .i64 p, .int .i64 q]] w fun e w' =>
  e = .returned (.agg #[.int .i64 (woF p).k, .int .i64 (woF p).x, .int .i64 (woF p).y, .int .i64 (woF p).s, .int .u16 (woF p).n]) ∧ Below w.heap.size w w' := wo_c_h x y z p q _ rfl h1 h2 w
theorem jos_c_h (x y z p q : Int) (r : OpV) (hr : josF y = r) (h1 : 0 ≤ y) (h2 : y < 8) (w : World) : Calls Tryz.prog 139 #[.agg #[.int .i64 x, .int .i64 y, .int .i64 z, .int .i64 p, .int .i64 q]] w fun e w' =>
  e = .returned (.agg #[.int .i64 (r).k, .int .i64 (r).x, .int .i64 (r).y, .int .i64 (r).s, .int .u16 (r).n]) ∧ Below w.heap.size w w' := by
 have hv : y = 0 ∨ y = 1 ∨ y = 2 ∨ y = 3 ∨ y = 4 ∨ y = 5 ∨ y = 6 ∨ y = 7 := by omega
 rcases hv with rfl | rfl | rfl | rfl | rfl | rfl | rfl | rfl
 all_goals
  clear h1 h2
  simp [josF] at hr
  subst hr; go_enter Tryz.func139, Tryz.ntmps139
  go_wp2_with (go_at_call 83; ((first | (with_reducible refine (op_0 _ _ _).mono ?_) | ((with_reducible refine (op_1n _ _ _ _ _ _ ?_).mono ?_); (· simp)) | ((with_reducible refine (op_2n _ _ _ _ _ _ _ ?_).mono ?_); (· simp))); rintro e w1 ⟨rfl, hb⟩; obtain ⟨hc, hf⟩ := bcell hb; have HB := Lib.hid hb; clear hb))
  refine bodyPost_ret (v := _) ?_ rfl ⟨rfl, ?_⟩
  ·simp [results, Tryz.results139, go_sem, hc]
  ·clear hc hf
   have hbb := HB.out; clear HB
   with_reducible first | exact set5 (via (own2 _ _ _) hbb) _ (Nat.le_add_right _ _) _ _ _ _ _ | exact set5 (via (own3 _ _ _ _) hbb) _ (Nat.le_add_right _ _) _ _ _ _ _
theorem jos_c (x y z p q : Int) (h1 : 0 ≤ y) (h2 : y < 8) (w : World) : Calls Tryz.prog 139 #[.agg #[.int .i64 x, .int .i64 y, .int .i64 z, .int .i64 p, .int .i64 q]] w fun e w' =>
  e = .returned (.agg #[.int .i64 (josF y).k, .int .i64 (josF y).x, .int .i64 (josF y).y, .int .i64 (josF y).s, .int .u16 (josF y).n]) ∧ Below w.heap.size w w' := jos_c_h x y z p q _ rfl h1 h2 w
theorem cc_c_h (x y z p q : Int) (r : OpV) (hr : ccF y = r) (h1 : 0 ≤ y) (h2 : y < 8) (w : World) : Calls Tryz.prog 140 #[.agg #[.int .i64 x, .int .i64 y, .int .i64 z, .int .i64 p, .int .i64 q]] w fun e w' =>
  e = .returned (.agg #[.int .i64 (r).k, .int .i64 (r).x, .int .i64 (r).y, .int .i64 (r).s, .int .u16 (r).n]) ∧ Below w.heap.size w w' := by
 have hv : y = 0 ∨ y = 1 ∨ y = 2 ∨ y = 3 ∨ y = 4 ∨ y = 5 ∨ y = 6 ∨ y = 7 := by omega
 rcases hv with rfl | rfl | rfl | rfl | rfl | rfl | rfl | rfl
 all_goals
  clear h1 h2
  simp [ccF] at hr
  subst hr; go_enter Tryz.func140, Tryz.ntmps140
  go_wp2_with (go_at_call 83; ((first | (with_reducible refine (op_0 _ _ _).mono ?_) | ((with_reducible refine (op_1n _ _ _ _ _ _ ?_).mono ?_); (· simp)) | ((with_reducible refine (op_2n _ _ _ _ _ _ _ ?_).mono ?_); (· simp))); rintro e w1 ⟨rfl, hb⟩; obtain ⟨hc, hf⟩ := bcell hb; have HB := Lib.hid hb; clear hb))
  refine bodyPost_ret (v := _) ?_ rfl ⟨rfl, ?_⟩
  ·simp [results, Tryz.results140, go_sem, hc]
  ·clear hc hf
   have hbb := HB.out; clear HB
   with_reducible first | exact set5 (via (own2 _ _ _) hbb) _ (Nat.le_add_right _ _) _ _ _ _ _ | exact set5 (via (own3 _ _ _ _) hbb) _ (Nat.le_add_right _ _) _ _ _ _ _
theorem cc_c (x y z p q : Int) (h1 : 0 ≤ y) (h2 : y < 8) (w : World) : Calls Tryz.prog 140 #[.agg #[.int .i64 x, .int .i64 y, .int .i64 z, .int .i64 p, .int .i64 q]] w fun e w' =>
  e = .returned (.agg #[.int .i64 (ccF y).k, .int .i64 (ccF y).x, .int .i64 (ccF y).y, .int .i64 (ccF y).s, .int .u16 (ccF y).n]) ∧ Below w.heap.size w w' := cc_c_h x y z p q _ rfl h1 h2 w
theorem call_c_h (x y z p q : Int) (r : OpV) (hr : callF p = r) (h1 : 0 ≤ p) (h2 : p < 4) (w : World) : Calls Tryz.prog 141 #[.agg #[.int .i64 x, .int .i64 y, .int .i64 z, .int .i64 p, .int .i64 q]] w fun e w' =>
  e = .returned (.agg #[.int .i64 (r).k, .int .i64 (r).x, .int .i64 (r).y, .int .i64 (r).s, .int .u16 (r).n]) ∧ Below w.heap.size w w' := by
 have hv : p = 0 ∨ p = 1 ∨ p = 2 ∨ p = 3 := by omega
 rcases hv with rfl | rfl | rfl | rfl
 all_goals
  clear h1 h2
  simp [callF] at hr
  subst hr; go_enter Tryz.func141, Tryz.ntmps141
  go_wp2_with (go_at_call 83; ((first | (with_reducible refine (op_0 _ _ _).mono ?_) | ((with_reducible refine (op_1n _ _ _ _ _ _ ?_).mono ?_); (· simp)) | ((with_reducible refine (op_2n _ _ _ _ _ _ _ ?_).mono ?_); (· simp))); rintro e w1 ⟨rfl, hb⟩; obtain ⟨hc, hf⟩ := bcell hb; have HB := Lib.hid hb; clear hb))
  refine bodyPost_ret (v := _) ?_ rfl ⟨rfl, ?_⟩
  ·simp [results, Tryz.results141, go_sem, hc]
  ·clear hc hf
   have hbb := HB.out; clear HB
   with_reducible first | exact set5 (via (own2 _ _ _) hbb) _ (Nat.le_add_right _ _) _ _ _ _ _ | exact set5 (via (own3 _ _ _ _) hbb) _ (Nat.le_add_right _ _) _ _ _ _ _
theorem call_c (x y z p q : Int) (h1 : 0 ≤ p) (h2 : p < 4) (w : World) : Calls Tryz.prog 141 #[.agg #[.int .i64 x, .int .i64 y, .int .i64 z, .int .i64 p, .int .i64 q]] w fun e w' =>
  e = .returned (.agg #[.int .i64 (callF p).k, .int .i64 (callF p).x, .int .i64 (callF p).y, .int .i64 (callF p).s, .int .u16 (callF p).n]) ∧ Below w.heap.size w w' := call_c_h x y z p q _ rfl h1 h2 w
theorem pref_c_h (x y z p q : Int) (r : OpV) (hr : prefF x y z = r) (h1 : 0 ≤ x) (h2 : x < 4) (w : World) : Calls Tryz.prog 104 #[.agg #[.int .i64 x, .int .i64 y, .int .i64 z, .int .i64 p, .int .i64 q]] w fun e w' =>
  e = .returned (.agg #[.int .i64 (r).k, .int .i64 (r).x, .int .i64 (r).y, .int .i64 (r).s, .int .u16 (r).n]) ∧ Below w.heap.size w w' := by
 have hv : x = 0 ∨ x = 1 ∨ x = 2 ∨ x = 3 := by omega
 rcases hv with rfl | rfl | rfl | rfl
 all_goals
  clear h1 h2
  simp [prefF] at hr
  subst hr; go_enter Tryz.func104, Tryz.ntmps104
  go_wp2_with (go_at_call 83; ((first | (with_reducible refine (op_0 _ _ _).mono ?_) | ((with_reducible refine (op_1n _ _ _ _ _ _ ?_).mono ?_); (· simp)) | ((with_reducible refine (op_2n _ _ _ _ _ _ _ ?_).mono ?_); (· simp))); rintro e w1 ⟨rfl, hb⟩; obtain ⟨hc, hf⟩ := bcell hb; have HB := Lib.hid hb; clear hb))
  refine bodyPost_ret (v := _) ?_ rfl ⟨rfl, ?_⟩
  ·simp [results, Tryz.results104, go_sem, hc]
  ·clear hc hf
   have hbb := HB.out; clear HB
   with_reducible first | exact set5 (via (own2 _ _ _) hbb) _ (Nat.le_add_right _ _) _ _ _ _ _ | exact set5 (via (own3 _ _ _ _) hbb) _ (Nat.le_add_right _ _) _ _ _ _ _
theorem pref_c (x y z p q : Int) (h1 : 0 ≤ x) (h2 : x < 4) (w : World) : Calls Tryz.prog 104 #[.agg #[.int .i64 x, .int .i64 y, .int .i64 z, .int .i64 p, .int .i64 q]] w fun e w' =>
  e = .returned (.agg #[.int .i64 (prefF x y z).k, .int .i64 (prefF x y z).x, .int .i64 (prefF x y z).y, .int .i64 (prefF x y z).s, .int .u16 (prefF x y z).n]) ∧ Below w.heap.size w w' := pref_c_h x y z p q _ rfl h1 h2 w
end Go.Proofs.YtngdogldgcgnjaaGreat
namespace Go.Proofs.YtngdogldgcgnjaaGreat
open Go.ChangeShapes Go.WideShapes Go.ChangeAt Go.RowKit
theorem either_c (q : Int) (a b : OpV) (w : World) : Calls Tryz.prog 133 #[.int .i64 q, .agg #[.int .i64 a.k, .int .i64 a.x, .int .i64 a.y, .int .i64 a.s, .int .u16 a.n], .agg #[.int .i64 b.k, .int .i64 b.x, .int .i64 b.y, .int .i64 b.s, .int .u16 b.n]] w fun e w' =>
  e = .returned (.agg #[.int .i64 (eitherF q a b).k, .int .i64 (eitherF q a b).x, .int .i64 (eitherF q a b).y, .int .i64 (eitherF q a b).s, .int .u16 (eitherF q a b).n]) ∧ Below w.heap.size w w' := by
 by_cases hq : q = 0
 ·obtain rfl := hq
  have e1 : eitherF 0 a b = a := rfl; rw [e1]; clear e1; go_enter Tryz.func133, Tryz.ntmps133; go_wp2
  refine bodyPost_ret (v := _) ?_ rfl ⟨rfl, ?_⟩
  ·simp [results, Tryz.results133, go_sem]
  ·with_reducible exact own3 _ _ _ _
 ·have e1 : eitherF q a b = b := if_neg hq
  rw [e1]; clear e1
  have hq' : (q == 0) = false := by simpa using hq
  clear hq; go_enter Tryz.func133, Tryz.ntmps133; go_wp2
  refine bodyPost_ret (v := _) ?_ rfl ⟨rfl, ?_⟩
  ·simp [results, Tryz.results133, go_sem]
  ·with_reducible exact own3 _ _ _ _
theorem stk_c (p : Int) (w : World) : Calls Tryz.prog 136 #[.int .i64 p] w fun e w' => e = .returned (.int .i64 (stkF p)) ∧ w = w' := by
 by_cases hq : p = 3
 ·obtain rfl := hq
  go_enter Tryz.func136, Tryz.ntmps136; go_wp2; go_ret
  exact ⟨rfl, rfl⟩
 ·have e1 : stkF p = p := if_neg hq
  rw [e1]; clear e1
  have hq' : (p == 3) = false := by simpa using hq
  clear hq; go_enter Tryz.func136, Tryz.ntmps136; go_wp2; go_ret
  exact ⟨rfl, rfl⟩
theorem sh3 (n : Int) (h1 : 0 ≤ n) (h2 : n < 256) : bits .and .i64 (n / 8) 7 = n / 8 % 8 :=
 byte_all (P := fun n => bits .and .i64 (n / 8) 7 = n / 8 % 8) (by decide +kernel) n h1 h2
theorem sh0 (n : Int) (h1 : 0 ≤ n) (h2 : n < 256) : bits .and .i64 n 7 = n % 8 :=
 byte_all (P := fun n => bits .and .i64 n 7 = n % 8) (by decide +kernel) n h1 h2
theorem sh1 (n : Int) (h1 : 0 ≤ n) (h2 : n < 256) : bits .and .i64 (n / 8 % 8) 1 = n / 8 % 8 % 2 :=
 byte_all (P := fun n => bits .and .i64 (n / 8 % 8) 1 = n / 8 % 8 % 2) (by decide +kernel) n h1 h2
theorem digits_c (n : Int) (h1 : 0 ≤ n) (h2 : n < 256) (w : World) : Calls Tryz.prog 102 #[.int .i64 n] w fun e w' =>
  e = .returned (.agg #[.int .i64 (n / 64), .int .i64 (n / 8 % 8), .int .i64 (n % 8), .int .i64 (n / 8 % 8 / 2), .int .i64 (n / 8 % 8 % 2)]) ∧ Below w.heap.size w w' := by
 have e3 := sh3 n h1 h2; have e0 := sh0 n h1 h2; have e1 := sh1 n h1 h2; go_enter Tryz.func102, Tryz.ntmps102; go_wp2
 refine bodyPost_ret (v := _) ?_ rfl ⟨rfl, ?_⟩
 ·simp [results, Tryz.results102, go_sem]
 ·with_reducible exact own1 _ _
end Go.Proofs.YtngdogldgcgnjaaGreat
namespace Go.Proofs.YtngdogldgcgnjaaGreat
open Go.ChangeShapes Go.WideShapes Go.ChangeAt Go.RowKit
def Rest (w0 : World) (w : World) : Prop := (∃ v0 v1 v2 v3 v4 : Value, Has w (w0.heap.size + 1) #[v0, v1, v2, v3, v4]) ∧ Below w0.heap.size w0 w ∧ w0.heap.size < w.heap.size
theorem St.below {w0 W w2 : World} {A : Array Value} (h : (∀ o, W.cell? ⟨w0.heap.size, o, none⟩ = A[o]?) ∧ Rest w0 W) (hb : Below W.heap.size W w2) :
  (∀ o, w2.cell? ⟨w0.heap.size, o, none⟩ = A[o]?) ∧ Rest w0 w2 := by
 obtain ⟨hc, _⟩ := bcell hb; obtain ⟨h0, ⟨v0, v1, v2, v3, v4, h1⟩, h2, h3⟩ := h
 exact ⟨fun o => (hc _ o h3).trans (h0 o), ⟨v0, v1, v2, v3, v4, h1.below hb⟩, via h2 hb, Nat.lt_of_lt_of_le h3 hb.size⟩
theorem St.alloc {w0 W : World} {A : Array Value} (h : (∀ o, W.cell? ⟨w0.heap.size, o, none⟩ = A[o]?) ∧ Rest w0 W) (o : Obj) :
  (∀ o', (W.alloc o).cell? ⟨w0.heap.size, o', none⟩ = A[o']?) ∧ Rest w0 (W.alloc o) := St.below h (own1 W o)
theorem St.new (w0 : World) (A : Array Value) (t t' : TypeId) :
  (∀ o, ((w0.alloc (.cells A t)).alloc (.cells #[.int .i64 0, .int .i64 0, .int .i64 0, .int .i64 0, .int .u16 0] t')).drew.cell? ⟨w0.heap.size, o, none⟩ = A[o]?) ∧ Rest w0 ((w0.alloc (.cells A t)).alloc (.cells #[.int .i64 0, .int .i64 0, .int .i64 0, .int .i64 0, .int .u16 0] t')).drew := by
 have h1 := (Has.new w0 A t).alloc (.cells #[.int .i64 0, .int .i64 0, .int .i64 0, .int .i64 0, .int .u16 0] t'); have h2 := Has.new (w0.alloc (.cells A t)) #[.int .i64 0, .int .i64 0, .int .i64 0, .int .i64 0, .int .u16 0] t'
 exact ⟨h1.drew.2.1, ⟨_, _, _, _, _, by simpa using h2.drew⟩, (own2 _ _ _).drew, by simp; omega⟩
theorem St.set5 {w0 W : World} {A : Array Value} (h : (∀ o, W.cell? ⟨w0.heap.size, o, none⟩ = A[o]?) ∧ Rest w0 W) (a0 a1 a2 a3 a4 : Value) :
  (∀ o, (((((W.setCell ⟨w0.heap.size + 1, 0, none⟩ a0).setCell ⟨w0.heap.size + 1, 1, none⟩ a1).setCell ⟨w0.heap.size + 1, 2, none⟩ a2).setCell ⟨w0.heap.size + 1, 3, none⟩ a3).setCell ⟨w0.heap.size + 1, 4, none⟩ a4).cell? ⟨w0.heap.size, o, none⟩ = A[o]?)
   ∧ Rest w0 (((((W.setCell ⟨w0.heap.size + 1, 0, none⟩ a0).setCell ⟨w0.heap.size + 1, 1, none⟩ a1).setCell ⟨w0.heap.size + 1, 2, none⟩ a2).setCell ⟨w0.heap.size + 1, 3, none⟩ a3).setCell ⟨w0.heap.size + 1, 4, none⟩ a4) := by
 obtain ⟨h0, ⟨v0, v1, v2, v3, v4, h1⟩, h2, h3⟩ := h
 refine ⟨fun o => ?_, ⟨_, _, _, _, _, ((((h1.set 0 a0 (by simp)).set 1 a1 (by simp)).set 2 a2 (by simp)).set 3 a3 (by simp)).set 4 a4 (by simp)⟩, YtngdogldgcgnjaaGreat.set5 h2 _ (Nat.le_succ _) _ _ _ _ _, by simpa using h3⟩
 have n : ∀ k o : Nat, (⟨w0.heap.size + 1, k, none⟩ : Addr) ≠ ⟨w0.heap.size, o, none⟩ := fun k o h => by have := congrArg Addr.block h; simp at this
 rw [World.cell?_setCell_other _ _ _ _ (n _ _), World.cell?_setCell_other _ _ _ _ (n _ _), World.cell?_setCell_other _ _ _ _ (n _ _), World.cell?_setCell_other _ _ _ _ (n _ _), World.cell?_setCell_other _ _ _ _ (n _ _), h0]
theorem Has.lt {w : World} {b : Nat} {A : Array Value} (h : Has w b A) : b < w.heap.size := h.1
theorem Has.c0 {w : World} {b : Nat} {x : Int} (h : Has w b #[.int .i64 x]) : w.cell? ⟨b, 0, none⟩ = some (.int .i64 x) := h.2.1 0
theorem either_m (q k x s k' x' s' : Int) (r : OpV) (hr : eitherF q ⟨k, x, 0, s, 0⟩ ⟨k', x', 0, s', 0⟩ = r) (w : World) : Calls Tryz.prog 133 #[.int .i64 q, .agg #[.int .i64 k, .int .i64 x, .int .i64 0, .int .i64 s, .int .u16 0], .agg #[.int .i64 k', .int .i64 x', .int .i64 0, .int .i64 s', .int .u16 0]] w fun e w' =>
  e = .returned (.agg #[.int .i64 r.k, .int .i64 r.x, .int .i64 r.y, .int .i64 r.s, .int .u16 r.n]) ∧ Below w.heap.size w w' := hr ▸ either_c q ⟨k, x, 0, s, 0⟩ ⟨k', x', 0, s', 0⟩ w
theorem either_n (q k x s : Int) (b r : OpV) (hr : eitherF q ⟨k, x, 0, s, 0⟩ b = r) (w : World) : Calls Tryz.prog 133 #[.int .i64 q, .agg #[.int .i64 k, .int .i64 x, .int .i64 0, .int .i64 s, .int .u16 0], .agg #[.int .i64 b.k, .int .i64 b.x, .int .i64 b.y, .int .i64 b.s, .int .u16 b.n]] w fun e w' =>
  e = .returned (.agg #[.int .i64 r.k, .int .i64 r.x, .int .i64 r.y, .int .i64 r.s, .int .u16 r.n]) ∧ Below w.heap.size w w' := hr ▸ either_c q ⟨k, x, 0, s, 0⟩ b w
theorem stk_m (p s : Int) (hs : stkF p = s) (w : World) : Calls Tryz.prog 136 #[.int .i64 p] w fun e w' => e = .returned (.int .i64 s) ∧ w = w' := hs ▸ stk_c p w
def fqF (y z p q : Int) : OpV := if z = 0 then relF y else if z = 1 then eitherF q ⟨9, p, 0, 3, 0⟩ ⟨16, p, 0, 1, 0⟩ else if z = 2 then eitherF q ⟨33, p, 0, 1, 0⟩ ⟨32, p, 0, 1, 0⟩
 else if z = 3 then eitherF q ⟨14, p, 0, 1, 0⟩ ⟨15, p, 0, 1, 0⟩ else if z = 4 then ⟨12, y, 0, 1, 0⟩ else if z = 5 then ⟨13, y, 0, 1, 0⟩ else if z = 6 then ⟨8, y, 0, 2, 0⟩ else ofAF y
def lqF (y z p q : Int) : OpV := if z = 0 then rohF y else if z = 1 then eitherF q ⟨31, stkF p, 0, 1, 0⟩ (woF p) else if z = 2 then jofF y
 else if z = 3 then josF y else if z = 4 then ccF y else if z = 5 then eitherF q ⟨30, stkF p, 0, 1, 0⟩ (callF p) else if z = 6 then ⟨11, y, 0, 2, 0⟩ else ⟨28, 0, 0, 1, 8 * y⟩
end Go.Proofs.YtngdogldgcgnjaaGreat
