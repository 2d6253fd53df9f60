/-
  What the small functions of the decoding table return: for every world; digits as those of a byte. (Some texts in one.)
-/
import Derived.Test.YtngdogldgcgnjaaGreatLeafD
namespace Go.Proofs.YtngdogldgcgnjaaGreat
open Go.ChangeShapes Go.WideShapes Go.ChangeAt Go.RowKit
set_option maxRecDepth 100000 in
set_option maxHeartbeats 2000000 in
theorem wo_c_h (x y z p q : Int) (r : OpV) (hr : woF p = r) (h1 : 0 ≤ p) (h2 : p < 4) (w : World) : Calls Tryz.prog 137 #[.agg #[.int .i64 x, .int .i64 y, .int .i64 z, .int .i64 p, .int .i64 q]] w fun e w' =>
  e = .returned (.agg #[.int .i64 (r).k, .int .i64 (r).x, .int .i64 (r).y, .int .i64 (r).s, .int .u16 (r).n]) ∧ Below w.heap.size w w' := by
 have hv : p = 0 ∨ p = 1 ∨ p = 2 ∨ p = 3 := by omega
 rcases hv with rfl | rfl | rfl | rfl
 all_goals
  clear h1 h2
  simp [woF] at hr
  subst hr
  go_enter Tryz.func137, Tryz.ntmps137
  go_wp2_with (go_at_call 83; ((first | (with_reducible refine (op_0 _ _ _).mono ?_) | ((with_reducible refine (op_1n _ _ _ _ _ _ ?_).mono ?_); (· simp)) | ((with_reducible refine (op_2n _ _ _ _ _ _ _ ?_).mono ?_); (· simp))); rintro e w1 ⟨rfl, hb⟩; obtain ⟨hc, hf⟩ := bcell hb; have HB := Lib.hid hb; clear hb))
  refine bodyPost_ret (v := _) ?_ rfl ⟨rfl, ?_⟩
  ·simp [results, Tryz.results137, go_sem, hc]
  ·clear hc hf
   have hbb := HB.out
   clear HB
   with_reducible first | exact set5 (via (own2 _ _ _) hbb) _ (Nat.le_add_right _ _) _ _ _ _ _ | exact set5 (via (own3 _ _ _ _) hbb) _ (Nat.le_add_right _ _) _ _ _ _ _
theorem wo_c (x y z p q : Int) (h1 : 0 ≤ p) (h2 : p < 4) (w : World) : Calls Tryz.prog 137 #[.agg #[.int .i64 x, .int .i64 y, .int .i64 z, .int .i64 p, .int .i64 q]] w fun e w' =>
  e = .returned (.agg #[.int .i64 (woF p).k, .int .i64 (woF p).x, .int .i64 (woF p).y, .int .i64 (woF p).s, .int .u16 (woF p).n]) ∧ Below w.heap.size w w' := wo_c_h x y z p q _ rfl h1 h2 w

set_option maxRecDepth 100000 in
set_option maxHeartbeats 2000000 in
theorem jos_c_h (x y z p q : Int) (r : OpV) (hr : josF y = r) (h1 : 0 ≤ y) (h2 : y < 8) (w : World) : Calls Tryz.prog 139 #[.agg #[.int .i64 x, .int .i64 y, .int .i64 z, .int .i64 p, .int .i64 q]] w fun e w' =>
  e = .returned (.agg #[.int .i64 (r).k, .int .i64 (r).x, .int .i64 (r).y, .int .i64 (r).s, .int .u16 (r).n]) ∧ Below w.heap.size w w' := by
 have hv : y = 0 ∨ y = 1 ∨ y = 2 ∨ y = 3 ∨ y = 4 ∨ y = 5 ∨ y = 6 ∨ y = 7 := by omega
 rcases hv with rfl | rfl | rfl | rfl | rfl | rfl | rfl | rfl
 all_goals
  clear h1 h2
  simp [josF] at hr
  subst hr
  go_enter Tryz.func139, Tryz.ntmps139
  go_wp2_with (go_at_call 83; ((first | (with_reducible refine (op_0 _ _ _).mono ?_) | ((with_reducible refine (op_1n _ _ _ _ _ _ ?_).mono ?_); (· simp)) | ((with_reducible refine (op_2n _ _ _ _ _ _ _ ?_).mono ?_); (· simp))); rintro e w1 ⟨rfl, hb⟩; obtain ⟨hc, hf⟩ := bcell hb; have HB := Lib.hid hb; clear hb))
  refine bodyPost_ret (v := _) ?_ rfl ⟨rfl, ?_⟩
  ·simp [results, Tryz.results139, go_sem, hc]
  ·clear hc hf
   have hbb := HB.out
   clear HB
   with_reducible first | exact set5 (via (own2 _ _ _) hbb) _ (Nat.le_add_right _ _) _ _ _ _ _ | exact set5 (via (own3 _ _ _ _) hbb) _ (Nat.le_add_right _ _) _ _ _ _ _
theorem jos_c (x y z p q : Int) (h1 : 0 ≤ y) (h2 : y < 8) (w : World) : Calls Tryz.prog 139 #[.agg #[.int .i64 x, .int .i64 y, .int .i64 z, .int .i64 p, .int .i64 q]] w fun e w' =>
  e = .returned (.agg #[.int .i64 (josF y).k, .int .i64 (josF y).x, .int .i64 (josF y).y, .int .i64 (josF y).s, .int .u16 (josF y).n]) ∧ Below w.heap.size w w' := jos_c_h x y z p q _ rfl h1 h2 w

set_option maxRecDepth 100000 in
set_option maxHeartbeats 2000000 in
theorem cc_c_h (x y z p q : Int) (r : OpV) (hr : ccF y = r) (h1 : 0 ≤ y) (h2 : y < 8) (w : World) : Calls Tryz.prog 140 #[.agg #[.int .i64 x, .int .i64 y, .int .i64 z, .int .i64 p, .int .i64 q]] w fun e w' =>
  e = .returned (.agg #[.int .i64 (r).k, .int .i64 (r).x, .int .i64 (r).y, .int .i64 (r).s, .int .u16 (r).n]) ∧ Below w.heap.size w w' := by
 have hv : y = 0 ∨ y = 1 ∨ y = 2 ∨ y = 3 ∨ y = 4 ∨ y = 5 ∨ y = 6 ∨ y = 7 := by omega
 rcases hv with rfl | rfl | rfl | rfl | rfl | rfl | rfl | rfl
 all_goals
  clear h1 h2
  simp [ccF] at hr
  subst hr
  go_enter Tryz.func140, Tryz.ntmps140
  go_wp2_with (go_at_call 83; ((first | (with_reducible refine (op_0 _ _ _).mono ?_) | ((with_reducible refine (op_1n _ _ _ _ _ _ ?_).mono ?_); (· simp)) | ((with_reducible refine (op_2n _ _ _ _ _ _ _ ?_).mono ?_); (· simp))); rintro e w1 ⟨rfl, hb⟩; obtain ⟨hc, hf⟩ := bcell hb; have HB := Lib.hid hb; clear hb))
  refine bodyPost_ret (v := _) ?_ rfl ⟨rfl, ?_⟩
  ·simp [results, Tryz.results140, go_sem, hc]
  ·clear hc hf
   have hbb := HB.out
   clear HB
   with_reducible first | exact set5 (via (own2 _ _ _) hbb) _ (Nat.le_add_right _ _) _ _ _ _ _ | exact set5 (via (own3 _ _ _ _) hbb) _ (Nat.le_add_right _ _) _ _ _ _ _
theorem cc_c (x y z p q : Int) (h1 : 0 ≤ y) (h2 : y < 8) (w : World) : Calls Tryz.prog 140 #[.agg #[.int .i64 x, .int .i64 y, .int .i64 z, .int .i64 p, .int .i64 q]] w fun e w' =>
  e = .returned (.agg #[.int .i64 (ccF y).k, .int .i64 (ccF y).x, .int .i64 (ccF y).y, .int .i64 (ccF y).s, .int .u16 (ccF y).n]) ∧ Below w.heap.size w w' := cc_c_h x y z p q _ rfl h1 h2 w

set_option maxRecDepth 100000 in
set_option maxHeartbeats 2000000 in
theorem call_c_h (x y z p q : Int) (r : OpV) (hr : callF p = r) (h1 : 0 ≤ p) (h2 : p < 4) (w : World) : Calls Tryz.prog 141 #[.agg #[.int .i64 x, .int .i64 y, .int .i64 z, .int .i64 p, .int .i64 q]] w fun e w' =>
  e = .returned (.agg #[.int .i64 (r).k, .int .i64 (r).x, .int .i64 (r).y, .int .i64 (r).s, .int .u16 (r).n]) ∧ Below w.heap.size w w' := by
 have hv : p = 0 ∨ p = 1 ∨ p = 2 ∨ p = 3 := by omega
 rcases hv with rfl | rfl | rfl | rfl
 all_goals
  clear h1 h2
  simp [callF] at hr
  subst hr
  go_enter Tryz.func141, Tryz.ntmps141
  go_wp2_with (go_at_call 83; ((first | (with_reducible refine (op_0 _ _ _).mono ?_) | ((with_reducible refine (op_1n _ _ _ _ _ _ ?_).mono ?_); (· simp)) | ((with_reducible refine (op_2n _ _ _ _ _ _ _ ?_).mono ?_); (· simp))); rintro e w1 ⟨rfl, hb⟩; obtain ⟨hc, hf⟩ := bcell hb; have HB := Lib.hid hb; clear hb))
  refine bodyPost_ret (v := _) ?_ rfl ⟨rfl, ?_⟩
  ·simp [results, Tryz.results141, go_sem, hc]
  ·clear hc hf
   have hbb := HB.out
   clear HB
   with_reducible first | exact set5 (via (own2 _ _ _) hbb) _ (Nat.le_add_right _ _) _ _ _ _ _ | exact set5 (via (own3 _ _ _ _) hbb) _ (Nat.le_add_right _ _) _ _ _ _ _
theorem call_c (x y z p q : Int) (h1 : 0 ≤ p) (h2 : p < 4) (w : World) : Calls Tryz.prog 141 #[.agg #[.int .i64 x, .int .i64 y, .int .i64 z, .int .i64 p, .int .i64 q]] w fun e w' =>
  e = .returned (.agg #[.int .i64 (callF p).k, .int .i64 (callF p).x, .int .i64 (callF p).y, .int .i64 (callF p).s, .int .u16 (callF p).n]) ∧ Below w.heap.size w w' := call_c_h x y z p q _ rfl h1 h2 w

set_option maxRecDepth 100000 in
set_option maxHeartbeats 2000000 in
theorem pref_c_h (x y z p q : Int) (r : OpV) (hr : prefF x y z = r) (h1 : 0 ≤ x) (h2 : x < 4) (w : World) : Calls Tryz.prog 104 #[.agg #[.int .i64 x, .int .i64 y, .int .i64 z, .int .i64 p, .int .i64 q]] w fun e w' =>
  e = .returned (.agg #[.int .i64 (r).k, .int .i64 (r).x, .int .i64 (r).y, .int .i64 (r).s, .int .u16 (r).n]) ∧ Below w.heap.size w w' := by
 have hv : x = 0 ∨ x = 1 ∨ x = 2 ∨ x = 3 := by omega
 rcases hv with rfl | rfl | rfl | rfl
 all_goals
  clear h1 h2
  simp [prefF] at hr
  subst hr
  go_enter Tryz.func104, Tryz.ntmps104
  go_wp2_with (go_at_call 83; ((first | (with_reducible refine (op_0 _ _ _).mono ?_) | ((with_reducible refine (op_1n _ _ _ _ _ _ ?_).mono ?_); (· simp)) | ((with_reducible refine (op_2n _ _ _ _ _ _ _ ?_).mono ?_); (· simp))); rintro e w1 ⟨rfl, hb⟩; obtain ⟨hc, hf⟩ := bcell hb; have HB := Lib.hid hb; clear hb))
  refine bodyPost_ret (v := _) ?_ rfl ⟨rfl, ?_⟩
  ·simp [results, Tryz.results104, go_sem, hc]
  ·clear hc hf
   have hbb := HB.out
   clear HB
   with_reducible first | exact set5 (via (own2 _ _ _) hbb) _ (Nat.le_add_right _ _) _ _ _ _ _ | exact set5 (via (own3 _ _ _ _) hbb) _ (Nat.le_add_right _ _) _ _ _ _ _
theorem pref_c (x y z p q : Int) (h1 : 0 ≤ x) (h2 : x < 4) (w : World) : Calls Tryz.prog 104 #[.agg #[.int .i64 x, .int .i64 y, .int .i64 z, .int .i64 p, .int .i64 q]] w fun e w' =>
  e = .returned (.agg #[.int .i64 (prefF x y z).k, .int .i64 (prefF x y z).x, .int .i64 (prefF x y z).y, .int .i64 (prefF x y z).s, .int .u16 (prefF x y z).n]) ∧ Below w.heap.size w w' := pref_c_h x y z p q _ rfl h1 h2 w
end Go.Proofs.YtngdogldgcgnjaaGreat
namespace Go.Proofs.YtngdogldgcgnjaaGreat
open Go.ChangeShapes Go.WideShapes Go.ChangeAt Go.RowKit
set_option maxRecDepth 100000 in
set_option maxHeartbeats 2000000 in
theorem either_c (q : Int) (a b : OpV) (w : World) : Calls Tryz.prog 133 #[.int .i64 q, .agg #[.int .i64 a.k, .int .i64 a.x, .int .i64 a.y, .int .i64 a.s, .int .u16 a.n], .agg #[.int .i64 b.k, .int .i64 b.x, .int .i64 b.y, .int .i64 b.s, .int .u16 b.n]] w fun e w' =>
  e = .returned (.agg #[.int .i64 (eitherF q a b).k, .int .i64 (eitherF q a b).x, .int .i64 (eitherF q a b).y, .int .i64 (eitherF q a b).s, .int .u16 (eitherF q a b).n]) ∧ Below w.heap.size w w' := by
 by_cases hq : q = 0
 ·obtain rfl := hq
  have e1 : eitherF 0 a b = a := rfl
  rw [e1]
  clear e1
  go_enter Tryz.func133, Tryz.ntmps133
  go_wp2
  refine bodyPost_ret (v := _) ?_ rfl ⟨rfl, ?_⟩
  ·simp [results, Tryz.results133, go_sem]
  ·with_reducible exact own3 _ _ _ _
 ·have e1 : eitherF q a b = b := if_neg hq
  rw [e1]
  clear e1
  have hq' : (q == 0) = false := by simpa using hq
  clear hq
  go_enter Tryz.func133, Tryz.ntmps133
  go_wp2
  refine bodyPost_ret (v := _) ?_ rfl ⟨rfl, ?_⟩
  ·simp [results, Tryz.results133, go_sem]
  ·with_reducible exact own3 _ _ _ _
theorem stk_c (p : Int) (w : World) : Calls Tryz.prog 136 #[.int .i64 p] w fun e w' => e = .returned (.int .i64 (stkF p)) ∧ w = w' := by
 by_cases hq : p = 3
 ·obtain rfl := hq
  go_enter Tryz.func136, Tryz.ntmps136
  go_wp2
  go_ret
  exact ⟨rfl, rfl⟩
 ·have e1 : stkF p = p := if_neg hq
  rw [e1]
  clear e1
  have hq' : (p == 3) = false := by simpa using hq
  clear hq
  go_enter Tryz.func136, Tryz.ntmps136
  go_wp2
  go_ret
  exact ⟨rfl, rfl⟩
theorem sh3 (n : Int) (h1 : 0 ≤ n) (h2 : n < 256) : bits .and .i64 (n / 8) 7 = n / 8 % 8 :=
 byte_all (P := fun n => bits .and .i64 (n / 8) 7 = n / 8 % 8) (by decide +kernel) n h1 h2
theorem sh0 (n : Int) (h1 : 0 ≤ n) (h2 : n < 256) : bits .and .i64 n 7 = n % 8 :=
 byte_all (P := fun n => bits .and .i64 n 7 = n % 8) (by decide +kernel) n h1 h2
theorem sh1 (n : Int) (h1 : 0 ≤ n) (h2 : n < 256) : bits .and .i64 (n / 8 % 8) 1 = n / 8 % 8 % 2 :=
 byte_all (P := fun n => bits .and .i64 (n / 8 % 8) 1 = n / 8 % 8 % 2) (by decide +kernel) n h1 h2
set_option maxRecDepth 100000 in
theorem digits_c (n : Int) (h1 : 0 ≤ n) (h2 : n < 256) (w : World) : Calls Tryz.prog 102 #[.int .i64 n] w fun e w' =>
  e = .returned (.agg #[.int .i64 (n / 64), .int .i64 (n / 8 % 8), .int .i64 (n % 8), .int .i64 (n / 8 % 8 / 2), .int .i64 (n / 8 % 8 % 2)]) ∧ Below w.heap.size w w' := by
 have e3 := sh3 n h1 h2
 have e0 := sh0 n h1 h2
 have e1 := sh1 n h1 h2
 go_enter Tryz.func102, Tryz.ntmps102
 go_wp2
 refine bodyPost_ret (v := _) ?_ rfl ⟨rfl, ?_⟩
 ·simp [results, Tryz.results102, go_sem]
 ·with_reducible exact own1 _ _
end Go.Proofs.YtngdogldgcgnjaaGreat
