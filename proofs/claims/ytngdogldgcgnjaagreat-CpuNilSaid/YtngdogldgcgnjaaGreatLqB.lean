/-
  What ops.firstQuarter and ops.lastQuarter return, digit by digit: for every world; digits as those of a byte.
-/
import Derived.Test.YtngdogldgcgnjaaGreatFq0
namespace Go.Proofs.YtngdogldgcgnjaaGreat
open Go.ChangeShapes Go.WideShapes Go.ChangeAt Go.RowKit
set_option maxRecDepth 100000 in
set_option maxHeartbeats 2000000 in
theorem lq_0 (x y p q : Int) (r : OpV) (hr0 : rohF y = r) (h1 : 0 ≤ y) (h2 : y < 8) (w : World) : Calls Tryz.prog 126 #[.agg #[.int .i64 x, .int .i64 y, .int .i64 0, .int .i64 p, .int .i64 q]] w fun e w' =>
  e = .returned (.agg #[.int .i64 (r).k, .int .i64 (r).x, .int .i64 (r).y, .int .i64 (r).s, .int .u16 (r).n]) ∧ Below w.heap.size w w' := by
  have hr := Lib.hid hr0
  clear hr0
  go_enter Tryz.func126, Tryz.ntmps126
  go_wp2_with (go_at_call 135; ((with_reducible refine (roh_c_h _ _ _ _ _ r hr.out h1 h2 _).mono ?_); rintro e w1 ⟨rfl, hb⟩; obtain ⟨hc, hf⟩ := bcell hb; have HB := Lib.hid hb; clear hb))
  refine bodyPost_ret (v := _) ?_ rfl ⟨rfl, ?_⟩
  ·simp [results, Tryz.results126, go_sem, hc]
  ·clear hc hf
   have hbb := HB.out
   clear HB
   with_reducible first | exact set5 (via (own2 _ _ _) hbb) _ (Nat.le_add_right _ _) _ _ _ _ _ | exact set5 (via (own3 _ _ _ _) hbb) _ (Nat.le_add_right _ _) _ _ _ _ _
set_option maxRecDepth 100000 in
set_option maxHeartbeats 2000000 in
theorem lq_2 (x y p q : Int) (r : OpV) (hr0 : jofF y = r) (h1 : 0 ≤ y) (h2 : y < 8) (w : World) : Calls Tryz.prog 126 #[.agg #[.int .i64 x, .int .i64 y, .int .i64 2, .int .i64 p, .int .i64 q]] w fun e w' =>
  e = .returned (.agg #[.int .i64 (r).k, .int .i64 (r).x, .int .i64 (r).y, .int .i64 (r).s, .int .u16 (r).n]) ∧ Below w.heap.size w w' := by
  have hr := Lib.hid hr0
  clear hr0
  go_enter Tryz.func126, Tryz.ntmps126
  go_wp2_with (go_at_call 138; ((with_reducible refine (jof_c_h _ _ _ _ _ r hr.out h1 h2 _).mono ?_); rintro e w1 ⟨rfl, hb⟩; obtain ⟨hc, hf⟩ := bcell hb; have HB := Lib.hid hb; clear hb))
  refine bodyPost_ret (v := _) ?_ rfl ⟨rfl, ?_⟩
  ·simp [results, Tryz.results126, go_sem, hc]
  ·clear hc hf
   have hbb := HB.out
   clear HB
   with_reducible first | exact set5 (via (own2 _ _ _) hbb) _ (Nat.le_add_right _ _) _ _ _ _ _ | exact set5 (via (own3 _ _ _ _) hbb) _ (Nat.le_add_right _ _) _ _ _ _ _
set_option maxRecDepth 100000 in
set_option maxHeartbeats 2000000 in
theorem lq_3 (x y p q : Int) (r : OpV) (hr0 : josF y = r) (h1 : 0 ≤ y) (h2 : y < 8) (w : World) : Calls Tryz.prog 126 #[.agg #[.int .i64 x, .int .i64 y, .int .i64 3, .int .i64 p, .int .i64 q]] w fun e w' =>
  e = .returned (.agg #[.int .i64 (r).k, .int .i64 (r).x, .int .i64 (r).y, .int .i64 (r).s, .int .u16 (r).n]) ∧ Below w.heap.size w w' := by
  have hr := Lib.hid hr0
  clear hr0
  go_enter Tryz.func126, Tryz.ntmps126
  go_wp2_with (go_at_call 139; ((with_reducible refine (jos_c_h _ _ _ _ _ r hr.out h1 h2 _).mono ?_); rintro e w1 ⟨rfl, hb⟩; obtain ⟨hc, hf⟩ := bcell hb; have HB := Lib.hid hb; clear hb))
  refine bodyPost_ret (v := _) ?_ rfl ⟨rfl, ?_⟩
  ·simp [results, Tryz.results126, go_sem, hc]
  ·clear hc hf
   have hbb := HB.out
   clear HB
   with_reducible first | exact set5 (via (own2 _ _ _) hbb) _ (Nat.le_add_right _ _) _ _ _ _ _ | exact set5 (via (own3 _ _ _ _) hbb) _ (Nat.le_add_right _ _) _ _ _ _ _
set_option maxRecDepth 100000 in
set_option maxHeartbeats 2000000 in
theorem lq_4 (x y p q : Int) (r : OpV) (hr0 : ccF y = r) (h1 : 0 ≤ y) (h2 : y < 8) (w : World) : Calls Tryz.prog 126 #[.agg #[.int .i64 x, .int .i64 y, .int .i64 4, .int .i64 p, .int .i64 q]] w fun e w' =>
  e = .returned (.agg #[.int .i64 (r).k, .int .i64 (r).x, .int .i64 (r).y, .int .i64 (r).s, .int .u16 (r).n]) ∧ Below w.heap.size w w' := by
  have hr := Lib.hid hr0
  clear hr0
  go_enter Tryz.func126, Tryz.ntmps126
  go_wp2_with (go_at_call 140; ((with_reducible refine (cc_c_h _ _ _ _ _ r hr.out h1 h2 _).mono ?_); rintro e w1 ⟨rfl, hb⟩; obtain ⟨hc, hf⟩ := bcell hb; have HB := Lib.hid hb; clear hb))
  refine bodyPost_ret (v := _) ?_ rfl ⟨rfl, ?_⟩
  ·simp [results, Tryz.results126, go_sem, hc]
  ·clear hc hf
   have hbb := HB.out
   clear HB
   with_reducible first | exact set5 (via (own2 _ _ _) hbb) _ (Nat.le_add_right _ _) _ _ _ _ _ | exact set5 (via (own3 _ _ _ _) hbb) _ (Nat.le_add_right _ _) _ _ _ _ _
set_option maxRecDepth 100000 in
set_option maxHeartbeats 2000000 in
theorem lq_6 (x y p q : Int) (w : World) : Calls Tryz.prog 126 #[.agg #[.int .i64 x, .int .i64 y, .int .i64 6, .int .i64 p, .int .i64 q]] w fun e w' =>
  e = .returned (.agg #[.int .i64 11, .int .i64 y, .int .i64 0, .int .i64 2, .int .u16 0]) ∧ Below w.heap.size w w' := by
  go_enter Tryz.func126, Tryz.ntmps126
  go_wp2_with (go_at_call 83; ((first | (with_reducible refine (op_0 _ _ _).mono ?_) | ((with_reducible refine (op_1n _ _ _ _ _ _ ?_).mono ?_); (· simp)) | ((with_reducible refine (op_2n _ _ _ _ _ _ _ ?_).mono ?_); (· simp))); rintro e w1 ⟨rfl, hb⟩; obtain ⟨hc, hf⟩ := bcell hb; have HB := Lib.hid hb; clear hb))
  refine bodyPost_ret (v := _) ?_ rfl ⟨rfl, ?_⟩
  ·simp [results, Tryz.results126, go_sem, hc]
  ·clear hc hf
   have hbb := HB.out
   clear HB
   with_reducible first | exact set5 (via (own2 _ _ _) hbb) _ (Nat.le_add_right _ _) _ _ _ _ _ | exact set5 (via (own3 _ _ _ _) hbb) _ (Nat.le_add_right _ _) _ _ _ _ _
end Go.Proofs.YtngdogldgcgnjaaGreat
