/-
  What ops.plain returns: for every world; digits as those of a byte.
-/
import Derived.Test.YtngdogldgcgnjaaGreatFqA
import Derived.Test.YtngdogldgcgnjaaGreatFqB
import Derived.Test.YtngdogldgcgnjaaGreatLqA
import Derived.Test.YtngdogldgcgnjaaGreatLqB
namespace Go.Proofs.YtngdogldgcgnjaaGreat
open Go.ChangeShapes Go.WideShapes Go.ChangeAt Go.RowKit
set_option maxRecDepth 100000 in
set_option maxHeartbeats 2000000 in
theorem lq_7 (x y p q : Int) (h1 : 0 ≤ y) (h2 : y < 8) (w : World) : Calls Tryz.prog 126 #[.agg #[.int .i64 x, .int .i64 y, .int .i64 7, .int .i64 p, .int .i64 q]] w fun e w' =>
    e = .returned (.agg #[.int .i64 28, .int .i64 0, .int .i64 0, .int .i64 1, .int .u16 (8 * y)]) ∧ Below w.heap.size w w' := by
    have hw : IntKind.u16.wrap (8 * y) = 8 * y := by unfold IntKind.wrap; simp [IntKind.bits, IntKind.signed]; omega
    go_enter Tryz.func126, Tryz.ntmps126
    go_wp2_with (go_at_call 83; ((first | (with_reducible refine (op_0 _ _ _).mono ?_) | ((with_reducible refine (op_1n _ _ _ _ _ _ ?_).mono ?_); (· simp)) | ((with_reducible refine (op_2n _ _ _ _ _ _ _ ?_).mono ?_); (· simp))); rintro e w1 ⟨rfl, hb⟩; obtain ⟨hc, hf⟩ := bcell hb; have hz : w.heap.size + 1 < w1.heap.size := (by have := hb.size; simp at this; omega); have hy : w.heap.size < w1.heap.size := (by omega); have HB := Lib.hid hb; clear hb))
    refine bodyPost_ret (v := _) ?_ rfl ⟨rfl, ?_⟩
    · simp [results, Tryz.results126, go_sem, hc, hz]
    · clear hc hf
      have hbb := HB.out
      clear HB
      have h3 := set5 (via (own2 _ _ _) hbb) (w.heap.size + 1) (Nat.le_add_right _ _) (.int .i64 28) (.int .i64 0) (.int .i64 0) (.int .i64 1) (.int .u16 (8 * y))
      exact h3.alloc (by simp; omega) _
theorem fq_c (x y z p q : Int) (r : OpV) (hr : fqF y z p q = r) (hy1 : 0 ≤ y) (hy2 : y < 8) (hz1 : 0 ≤ z) (hz2 : z < 8) (_hp1 : 0 ≤ p) (_hp2 : p < 4) (w : World) : Calls Tryz.prog 125 #[.agg #[.int .i64 x, .int .i64 y, .int .i64 z, .int .i64 p, .int .i64 q]] w fun e w' =>
    e = .returned (.agg #[.int .i64 (r).k, .int .i64 (r).x, .int .i64 (r).y, .int .i64 (r).s, .int .u16 (r).n]) ∧ Below w.heap.size w w' := by
  have hv : z = 0 ∨ z = 1 ∨ z = 2 ∨ z = 3 ∨ z = 4 ∨ z = 5 ∨ z = 6 ∨ z = 7 := by omega
  rcases hv with rfl | rfl | rfl | rfl | rfl | rfl | rfl | rfl
  · subst hr; exact fq_0 x y p q _ rfl hy1 hy2 w
  · subst hr; exact fq_1 x y p q _ rfl w
  · subst hr; exact fq_2 x y p q _ rfl w
  · subst hr; exact fq_3 x y p q _ rfl w
  · subst hr; exact fq_4 x y p q w
  · subst hr; exact fq_5 x y p q w
  · subst hr; exact fq_6 x y p q w
  · subst hr; exact fq_7 x y p q _ rfl hy1 hy2 w
theorem lq_c (x y z p q : Int) (r : OpV) (hr : lqF y z p q = r) (hy1 : 0 ≤ y) (hy2 : y < 8) (hz1 : 0 ≤ z) (hz2 : z < 8) (hp1 : 0 ≤ p) (hp2 : p < 4) (w : World) : Calls Tryz.prog 126 #[.agg #[.int .i64 x, .int .i64 y, .int .i64 z, .int .i64 p, .int .i64 q]] w fun e w' =>
    e = .returned (.agg #[.int .i64 (r).k, .int .i64 (r).x, .int .i64 (r).y, .int .i64 (r).s, .int .u16 (r).n]) ∧ Below w.heap.size w w' := by
  have hv : z = 0 ∨ z = 1 ∨ z = 2 ∨ z = 3 ∨ z = 4 ∨ z = 5 ∨ z = 6 ∨ z = 7 := by omega
  rcases hv with rfl | rfl | rfl | rfl | rfl | rfl | rfl | rfl
  · subst hr; exact lq_0 x y p q _ rfl hy1 hy2 w
  · subst hr; exact lq_1 x y p q _ _ _ rfl rfl rfl hp1 hp2 w
  · subst hr; exact lq_2 x y p q _ rfl hy1 hy2 w
  · subst hr; exact lq_3 x y p q _ rfl hy1 hy2 w
  · subst hr; exact lq_4 x y p q _ rfl hy1 hy2 w
  · subst hr; exact lq_5 x y p q _ _ _ rfl rfl rfl hp1 hp2 w
  · subst hr; exact lq_6 x y p q w
  · subst hr; exact lq_7 x y p q hy1 hy2 w

def plF (x y z p q : Int) : OpV := if x = 0 then fqF y z p q else if x = 1 then (if y = 6 then (if z = 6 then ⟨3, 0, 0, 1, 0⟩ else ⟨7, y, z, 1, 0⟩) else ⟨7, y, z, 1, 0⟩) else if x = 2 then ⟨10, y, z, 1, 0⟩ else lqF y z p q
set_option maxRecDepth 100000 in
set_option maxHeartbeats 2000000 in
theorem pl_0 (y z p q : Int) (r : OpV) (hr0 : fqF y z p q = r) (hy1 : 0 ≤ y) (hy2 : y < 8) (hz1 : 0 ≤ z) (hz2 : z < 8) (hp1 : 0 ≤ p) (hp2 : p < 4) (w : World) : Calls Tryz.prog 103 #[.agg #[.int .i64 0, .int .i64 y, .int .i64 z, .int .i64 p, .int .i64 q]] w fun e w' =>
    e = .returned (.agg #[.int .i64 (r).k, .int .i64 (r).x, .int .i64 (r).y, .int .i64 (r).s, .int .u16 (r).n]) ∧ Below w.heap.size w w' := by
    have hr := Lib.hid hr0
    clear hr0
    go_enter Tryz.func103, Tryz.ntmps103
    go_wp2_with (go_at_call 125; ((with_reducible refine (fq_c _ _ _ _ _ r hr.out hy1 hy2 hz1 hz2 hp1 hp2 _).mono ?_); rintro e w1 ⟨rfl, hb⟩; obtain ⟨hc, hf⟩ := bcell hb; have HB := Lib.hid hb; clear hb))
    refine bodyPost_ret (v := _) ?_ rfl ⟨rfl, ?_⟩
    · simp [results, Tryz.results103, go_sem, hc]
    · clear hc hf
      have hbb := HB.out
      clear HB
      with_reducible first | exact set5 (via (own2 _ _ _) hbb) _ (Nat.le_add_right _ _) _ _ _ _ _ | exact set5 (via (own3 _ _ _ _) hbb) _ (Nat.le_add_right _ _) _ _ _ _ _
set_option maxRecDepth 100000 in
set_option maxHeartbeats 2000000 in
theorem pl_3 (y z p q : Int) (r : OpV) (hr0 : lqF y z p q = r) (hy1 : 0 ≤ y) (hy2 : y < 8) (hz1 : 0 ≤ z) (hz2 : z < 8) (hp1 : 0 ≤ p) (hp2 : p < 4) (w : World) : Calls Tryz.prog 103 #[.agg #[.int .i64 3, .int .i64 y, .int .i64 z, .int .i64 p, .int .i64 q]] w fun e w' =>
    e = .returned (.agg #[.int .i64 (r).k, .int .i64 (r).x, .int .i64 (r).y, .int .i64 (r).s, .int .u16 (r).n]) ∧ Below w.heap.size w w' := by
    have hr := Lib.hid hr0
    clear hr0
    go_enter Tryz.func103, Tryz.ntmps103
    go_wp2_with (go_at_call 126; ((with_reducible refine (lq_c _ _ _ _ _ r hr.out hy1 hy2 hz1 hz2 hp1 hp2 _).mono ?_); rintro e w1 ⟨rfl, hb⟩; obtain ⟨hc, hf⟩ := bcell hb; have HB := Lib.hid hb; clear hb))
    refine bodyPost_ret (v := _) ?_ rfl ⟨rfl, ?_⟩
    · simp [results, Tryz.results103, go_sem, hc]
    · clear hc hf
      have hbb := HB.out
      clear HB
      with_reducible first | exact set5 (via (own2 _ _ _) hbb) _ (Nat.le_add_right _ _) _ _ _ _ _ | exact set5 (via (own3 _ _ _ _) hbb) _ (Nat.le_add_right _ _) _ _ _ _ _
set_option maxRecDepth 100000 in
set_option maxHeartbeats 2000000 in
theorem pl_2 (y z p q : Int) (w : World) : Calls Tryz.prog 103 #[.agg #[.int .i64 2, .int .i64 y, .int .i64 z, .int .i64 p, .int .i64 q]] w fun e w' =>
    e = .returned (.agg #[.int .i64 10, .int .i64 y, .int .i64 z, .int .i64 1, .int .u16 0]) ∧ Below w.heap.size w w' := by
    go_enter Tryz.func103, Tryz.ntmps103
    go_wp2_with (go_at_call 83; ((first | (with_reducible refine (op_0 _ _ _).mono ?_) | ((with_reducible refine (op_1n _ _ _ _ _ _ ?_).mono ?_); (· simp)) | ((with_reducible refine (op_2n _ _ _ _ _ _ _ ?_).mono ?_); (· simp))); rintro e w1 ⟨rfl, hb⟩; obtain ⟨hc, hf⟩ := bcell hb; have HB := Lib.hid hb; clear hb))
    refine bodyPost_ret (v := _) ?_ rfl ⟨rfl, ?_⟩
    · simp [results, Tryz.results103, go_sem, hc]
    · clear hc hf
      have hbb := HB.out
      clear HB
      with_reducible first | exact set5 (via (own2 _ _ _) hbb) _ (Nat.le_add_right _ _) _ _ _ _ _ | exact set5 (via (own3 _ _ _ _) hbb) _ (Nat.le_add_right _ _) _ _ _ _ _
set_option maxRecDepth 100000 in
set_option maxHeartbeats 2000000 in
theorem pl_1h (p q : Int) (w : World) : Calls Tryz.prog 103 #[.agg #[.int .i64 1, .int .i64 6, .int .i64 6, .int .i64 p, .int .i64 q]] w fun e w' =>
    e = .returned (.agg #[.int .i64 3, .int .i64 0, .int .i64 0, .int .i64 1, .int .u16 0]) ∧ Below w.heap.size w w' := by
    go_enter Tryz.func103, Tryz.ntmps103
    go_wp2_with (go_at_call 83; ((first | (with_reducible refine (op_0 _ _ _).mono ?_) | ((with_reducible refine (op_1n _ _ _ _ _ _ ?_).mono ?_); (· simp)) | ((with_reducible refine (op_2n _ _ _ _ _ _ _ ?_).mono ?_); (· simp))); rintro e w1 ⟨rfl, hb⟩; obtain ⟨hc, hf⟩ := bcell hb; have HB := Lib.hid hb; clear hb))
    refine bodyPost_ret (v := _) ?_ rfl ⟨rfl, ?_⟩
    · simp [results, Tryz.results103, go_sem, hc]
    · clear hc hf
      have hbb := HB.out
      clear HB
      with_reducible first | exact set5 (via (own2 _ _ _) hbb) _ (Nat.le_add_right _ _) _ _ _ _ _ | exact set5 (via (own3 _ _ _ _) hbb) _ (Nat.le_add_right _ _) _ _ _ _ _
set_option maxRecDepth 100000 in
set_option maxHeartbeats 2000000 in
theorem pl_1y (y z p q : Int) (hy : (y == 6) = false) (w : World) : Calls Tryz.prog 103 #[.agg #[.int .i64 1, .int .i64 y, .int .i64 z, .int .i64 p, .int .i64 q]] w fun e w' =>
    e = .returned (.agg #[.int .i64 7, .int .i64 y, .int .i64 z, .int .i64 1, .int .u16 0]) ∧ Below w.heap.size w w' := by
    go_enter Tryz.func103, Tryz.ntmps103
    go_wp2_with (go_at_call 83; ((first | (with_reducible refine (op_0 _ _ _).mono ?_) | ((with_reducible refine (op_1n _ _ _ _ _ _ ?_).mono ?_); (· simp)) | ((with_reducible refine (op_2n _ _ _ _ _ _ _ ?_).mono ?_); (· simp))); rintro e w1 ⟨rfl, hb⟩; obtain ⟨hc, hf⟩ := bcell hb; have HB := Lib.hid hb; clear hb))
    refine bodyPost_ret (v := _) ?_ rfl ⟨rfl, ?_⟩
    · simp [results, Tryz.results103, go_sem, hc]
    · clear hc hf
      have hbb := HB.out
      clear HB
      with_reducible first | exact set5 (via (own2 _ _ _) hbb) _ (Nat.le_add_right _ _) _ _ _ _ _ | exact set5 (via (own3 _ _ _ _) hbb) _ (Nat.le_add_right _ _) _ _ _ _ _
set_option maxRecDepth 100000 in
set_option maxHeartbeats 2000000 in
theorem pl_1z (z p q : Int) (hz : (z == 6) = false) (w : World) : Calls Tryz.prog 103 #[.agg #[.int .i64 1, .int .i64 6, .int .i64 z, .int .i64 p, .int .i64 q]] w fun e w' =>
    e = .returned (.agg #[.int .i64 7, .int .i64 6, .int .i64 z, .int .i64 1, .int .u16 0]) ∧ Below w.heap.size w w' := by
    go_enter Tryz.func103, Tryz.ntmps103
    go_wp2_with (go_at_call 83; ((first | (with_reducible refine (op_0 _ _ _).mono ?_) | ((with_reducible refine (op_1n _ _ _ _ _ _ ?_).mono ?_); (· simp)) | ((with_reducible refine (op_2n _ _ _ _ _ _ _ ?_).mono ?_); (· simp))); rintro e w1 ⟨rfl, hb⟩; obtain ⟨hc, hf⟩ := bcell hb; have HB := Lib.hid hb; clear hb))
    refine bodyPost_ret (v := _) ?_ rfl ⟨rfl, ?_⟩
    · simp [results, Tryz.results103, go_sem, hc]
    · clear hc hf
      have hbb := HB.out
      clear HB
      with_reducible first | exact set5 (via (own2 _ _ _) hbb) _ (Nat.le_add_right _ _) _ _ _ _ _ | exact set5 (via (own3 _ _ _ _) hbb) _ (Nat.le_add_right _ _) _ _ _ _ _
theorem pl_c (x y z p q : Int) (r : OpV) (hr : plF x y z p q = r) (hx1 : 0 ≤ x) (hx2 : x < 4) (hy1 : 0 ≤ y) (hy2 : y < 8) (hz1 : 0 ≤ z) (hz2 : z < 8) (hp1 : 0 ≤ p) (hp2 : p < 4) (w : World) : Calls Tryz.prog 103 #[.agg #[.int .i64 x, .int .i64 y, .int .i64 z, .int .i64 p, .int .i64 q]] w fun e w' =>
    e = .returned (.agg #[.int .i64 (r).k, .int .i64 (r).x, .int .i64 (r).y, .int .i64 (r).s, .int .u16 (r).n]) ∧ Below w.heap.size w w' := by
  have hv : x = 0 ∨ x = 1 ∨ x = 2 ∨ x = 3 := by omega
  subst hr
  rcases hv with rfl | rfl | rfl | rfl
  · exact pl_0 y z p q _ rfl hy1 hy2 hz1 hz2 hp1 hp2 w
  · by_cases e : y = 6
    · subst e
      by_cases e2 : z = 6
      · subst e2; exact pl_1h p q w
      · have e3 : plF 1 6 z p q = ⟨7, 6, z, 1, 0⟩ := by simp [plF, e2]
        rw [e3]; exact pl_1z z p q (by simpa using e2) w
    · have e3 : plF 1 y z p q = ⟨7, y, z, 1, 0⟩ := by simp [plF, e]
      rw [e3]; exact pl_1y y z p q (by simpa using e) w
  · exact pl_2 y z p q w
  · exact pl_3 y z p q _ rfl hy1 hy2 hz1 hz2 hp1 hp2 w
end Go.Proofs.YtngdogldgcgnjaaGreat
