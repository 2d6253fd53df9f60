/-
  What the document's Decode returns: for every world and all bytes; no other condition.
-/
import Derived.Test.YtaggebfcfebomaaDoorRefLA
import Derived.Test.YtaggebfcfebomaaDoorRefLB
import Derived.Test.YtaggebfcfebomaaDoorRefHA
import Derived.Test.YtaggebfcfebomaaDoorRefHB
namespace Go.Proofs.YtaggebfcfebomaaDoor
open Go.ChangeShapes Go.WideShapes Go.ChangeAt Go.RowKit
set_option linter.unusedVariables false
set_option maxRecDepth 100000 in
set_option maxHeartbeats 2000000 in
theorem high_1_3 (b : Nat) (n : Int) (hb : b < 256) (r : OpV) (hr0 : pfT b = r) (w : World) : Calls Tryd.prog 20 #[.int .i64 1, .int .i64 3, .int .u8 b, .int .u16 n] w fun e w' => e = .returned (.agg #[.int .i64 (r).k, .int .i64 (r).x, .int .i64 (r).y, .int .i64 (r).s, .int .u16 (r).n]) ∧ Below w.heap.size w w' := by
  have hr := Lib.hid hr0
  clear hr0
  go_enter Tryd.func20, Tryd.ntmps20
  go_wp2_with (go_at_call 39; ((with_reducible refine (behind_h b hb r hr.out _).mono ?_); rintro e w1 ⟨rfl, hb⟩; obtain ⟨hc, hf⟩ := bcell hb; have HB := Lib.hid hb; clear hb))
  refine bodyPost_ret (v := _) ?_ rfl ⟨rfl, ?_⟩
  · simp [results, Tryd.results20, go_sem, hc]
  · clear hc hf
    have hbb := HB.out
    clear HB
    with_reducible exact set5 (via (own1 _ _) hbb) _ (Nat.le_refl _) _ _ _ _ _
theorem low_all (y z b n : Int) (hy1 : 0 ≤ y) (hy2 : y < 8) (hz1 : 0 ≤ z) (hz2 : z < 8) (hb1 : 0 ≤ b) (hb2 : b < 256) (r : OpV) (hr : decW (fqF y z (y / 2) (y % 2)) b n = r) (w : World) : Calls Tryd.prog 19 #[.int .i64 y, .int .i64 z, .int .u8 b, .int .u16 n] w fun e w' => e = .returned (.agg #[.int .i64 (r).k, .int .i64 (r).x, .int .i64 (r).y, .int .i64 (r).s, .int .u16 (r).n]) ∧ Below w.heap.size w w' := by
  have hv : z = 0 ∨ z = 1 ∨ z = 2 ∨ z = 3 ∨ z = 4 ∨ z = 5 ∨ z = 6 ∨ z = 7 := by omega
  have hu : y = 0 ∨ y = 1 ∨ y = 2 ∨ y = 3 ∨ y = 4 ∨ y = 5 ∨ y = 6 ∨ y = 7 := by omega
  rcases hv with rfl | rfl | rfl | rfl | rfl | rfl | rfl | rfl
  · rcases hu with rfl | rfl | rfl | rfl | rfl | rfl | rfl | rfl
    · subst hr; exact low_0_0 b n hb1 hb2 w
    · subst hr; exact low_1_0 b n hb1 hb2 w
    · subst hr; exact low_2_0 b n hb1 hb2 w
    · subst hr; exact low_3_0 b n hb1 hb2 w
    · subst hr; exact low_4_0 b n hb1 hb2 w
    · subst hr; exact low_5_0 b n hb1 hb2 w
    · subst hr; exact low_6_0 b n hb1 hb2 w
    · subst hr; exact low_7_0 b n hb1 hb2 w
  · rcases hu with rfl | rfl | rfl | rfl | rfl | rfl | rfl | rfl
    · subst hr; exact low_0_1 b n hb1 hb2 w
    · subst hr; exact low_1_1 b n hb1 hb2 w
    · subst hr; exact low_2_1 b n hb1 hb2 w
    · subst hr; exact low_3_1 b n hb1 hb2 w
    · subst hr; exact low_4_1 b n hb1 hb2 w
    · subst hr; exact low_5_1 b n hb1 hb2 w
    · subst hr; exact low_6_1 b n hb1 hb2 w
    · subst hr; exact low_7_1 b n hb1 hb2 w
  · rcases hu with rfl | rfl | rfl | rfl | rfl | rfl | rfl | rfl
    · subst hr; exact low_0_2 b n hb1 hb2 w
    · subst hr; exact low_1_2 b n hb1 hb2 w
    · subst hr; exact low_2_2 b n hb1 hb2 w
    · subst hr; exact low_3_2 b n hb1 hb2 w
    · subst hr; exact low_4_2 b n hb1 hb2 w
    · subst hr; exact low_5_2 b n hb1 hb2 w
    · subst hr; exact low_6_2 b n hb1 hb2 w
    · subst hr; exact low_7_2 b n hb1 hb2 w
  · rcases hu with rfl | rfl | rfl | rfl | rfl | rfl | rfl | rfl
    · subst hr; exact low_0_3 b n hb1 hb2 w
    · subst hr; exact low_1_3 b n hb1 hb2 w
    · subst hr; exact low_2_3 b n hb1 hb2 w
    · subst hr; exact low_3_3 b n hb1 hb2 w
    · subst hr; exact low_4_3 b n hb1 hb2 w
    · subst hr; exact low_5_3 b n hb1 hb2 w
    · subst hr; exact low_6_3 b n hb1 hb2 w
    · subst hr; exact low_7_3 b n hb1 hb2 w
  · subst hr; exact low_y_4 y hy1 hy2 b n hb1 hb2 w
  · subst hr; exact low_y_5 y hy1 hy2 b n hb1 hb2 w
  · subst hr; exact low_y_6 y hy1 hy2 b n hb1 hb2 w
  · rcases hu with rfl | rfl | rfl | rfl | rfl | rfl | rfl | rfl
    · subst hr; exact low_0_7 b n hb1 hb2 w
    · subst hr; exact low_1_7 b n hb1 hb2 w
    · subst hr; exact low_2_7 b n hb1 hb2 w
    · subst hr; exact low_3_7 b n hb1 hb2 w
    · subst hr; exact low_4_7 b n hb1 hb2 w
    · subst hr; exact low_5_7 b n hb1 hb2 w
    · subst hr; exact low_6_7 b n hb1 hb2 w
    · subst hr; exact low_7_7 b n hb1 hb2 w
theorem high_all (y z b n : Int) (hy1 : 0 ≤ y) (hy2 : y < 8) (hz1 : 0 ≤ z) (hz2 : z < 8) (hb1 : 0 ≤ b) (hb2 : b < 256) (hyz : ¬ (y = 1 ∧ z = 3)) (r : OpV) (hr : decW (lqF y z (y / 2) (y % 2)) b n = r) (w : World) : Calls Tryd.prog 20 #[.int .i64 y, .int .i64 z, .int .u8 b, .int .u16 n] w fun e w' => e = .returned (.agg #[.int .i64 (r).k, .int .i64 (r).x, .int .i64 (r).y, .int .i64 (r).s, .int .u16 (r).n]) ∧ Below w.heap.size w w' := by
  have hv : z = 0 ∨ z = 1 ∨ z = 2 ∨ z = 3 ∨ z = 4 ∨ z = 5 ∨ z = 6 ∨ z = 7 := by omega
  have hu : y = 0 ∨ y = 1 ∨ y = 2 ∨ y = 3 ∨ y = 4 ∨ y = 5 ∨ y = 6 ∨ y = 7 := by omega
  rcases hv with rfl | rfl | rfl | rfl | rfl | rfl | rfl | rfl
  · rcases hu with rfl | rfl | rfl | rfl | rfl | rfl | rfl | rfl
    · subst hr; exact high_0_0 b n hb1 hb2 w
    · subst hr; exact high_1_0 b n hb1 hb2 w
    · subst hr; exact high_2_0 b n hb1 hb2 w
    · subst hr; exact high_3_0 b n hb1 hb2 w
    · subst hr; exact high_4_0 b n hb1 hb2 w
    · subst hr; exact high_5_0 b n hb1 hb2 w
    · subst hr; exact high_6_0 b n hb1 hb2 w
    · subst hr; exact high_7_0 b n hb1 hb2 w
  · rcases hu with rfl | rfl | rfl | rfl | rfl | rfl | rfl | rfl
    · subst hr; exact high_0_1 b n hb1 hb2 w
    · subst hr; exact high_1_1 b n hb1 hb2 w
    · subst hr; exact high_2_1 b n hb1 hb2 w
    · subst hr; exact high_3_1 b n hb1 hb2 w
    · subst hr; exact high_4_1 b n hb1 hb2 w
    · subst hr; exact high_5_1 b n hb1 hb2 w
    · subst hr; exact high_6_1 b n hb1 hb2 w
    · subst hr; exact high_7_1 b n hb1 hb2 w
  · rcases hu with rfl | rfl | rfl | rfl | rfl | rfl | rfl | rfl
    · subst hr; exact high_0_2 b n hb1 hb2 w
    · subst hr; exact high_1_2 b n hb1 hb2 w
    · subst hr; exact high_2_2 b n hb1 hb2 w
    · subst hr; exact high_3_2 b n hb1 hb2 w
    · subst hr; exact high_4_2 b n hb1 hb2 w
    · subst hr; exact high_5_2 b n hb1 hb2 w
    · subst hr; exact high_6_2 b n hb1 hb2 w
    · subst hr; exact high_7_2 b n hb1 hb2 w
  · rcases hu with rfl | rfl | rfl | rfl | rfl | rfl | rfl | rfl
    · subst hr; exact high_0_3 b n hb1 hb2 w
    · exact absurd ⟨rfl, rfl⟩ hyz
    · subst hr; exact high_2_3 b n hb1 hb2 w
    · subst hr; exact high_3_3 b n hb1 hb2 w
    · subst hr; exact high_4_3 b n hb1 hb2 w
    · subst hr; exact high_5_3 b n hb1 hb2 w
    · subst hr; exact high_6_3 b n hb1 hb2 w
    · subst hr; exact high_7_3 b n hb1 hb2 w
  · rcases hu with rfl | rfl | rfl | rfl | rfl | rfl | rfl | rfl
    · subst hr; exact high_0_4 b n hb1 hb2 w
    · subst hr; exact high_1_4 b n hb1 hb2 w
    · subst hr; exact high_2_4 b n hb1 hb2 w
    · subst hr; exact high_3_4 b n hb1 hb2 w
    · subst hr; exact high_4_4 b n hb1 hb2 w
    · subst hr; exact high_5_4 b n hb1 hb2 w
    · subst hr; exact high_6_4 b n hb1 hb2 w
    · subst hr; exact high_7_4 b n hb1 hb2 w
  · rcases hu with rfl | rfl | rfl | rfl | rfl | rfl | rfl | rfl
    · subst hr; exact high_0_5 b n hb1 hb2 w
    · subst hr; exact high_1_5 b n hb1 hb2 w
    · subst hr; exact high_2_5 b n hb1 hb2 w
    · subst hr; exact high_3_5 b n hb1 hb2 w
    · subst hr; exact high_4_5 b n hb1 hb2 w
    · subst hr; exact high_5_5 b n hb1 hb2 w
    · subst hr; exact high_6_5 b n hb1 hb2 w
    · subst hr; exact high_7_5 b n hb1 hb2 w
  · subst hr; exact high_y_6 y hy1 hy2 b n hb1 hb2 w
  · subst hr; exact high_y_7 y hy1 hy2 b n hb1 hb2 w
set_option maxRecDepth 100000 in
set_option maxHeartbeats 2000000 in
theorem rd_0 (a b c : Nat) (ha : a < 256) (hb : b < 256) (hc256 : c < 256) (hx : (a : Int) / 64 = 0) (r : OpV) (hr0 : decW (fqF ((a : Int) / 8 % 8) ((a : Int) % 8) (((a : Int) / 8 % 8) / 2) (((a : Int) / 8 % 8) % 2)) b ((c : Int) * 256 + b) = r) (w : World) : Calls Tryd.prog 12 #[.int .u8 a, .int .u8 b, .int .u8 c] w fun e w' => e = .returned (.agg #[.int .i64 (r).k, .int .i64 (r).x, .int .i64 (r).y, .int .i64 (r).s, .int .u16 (r).n]) ∧ Below w.heap.size w w' := by
  have hr := Lib.hid hr0
  clear hr0
  go_enter Tryd.func12, Tryd.ntmps12
  go_wp2_with (go_at_call 19; ((with_reducible refine (low_all _ _ _ _ (by omega) (by omega) (by omega) (by omega) (by omega) (by omega) r hr.out _).mono ?_); rintro e w1 ⟨rfl, hb⟩; obtain ⟨hc, hf⟩ := bcell hb; have HB := Lib.hid hb; clear hb))
  refine bodyPost_ret (v := _) ?_ rfl ⟨rfl, ?_⟩
  · simp [results, Tryd.results12, go_sem, hc]
  · clear hc hf
    have hbb := HB.out
    clear HB
    with_reducible exact set5 (via (own1 _ _) hbb) _ (Nat.le_refl _) _ _ _ _ _
set_option maxRecDepth 100000 in
set_option maxHeartbeats 2000000 in
theorem rd_3 (a b c : Nat) (ha : a < 256) (hb : b < 256) (hc256 : c < 256) (hx : (a : Int) / 64 = 3) (hne : ¬ (((a : Int) / 8 % 8) = 1 ∧ ((a : Int) % 8) = 3)) (r : OpV) (hr0 : decW (lqF ((a : Int) / 8 % 8) ((a : Int) % 8) (((a : Int) / 8 % 8) / 2) (((a : Int) / 8 % 8) % 2)) b ((c : Int) * 256 + b) = r) (w : World) : Calls Tryd.prog 12 #[.int .u8 a, .int .u8 b, .int .u8 c] w fun e w' => e = .returned (.agg #[.int .i64 (r).k, .int .i64 (r).x, .int .i64 (r).y, .int .i64 (r).s, .int .u16 (r).n]) ∧ Below w.heap.size w w' := by
  have hr := Lib.hid hr0
  clear hr0
  have HN := Lib.hid hne
  clear hne
  go_enter Tryd.func12, Tryd.ntmps12
  go_wp2_with (go_at_call 20; ((with_reducible refine (high_all _ _ _ _ (by omega) (by omega) (by omega) (by omega) (by omega) (by omega) HN.out r hr.out _).mono ?_); rintro e w1 ⟨rfl, hb⟩; obtain ⟨hc, hf⟩ := bcell hb; have HB := Lib.hid hb; clear hb))
  refine bodyPost_ret (v := _) ?_ rfl ⟨rfl, ?_⟩
  · simp [results, Tryd.results12, go_sem, hc]
  · clear hc hf
    have hbb := HB.out
    clear HB
    with_reducible exact set5 (via (own1 _ _) hbb) _ (Nat.le_refl _) _ _ _ _ _
set_option maxRecDepth 100000 in
set_option maxHeartbeats 2000000 in
theorem rd_cb (a b c : Nat) (ha : a < 256) (hb : b < 256) (hc256 : c < 256) (hx : (a : Int) / 64 = 3) (hy : ((a : Int) / 8 % 8) = 1) (hz : ((a : Int) % 8) = 3) (r : OpV) (hr0 : pfT b = r) (w : World) : Calls Tryd.prog 12 #[.int .u8 a, .int .u8 b, .int .u8 c] w fun e w' => e = .returned (.agg #[.int .i64 (r).k, .int .i64 (r).x, .int .i64 (r).y, .int .i64 (r).s, .int .u16 (r).n]) ∧ Below w.heap.size w w' := by
  have hr := Lib.hid hr0
  clear hr0
  go_enter Tryd.func12, Tryd.ntmps12
  go_wp2_with (go_at_call 20; ((with_reducible refine (high_1_3 b _ hb r hr.out _).mono ?_); rintro e w1 ⟨rfl, hb⟩; obtain ⟨hc, hf⟩ := bcell hb; have HB := Lib.hid hb; clear hb))
  refine bodyPost_ret (v := _) ?_ rfl ⟨rfl, ?_⟩
  · simp [results, Tryd.results12, go_sem, hc]
  · clear hc hf
    have hbb := HB.out
    clear HB
    with_reducible exact set5 (via (own1 _ _) hbb) _ (Nat.le_refl _) _ _ _ _ _
set_option maxRecDepth 100000 in
set_option maxHeartbeats 2000000 in
theorem rd_2 (a b c : Nat) (ha : a < 256) (hb : b < 256) (hc256 : c < 256) (hx : (a : Int) / 64 = 2) (w : World) : Calls Tryd.prog 12 #[.int .u8 a, .int .u8 b, .int .u8 c] w fun e w' => e = .returned (.agg #[.int .i64 10, .int .i64 ((a : Int) / 8 % 8), .int .i64 ((a : Int) % 8), .int .i64 1, .int .u16 0]) ∧ Below w.heap.size w w' := by
  go_enter Tryd.func12, Tryd.ntmps12
  go_wp2
  refine bodyPost_ret (v := _) ?_ rfl ⟨rfl, ?_⟩
  · simp [results, Tryd.results12, go_sem]
  · with_reducible exact own1 _ _
set_option maxRecDepth 100000 in
set_option maxHeartbeats 2000000 in
theorem rd_1h (a b c : Nat) (ha : a < 256) (hb : b < 256) (hc256 : c < 256) (hx : (a : Int) / 64 = 1) (hy : ((a : Int) / 8 % 8) = 6) (hz : ((a : Int) % 8) = 6) (w : World) : Calls Tryd.prog 12 #[.int .u8 a, .int .u8 b, .int .u8 c] w fun e w' => e = .returned (.agg #[.int .i64 3, .int .i64 0, .int .i64 0, .int .i64 1, .int .u16 0]) ∧ Below w.heap.size w w' := by
  go_enter Tryd.func12, Tryd.ntmps12
  go_wp2
  refine bodyPost_ret (v := _) ?_ rfl ⟨rfl, ?_⟩
  · simp [results, Tryd.results12, go_sem]
  · with_reducible exact own1 _ _
set_option maxRecDepth 100000 in
set_option maxHeartbeats 2000000 in
theorem rd_1y (a b c : Nat) (ha : a < 256) (hb : b < 256) (hc256 : c < 256) (hx : (a : Int) / 64 = 1) (hy : (((a : Int) / 8 % 8) == 6) = false) (w : World) : Calls Tryd.prog 12 #[.int .u8 a, .int .u8 b, .int .u8 c] w fun e w' => e = .returned (.agg #[.int .i64 7, .int .i64 ((a : Int) / 8 % 8), .int .i64 ((a : Int) % 8), .int .i64 1, .int .u16 0]) ∧ Below w.heap.size w w' := by
  go_enter Tryd.func12, Tryd.ntmps12
  go_wp2
  refine bodyPost_ret (v := _) ?_ rfl ⟨rfl, ?_⟩
  · simp [results, Tryd.results12, go_sem]
  · with_reducible exact own1 _ _
set_option maxRecDepth 100000 in
set_option maxHeartbeats 2000000 in
theorem rd_1z (a b c : Nat) (ha : a < 256) (hb : b < 256) (hc256 : c < 256) (hx : (a : Int) / 64 = 1) (hy : (((a : Int) / 8 % 8) == 6) = true) (hz : (((a : Int) % 8) == 6) = false) (w : World) : Calls Tryd.prog 12 #[.int .u8 a, .int .u8 b, .int .u8 c] w fun e w' => e = .returned (.agg #[.int .i64 7, .int .i64 ((a : Int) / 8 % 8), .int .i64 ((a : Int) % 8), .int .i64 1, .int .u16 0]) ∧ Below w.heap.size w w' := by
  go_enter Tryd.func12, Tryd.ntmps12
  go_wp2
  refine bodyPost_ret (v := _) ?_ rfl ⟨rfl, ?_⟩
  · simp [results, Tryd.results12, go_sem]
  · with_reducible exact own1 _ _
theorem rdec_c (a b c : Nat) (ha : a < 256) (hb : b < 256) (hc : c < 256) (r : OpV) (hr : decF a b c = r) (w : World) : Calls Tryd.prog 12 #[.int .u8 a, .int .u8 b, .int .u8 c] w fun e w' => e = .returned (.agg #[.int .i64 (r).k, .int .i64 (r).x, .int .i64 (r).y, .int .i64 (r).s, .int .u16 (r).n]) ∧ Below w.heap.size w w' := by
  subst hr
  by_cases h : a = 203
  · subst h
    exact rd_cb 203 b c ha hb hc rfl rfl rfl _ rfl w
  · have e1 : decF a b c = decW (plT a) b ((c : Int) * 256 + b) := if_neg h
    rw [e1]
    have hv : (a : Int) / 64 = 0 ∨ (a : Int) / 64 = 1 ∨ (a : Int) / 64 = 2 ∨ (a : Int) / 64 = 3 := by omega
    rcases hv with hx | hx | hx | hx
    · have e2 : plT a = fqF ((a : Int) / 8 % 8) ((a : Int) % 8) ((a : Int) / 8 % 8 / 2) ((a : Int) / 8 % 8 % 2) := by unfold plT plF; rw [if_pos hx]
      rw [e2]
      exact rd_0 a b c ha hb hc hx _ rfl w
    · by_cases hy : (a : Int) / 8 % 8 = 6
      · by_cases hz : (a : Int) % 8 = 6
        · have e2 : plT a = ⟨3, 0, 0, 1, 0⟩ := by unfold plT plF; rw [hx, hy, hz]; rfl
          rw [e2]
          exact rd_1h a b c ha hb hc hx hy hz w
        · have e2 : plT a = ⟨7, (a : Int) / 8 % 8, (a : Int) % 8, 1, 0⟩ := by unfold plT plF; rw [hx]; simp [hy, hz]
          rw [e2]
          exact rd_1z a b c ha hb hc hx (by simpa using hy) (by simpa using hz) w
      · have e2 : plT a = ⟨7, (a : Int) / 8 % 8, (a : Int) % 8, 1, 0⟩ := by unfold plT plF; rw [hx]; simp [hy]
        rw [e2]
        exact rd_1y a b c ha hb hc hx (by simpa using hy) w
    · have e2 : plT a = ⟨10, (a : Int) / 8 % 8, (a : Int) % 8, 1, 0⟩ := by unfold plT plF; rw [hx]; rfl
      rw [e2]
      exact rd_2 a b c ha hb hc hx w
    · have e2 : plT a = lqF ((a : Int) / 8 % 8) ((a : Int) % 8) ((a : Int) / 8 % 8 / 2) ((a : Int) / 8 % 8 % 2) := by unfold plT plF; rw [hx]; rfl
      rw [e2]
      exact rd_3 a b c ha hb hc hx (by omega) _ rfl w
end Go.Proofs.YtaggebfcfebomaaDoor
