/-
  What the document's Decode returns: for every world and all bytes; no other condition.
  (Some texts in one.)
-/
import Derived.Test.YtngdogldgcgnjaaGreatZ29
import Derived.Test.YtngdogldgcgnjaaGreatZ30
import Derived.Test.YtngdogldgcgnjaaGreatZ11
import Derived.Test.YtngdogldgcgnjaaGreatZ26
import Derived.Test.YtngdogldgcgnjaaGreatZ28
import Derived.Deep.Cut
set_option maxRecDepth 100000
set_option maxHeartbeats 8000000
namespace Go.Proofs.YtngdogldgcgnjaaGreat
open Go.ChangeShapes Go.WideShapes Go.ChangeAt Go.RowKit
set_option linter.unusedVariables false
theorem high_1_3 (b : Nat) (n : Int) (hb : b < 256) (r : OpV) (hr0 : pfT b = r) (w : World) : Calls Tryz.prog 32 #[.int .i64 1, .int .i64 3, .int .u8 b, .int .u16 n] w fun e w' => e = .returned (.agg #[.int .i64 (r).k, .int .i64 (r).x, .int .i64 (r).y, .int .i64 (r).s, .int .u16 (r).n]) ∧ Below w.heap.size w w' := by
 have hr := Lib.hid hr0; clear hr0; go_enter Tryz.func32, Tryz.ntmps32
 go_wp2_with (go_at_call 57; ((with_reducible refine (behind_h b hb r hr.out _).mono ?_); rintro e w1 ⟨rfl, hb⟩; obtain ⟨hc, hf⟩ := bcell hb; have HB := Lib.hid hb; clear hb))
 refine bodyPost_ret (v := _) ?_ rfl ⟨rfl, ?_⟩
 ·simp [results, Tryz.results32, go_sem, hc]
 ·clear hc hf
  have hbb := HB.out; clear HB
  with_reducible exact set5 (via (own1 _ _) hbb) _ (Nat.le_refl _) _ _ _ _ _
theorem low_all (y z b n : Int) (hy1 : 0 ≤ y) (hy2 : y < 8) (hz1 : 0 ≤ z) (hz2 : z < 8) (hb1 : 0 ≤ b) (hb2 : b < 256) (r : OpV) (hr : decW (fqF y z (y / 2) (y % 2)) b n = r) (w : World) : Calls Tryz.prog 31 #[.int .i64 y, .int .i64 z, .int .u8 b, .int .u16 n] w fun e w' => e = .returned (.agg #[.int .i64 (r).k, .int .i64 (r).x, .int .i64 (r).y, .int .i64 (r).s, .int .u16 (r).n]) ∧ Below w.heap.size w w' := by
 have hv : z = 0 ∨ z = 1 ∨ z = 2 ∨ z = 3 ∨ z = 4 ∨ z = 5 ∨ z = 6 ∨ z = 7 := by omega
 have hu : y = 0 ∨ y = 1 ∨ y = 2 ∨ y = 3 ∨ y = 4 ∨ y = 5 ∨ y = 6 ∨ y = 7 := by omega
 rcases hv with rfl | rfl | rfl | rfl | rfl | rfl | rfl | rfl
 ·rcases hu with rfl | rfl | rfl | rfl | rfl | rfl | rfl | rfl
  ·subst hr; exact low_0_0 b n hb1 hb2 w
  ·subst hr; exact low_1_0 b n hb1 hb2 w
  ·subst hr; exact low_2_0 b n hb1 hb2 w
  ·subst hr; exact low_3_0 b n hb1 hb2 w
  ·subst hr; exact low_4_0 b n hb1 hb2 w
  ·subst hr; exact low_5_0 b n hb1 hb2 w
  ·subst hr; exact low_6_0 b n hb1 hb2 w
  ·subst hr; exact low_7_0 b n hb1 hb2 w
 ·rcases hu with rfl | rfl | rfl | rfl | rfl | rfl | rfl | rfl
  ·subst hr; exact low_0_1 b n hb1 hb2 w
  ·subst hr; exact low_1_1 b n hb1 hb2 w
  ·subst hr; exact low_2_1 b n hb1 hb2 w
  ·subst hr; exact low_3_1 b n hb1 hb2 w
  ·subst hr; exact low_4_1 b n hb1 hb2 w
  ·subst hr; exact low_5_1 b n hb1 hb2 w
  ·subst hr; exact low_6_1 b n hb1 hb2 w
  ·subst hr; exact low_7_1 b n hb1 hb2 w
 ·rcases hu with rfl | rfl | rfl | rfl | rfl | rfl | rfl | rfl
  ·subst hr; exact low_0_2 b n hb1 hb2 w
  ·subst hr; exact low_1_2 b n hb1 hb2 w
  ·subst hr; exact low_2_2 b n hb1 hb2 w
  ·subst hr; exact low_3_2 b n hb1 hb2 w
  ·subst hr; exact low_4_2 b n hb1 hb2 w
  ·subst hr; exact low_5_2 b n hb1 hb2 w
  ·subst hr; exact low_6_2 b n hb1 hb2 w
  ·subst hr; exact low_7_2 b n hb1 hb2 w
 ·rcases hu with rfl | rfl | rfl | rfl | rfl | rfl | rfl | rfl
  ·subst hr; exact low_0_3 b n hb1 hb2 w
  ·subst hr; exact low_1_3 b n hb1 hb2 w
  ·subst hr; exact low_2_3 b n hb1 hb2 w
  ·subst hr; exact low_3_3 b n hb1 hb2 w
  ·subst hr; exact low_4_3 b n hb1 hb2 w
  ·subst hr; exact low_5_3 b n hb1 hb2 w
  ·subst hr; exact low_6_3 b n hb1 hb2 w
  ·subst hr; exact low_7_3 b n hb1 hb2 w
 ·subst hr; exact low_y_4 y hy1 hy2 b n hb1 hb2 w
 ·subst hr; exact low_y_5 y hy1 hy2 b n hb1 hb2 w
 ·subst hr; exact low_y_6 y hy1 hy2 b n hb1 hb2 w
 ·rcases hu with rfl | rfl | rfl | rfl | rfl | rfl | rfl | rfl
  ·subst hr; exact low_0_7 b n hb1 hb2 w
  ·subst hr; exact low_1_7 b n hb1 hb2 w
  ·subst hr; exact low_2_7 b n hb1 hb2 w
  ·subst hr; exact low_3_7 b n hb1 hb2 w
  ·subst hr; exact low_4_7 b n hb1 hb2 w
  ·subst hr; exact low_5_7 b n hb1 hb2 w
  ·subst hr; exact low_6_7 b n hb1 hb2 w
  ·subst hr; exact low_7_7 b n hb1 hb2 w
theorem high_all (y z b n : Int) (hy1 : 0 ≤ y) (hy2 : y < 8) (hz1 : 0 ≤ z) (hz2 : z < 8) (hb1 : 0 ≤ b) (hb2 : b < 256) (hyz : ¬ (y = 1 ∧ z = 3)) (r : OpV) (hr : decW (lqF y z (y / 2) (y % 2)) b n = r) (w : World) : Calls Tryz.prog 32 #[.int .i64 y, .int .i64 z, .int .u8 b, .int .u16 n] w fun e w' => e = .returned (.agg #[.int .i64 (r).k, .int .i64 (r).x, .int .i64 (r).y, .int .i64 (r).s, .int .u16 (r).n]) ∧ Below w.heap.size w w' := by
 have hv : z = 0 ∨ z = 1 ∨ z = 2 ∨ z = 3 ∨ z = 4 ∨ z = 5 ∨ z = 6 ∨ z = 7 := by omega
 have hu : y = 0 ∨ y = 1 ∨ y = 2 ∨ y = 3 ∨ y = 4 ∨ y = 5 ∨ y = 6 ∨ y = 7 := by omega
 rcases hv with rfl | rfl | rfl | rfl | rfl | rfl | rfl | rfl
 ·rcases hu with rfl | rfl | rfl | rfl | rfl | rfl | rfl | rfl
  ·subst hr; exact high_0_0 b n hb1 hb2 w
  ·subst hr; exact high_1_0 b n hb1 hb2 w
  ·subst hr; exact high_2_0 b n hb1 hb2 w
  ·subst hr; exact high_3_0 b n hb1 hb2 w
  ·subst hr; exact high_4_0 b n hb1 hb2 w
  ·subst hr; exact high_5_0 b n hb1 hb2 w
  ·subst hr; exact high_6_0 b n hb1 hb2 w
  ·subst hr; exact high_7_0 b n hb1 hb2 w
 ·rcases hu with rfl | rfl | rfl | rfl | rfl | rfl | rfl | rfl
  ·subst hr; exact high_0_1 b n hb1 hb2 w
  ·subst hr; exact high_1_1 b n hb1 hb2 w
  ·subst hr; exact high_2_1 b n hb1 hb2 w
  ·subst hr; exact high_3_1 b n hb1 hb2 w
  ·subst hr; exact high_4_1 b n hb1 hb2 w
  ·subst hr; exact high_5_1 b n hb1 hb2 w
  ·subst hr; exact high_6_1 b n hb1 hb2 w
  ·subst hr; exact high_7_1 b n hb1 hb2 w
 ·rcases hu with rfl | rfl | rfl | rfl | rfl | rfl | rfl | rfl
  ·subst hr; exact high_0_2 b n hb1 hb2 w
  ·subst hr; exact high_1_2 b n hb1 hb2 w
  ·subst hr; exact high_2_2 b n hb1 hb2 w
  ·subst hr; exact high_3_2 b n hb1 hb2 w
  ·subst hr; exact high_4_2 b n hb1 hb2 w
  ·subst hr; exact high_5_2 b n hb1 hb2 w
  ·subst hr; exact high_6_2 b n hb1 hb2 w
  ·subst hr; exact high_7_2 b n hb1 hb2 w
 ·rcases hu with rfl | rfl | rfl | rfl | rfl | rfl | rfl | rfl
  ·subst hr; exact high_0_3 b n hb1 hb2 w
  ·exact absurd ⟨rfl, rfl⟩ hyz
  ·subst hr; exact high_2_3 b n hb1 hb2 w
  ·subst hr; exact high_3_3 b n hb1 hb2 w
  ·subst hr; exact high_4_3 b n hb1 hb2 w
  ·subst hr; exact high_5_3 b n hb1 hb2 w
  ·subst hr; exact high_6_3 b n hb1 hb2 w
  ·subst hr; exact high_7_3 b n hb1 hb2 w
 ·rcases hu with rfl | rfl | rfl | rfl | rfl | rfl | rfl | rfl
  ·subst hr; exact high_0_4 b n hb1 hb2 w
  ·subst hr; exact high_1_4 b n hb1 hb2 w
  ·subst hr; exact high_2_4 b n hb1 hb2 w
  ·subst hr; exact high_3_4 b n hb1 hb2 w
  ·subst hr; exact high_4_4 b n hb1 hb2 w
  ·subst hr; exact high_5_4 b n hb1 hb2 w
  ·subst hr; exact high_6_4 b n hb1 hb2 w
  ·subst hr; exact high_7_4 b n hb1 hb2 w
 ·rcases hu with rfl | rfl | rfl | rfl | rfl | rfl | rfl | rfl
  ·subst hr; exact high_0_5 b n hb1 hb2 w
  ·subst hr; exact high_1_5 b n hb1 hb2 w
  ·subst hr; exact high_2_5 b n hb1 hb2 w
  ·subst hr; exact high_3_5 b n hb1 hb2 w
  ·subst hr; exact high_4_5 b n hb1 hb2 w
  ·subst hr; exact high_5_5 b n hb1 hb2 w
  ·subst hr; exact high_6_5 b n hb1 hb2 w
  ·subst hr; exact high_7_5 b n hb1 hb2 w
 ·subst hr; exact high_y_6 y hy1 hy2 b n hb1 hb2 w
 ·subst hr; exact high_y_7 y hy1 hy2 b n hb1 hb2 w
theorem rd_0 (a b c : Nat) (ha : a < 256) (hb : b < 256) (hc256 : c < 256) (hx : (a : Int) / 64 = 0) (r : OpV) (hr0 : decW (fqF ((a : Int) / 8 % 8) ((a : Int) % 8) (((a : Int) / 8 % 8) / 2) (((a : Int) / 8 % 8) % 2)) b ((c : Int) * 256 + b) = r) (w : World) : Calls Tryz.prog 25 #[.int .u8 a, .int .u8 b, .int .u8 c] w fun e w' => e = .returned (.agg #[.int .i64 (r).k, .int .i64 (r).x, .int .i64 (r).y, .int .i64 (r).s, .int .u16 (r).n]) ∧ Below w.heap.size w w' := by
 have hr := Lib.hid hr0; clear hr0; go_enter Tryz.func25, Tryz.ntmps25
 go_wp2_with (go_at_call 31; ((with_reducible refine (low_all _ _ _ _ (by omega) (by omega) (by omega) (by omega) (by omega) (by omega) r hr.out _).mono ?_); rintro e w1 ⟨rfl, hb⟩; obtain ⟨hc, hf⟩ := bcell hb; have HB := Lib.hid hb; clear hb))
 refine bodyPost_ret (v := _) ?_ rfl ⟨rfl, ?_⟩
 ·simp [results, Tryz.results25, go_sem, hc]
 ·clear hc hf
  have hbb := HB.out; clear HB
  with_reducible exact set5 (via (own1 _ _) hbb) _ (Nat.le_refl _) _ _ _ _ _
theorem rd_3 (a b c : Nat) (ha : a < 256) (hb : b < 256) (hc256 : c < 256) (hx : (a : Int) / 64 = 3) (hne : ¬ (((a : Int) / 8 % 8) = 1 ∧ ((a : Int) % 8) = 3)) (r : OpV) (hr0 : decW (lqF ((a : Int) / 8 % 8) ((a : Int) % 8) (((a : Int) / 8 % 8) / 2) (((a : Int) / 8 % 8) % 2)) b ((c : Int) * 256 + b) = r) (w : World) : Calls Tryz.prog 25 #[.int .u8 a, .int .u8 b, .int .u8 c] w fun e w' => e = .returned (.agg #[.int .i64 (r).k, .int .i64 (r).x, .int .i64 (r).y, .int .i64 (r).s, .int .u16 (r).n]) ∧ Below w.heap.size w w' := by
 have hr := Lib.hid hr0; clear hr0; have HN := Lib.hid hne; clear hne; go_enter Tryz.func25, Tryz.ntmps25
 go_wp2_with (go_at_call 32; ((with_reducible refine (high_all _ _ _ _ (by omega) (by omega) (by omega) (by omega) (by omega) (by omega) HN.out r hr.out _).mono ?_); rintro e w1 ⟨rfl, hb⟩; obtain ⟨hc, hf⟩ := bcell hb; have HB := Lib.hid hb; clear hb))
 refine bodyPost_ret (v := _) ?_ rfl ⟨rfl, ?_⟩
 ·simp [results, Tryz.results25, go_sem, hc]
 ·clear hc hf
  have hbb := HB.out; clear HB
  with_reducible exact set5 (via (own1 _ _) hbb) _ (Nat.le_refl _) _ _ _ _ _
theorem rd_cb (a b c : Nat) (ha : a < 256) (hb : b < 256) (hc256 : c < 256) (hx : (a : Int) / 64 = 3) (hy : ((a : Int) / 8 % 8) = 1) (hz : ((a : Int) % 8) = 3) (r : OpV) (hr0 : pfT b = r) (w : World) : Calls Tryz.prog 25 #[.int .u8 a, .int .u8 b, .int .u8 c] w fun e w' => e = .returned (.agg #[.int .i64 (r).k, .int .i64 (r).x, .int .i64 (r).y, .int .i64 (r).s, .int .u16 (r).n]) ∧ Below w.heap.size w w' := by
 have hr := Lib.hid hr0; clear hr0; go_enter Tryz.func25, Tryz.ntmps25
 go_wp2_with (go_at_call 32; ((with_reducible refine (high_1_3 b _ hb r hr.out _).mono ?_); rintro e w1 ⟨rfl, hb⟩; obtain ⟨hc, hf⟩ := bcell hb; have HB := Lib.hid hb; clear hb))
 refine bodyPost_ret (v := _) ?_ rfl ⟨rfl, ?_⟩
 ·simp [results, Tryz.results25, go_sem, hc]
 ·clear hc hf
  have hbb := HB.out; clear HB
  with_reducible exact set5 (via (own1 _ _) hbb) _ (Nat.le_refl _) _ _ _ _ _
theorem rd_2 (a b c : Nat) (ha : a < 256) (hb : b < 256) (hc256 : c < 256) (hx : (a : Int) / 64 = 2) (w : World) : Calls Tryz.prog 25 #[.int .u8 a, .int .u8 b, .int .u8 c] w fun e w' => e = .returned (.agg #[.int .i64 10, .int .i64 ((a : Int) / 8 % 8), .int .i64 ((a : Int) % 8), .int .i64 1, .int .u16 0]) ∧ Below w.heap.size w w' := by
 go_enter Tryz.func25, Tryz.ntmps25; go_wp2
 refine bodyPost_ret (v := _) ?_ rfl ⟨rfl, ?_⟩
 ·simp [results, Tryz.results25, go_sem]
 ·with_reducible exact own1 _ _
theorem rd_1h (a b c : Nat) (ha : a < 256) (hb : b < 256) (hc256 : c < 256) (hx : (a : Int) / 64 = 1) (hy : ((a : Int) / 8 % 8) = 6) (hz : ((a : Int) % 8) = 6) (w : World) : Calls Tryz.prog 25 #[.int .u8 a, .int .u8 b, .int .u8 c] w fun e w' => e = .returned (.agg #[.int .i64 3, .int .i64 0, .int .i64 0, .int .i64 1, .int .u16 0]) ∧ Below w.heap.size w w' := by
 go_enter Tryz.func25, Tryz.ntmps25; go_wp2
 refine bodyPost_ret (v := _) ?_ rfl ⟨rfl, ?_⟩
 ·simp [results, Tryz.results25, go_sem]
 ·with_reducible exact own1 _ _
theorem rd_1y (a b c : Nat) (ha : a < 256) (hb : b < 256) (hc256 : c < 256) (hx : (a : Int) / 64 = 1) (hy : (((a : Int) / 8 % 8) == 6) = false) (w : World) : Calls Tryz.prog 25 #[.int .u8 a, .int .u8 b, .int .u8 c] w fun e w' => e = .returned (.agg #[.int .i64 7, .int .i64 ((a : Int) / 8 % 8), .int .i64 ((a : Int) % 8), .int .i64 1, .int .u16 0]) ∧ Below w.heap.size w w' := by
 go_enter Tryz.func25, Tryz.ntmps25; go_wp2
 refine bodyPost_ret (v := _) ?_ rfl ⟨rfl, ?_⟩
 ·simp [results, Tryz.results25, go_sem]
 ·with_reducible exact own1 _ _
theorem rd_1z (a b c : Nat) (ha : a < 256) (hb : b < 256) (hc256 : c < 256) (hx : (a : Int) / 64 = 1) (hy : (((a : Int) / 8 % 8) == 6) = true) (hz : (((a : Int) % 8) == 6) = false) (w : World) : Calls Tryz.prog 25 #[.int .u8 a, .int .u8 b, .int .u8 c] w fun e w' => e = .returned (.agg #[.int .i64 7, .int .i64 ((a : Int) / 8 % 8), .int .i64 ((a : Int) % 8), .int .i64 1, .int .u16 0]) ∧ Below w.heap.size w w' := by
 go_enter Tryz.func25, Tryz.ntmps25; go_wp2
 refine bodyPost_ret (v := _) ?_ rfl ⟨rfl, ?_⟩
 ·simp [results, Tryz.results25, go_sem]
 ·with_reducible exact own1 _ _
theorem rdec_c (a b c : Nat) (ha : a < 256) (hb : b < 256) (hc : c < 256) (r : OpV) (hr : decF a b c = r) (w : World) : Calls Tryz.prog 25 #[.int .u8 a, .int .u8 b, .int .u8 c] w fun e w' => e = .returned (.agg #[.int .i64 (r).k, .int .i64 (r).x, .int .i64 (r).y, .int .i64 (r).s, .int .u16 (r).n]) ∧ Below w.heap.size w w' := by
 subst hr
 by_cases h : a = 203
 ·subst h
  exact rd_cb 203 b c ha hb hc rfl rfl rfl _ rfl w
 ·have e1 : decF a b c = decW (plT a) b ((c : Int) * 256 + b) := if_neg h
  rw [e1]
  have hv : (a : Int) / 64 = 0 ∨ (a : Int) / 64 = 1 ∨ (a : Int) / 64 = 2 ∨ (a : Int) / 64 = 3 := by omega
  rcases hv with hx | hx | hx | hx
  ·have e2 : plT a = fqF ((a : Int) / 8 % 8) ((a : Int) % 8) ((a : Int) / 8 % 8 / 2) ((a : Int) / 8 % 8 % 2) := by unfold plT plF; rw [if_pos hx]
   rw [e2]
   exact rd_0 a b c ha hb hc hx _ rfl w
  ·by_cases hy : (a : Int) / 8 % 8 = 6
   ·by_cases hz : (a : Int) % 8 = 6
    ·have e2 : plT a = ⟨3, 0, 0, 1, 0⟩ := by unfold plT plF; rw [hx, hy, hz]; rfl
     rw [e2]
     exact rd_1h a b c ha hb hc hx hy hz w
    ·have e2 : plT a = ⟨7, (a : Int) / 8 % 8, (a : Int) % 8, 1, 0⟩ := by unfold plT plF; rw [hx]; simp [hy, hz]
     rw [e2]
     exact rd_1z a b c ha hb hc hx (by simpa using hy) (by simpa using hz) w
   ·have e2 : plT a = ⟨7, (a : Int) / 8 % 8, (a : Int) % 8, 1, 0⟩ := by unfold plT plF; rw [hx]; simp [hy]
    rw [e2]
    exact rd_1y a b c ha hb hc hx (by simpa using hy) w
  ·have e2 : plT a = ⟨10, (a : Int) / 8 % 8, (a : Int) % 8, 1, 0⟩ := by unfold plT plF; rw [hx]; rfl
   rw [e2]
   exact rd_2 a b c ha hb hc hx w
  ·have e2 : plT a = lqF ((a : Int) / 8 % 8) ((a : Int) % 8) ((a : Int) / 8 % 8 / 2) ((a : Int) / 8 % 8 % 2) := by unfold plT plF; rw [hx]; rfl
   rw [e2]
   exact rd_3 a b c ha hb hc hx (by omega) _ rfl w
end Go.Proofs.YtngdogldgcgnjaaGreat
namespace Go.Proofs.YtngdogldgcgnjaaGreat
open Go.ChangeShapes Go.WideShapes Go.ChangeAt Go.RowKit
open Reg
set_option linter.unusedVariables false
section
variable {w : World} {P R M tb n : Nat} {v : Value} {y : Sy}
def memC (M : Nat) (q : Int) (v : Value) : Array Value := #[.slice (some ⟨M, 0, none⟩) 65536 65536, .slice none 0 0, .int .u8 0, .int .i64 q, .bool false, v]
def noD (R : Nat) : Array Value := #[]
theorem memC_set (M : Nat) (q : Int) (x x' : Value) : (memC M q x).setIfInBounds 5 x' = memC M q x' := rfl
theorem memC_size (M : Nat) (q : Int) (x : Value) : 5 < (memC M q x).size := by show 5 < 6; decide
theorem Sys.cm (h : Sys noD memC w P R M tb v y n) : (∀ o, w.cell? ⟨P, o, none⟩ = #[.int .u8 y.s.r.a, .int .u8 y.s.r.f, .int .u8 y.s.r.b, .int .u8 y.s.r.c, .int .u8 y.s.r.d, .int .u8 y.s.r.e, .int .u8 y.s.r.h, .int .u8 y.s.r.l, .int .u16 y.s.r.sp, .int .u16 y.s.r.pc, .bool y.s.ime, .bool y.s.soon, .bool y.s.halt, .bool y.s.stop][o]?) ∧ (∀ o, w.frozen? ⟨P, o, none⟩ = false) := ⟨h.reg.2.1, h.reg.2.2⟩
theorem do_i {m : Int → Int} {acc : List Ac} (h : Bus memC w R M tb v m acc n) (hn : n < 1000000) :
  Calls Tryz.prog 23 #[.pointer (some ⟨R, 0, none⟩), .int .i64 0, .int .u16 0, .int .u8 0] w (BE memC R M tb v w (.int .u8 (0)) (m) (acc ++ [⟨0, 0, 0⟩]) (n + 1)) := by
 obtain ⟨q, hR⟩ := h.ram; have hc0 : w.cell? ⟨R, 0, none⟩ = some (.slice (some ⟨M, 0, none⟩) 65536 65536) := hR.2.1 0; have hc5 : w.cell? ⟨R, 5, none⟩ = some v := hR.2.1 5; obtain ⟨g, cap, w2, hrun, ho, hg, hat⟩ := app_new h.own ⟨0, 0, 0⟩ (Nat.lt_of_le_of_lt h.len hn)
 have hR2 := (hR.alloc (.cells #[.int .i64 0, .int .u16 0, .int .u8 0] 59)).grown hg (fun e => (h.vr R e).1 rfl)
 have hc25 : w2.cell? ⟨R, 5, none⟩ = some v := hR2.2.1 5; have hf2 := hR2.2.2 5; have HB := Lib.hid (h.app 5 (memC_set M) (memC_size M) ⟨0, 0, 0⟩ (own1 w _) hg ho hat); have HRUN := Lib.hid hrun; clear hR hR2 ho hg hat hrun; clear h; go_enter Tryz.func23, Tryz.ntmps23
 go_wp2_with (at_builtin; refine wpList_append_run rfl _ _ 33 _ _ _ rfl rfl rfl HRUN.out ?_)
 go_ret
 exact ⟨rfl, _, HB.out.1, HB.out.2⟩
theorem do_r {m : Int → Int} {acc : List Ac} (h : Bus memC w R M tb v m acc n) (hn : n < 1000000) (a : Int) (a0 : 0 ≤ a) (a1 : a < 65536) :
  Calls Tryz.prog 23 #[.pointer (some ⟨R, 0, none⟩), .int .i64 1, .int .u16 a, .int .u8 0] w (BE memC R M tb v w (.int .u8 (m a)) (m) (acc ++ [⟨1, a, m a⟩]) (n + 1)) := by
 obtain ⟨k, rfl⟩ := Int.eq_ofNat_of_zero_le a0
 have hk : k < 65536 := by omega
 obtain ⟨q, hR⟩ := h.ram; have hc0 : w.cell? ⟨R, 0, none⟩ = some (.slice (some ⟨M, 0, none⟩) 65536 65536) := hR.2.1 0; have hc5 : w.cell? ⟨R, 5, none⟩ = some v := hR.2.1 5; have hmk := h.mem k hk; obtain ⟨g, cap, w2, hrun, ho, hg, hat⟩ := app_new h.own ⟨1, k, (m k)⟩ (Nat.lt_of_le_of_lt h.len hn)
 have hR2 := (hR.alloc (.cells #[.int .i64 1, .int .u16 k, .int .u8 (m k)] 59)).grown hg (fun e => (h.vr R e).1 rfl)
 have hc25 : w2.cell? ⟨R, 5, none⟩ = some v := hR2.2.1 5; have hf2 := hR2.2.2 5; have HB := Lib.hid (h.app 5 (memC_set M) (memC_size M) ⟨1, k, (m k)⟩ (own1 w _) hg ho hat); have HRUN := Lib.hid hrun; clear hR hR2 ho hg hat hrun; clear h; go_enter Tryz.func23, Tryz.ntmps23
 go_wp2_with (at_builtin; refine wpList_append_run rfl _ _ 33 _ _ _ rfl rfl rfl HRUN.out ?_)
 go_ret
 exact ⟨rfl, _, HB.out.1, HB.out.2⟩
theorem do_f {m : Int → Int} {acc : List Ac} (h : Bus memC w R M tb v m acc n) (hn : n < 1000000) (a : Int) (a0 : 0 ≤ a) (a1 : a < 65536) :
  Calls Tryz.prog 23 #[.pointer (some ⟨R, 0, none⟩), .int .i64 3, .int .u16 a, .int .u8 0] w (BE memC R M tb v w (.int .u8 (m a)) (m) (acc ++ [⟨3, a, m a⟩]) (n + 1)) := by
 obtain ⟨k, rfl⟩ := Int.eq_ofNat_of_zero_le a0
 have hk : k < 65536 := by omega
 obtain ⟨q, hR⟩ := h.ram; have hc0 : w.cell? ⟨R, 0, none⟩ = some (.slice (some ⟨M, 0, none⟩) 65536 65536) := hR.2.1 0; have hc5 : w.cell? ⟨R, 5, none⟩ = some v := hR.2.1 5; have hmk := h.mem k hk; obtain ⟨g, cap, w2, hrun, ho, hg, hat⟩ := app_new h.own ⟨3, k, (m k)⟩ (Nat.lt_of_le_of_lt h.len hn)
 have hR2 := (hR.alloc (.cells #[.int .i64 3, .int .u16 k, .int .u8 (m k)] 59)).grown hg (fun e => (h.vr R e).1 rfl)
 have hc25 : w2.cell? ⟨R, 5, none⟩ = some v := hR2.2.1 5; have hf2 := hR2.2.2 5; have HB := Lib.hid (h.app 5 (memC_set M) (memC_size M) ⟨3, k, (m k)⟩ (own1 w _) hg ho hat); have HRUN := Lib.hid hrun; clear hR hR2 ho hg hat hrun; clear h; go_enter Tryz.func23, Tryz.ntmps23
 go_wp2_with (at_builtin; refine wpList_append_run rfl _ _ 33 _ _ _ rfl rfl rfl HRUN.out ?_)
 go_ret
 exact ⟨rfl, _, HB.out.1, HB.out.2⟩
theorem do_w {m : Int → Int} {acc : List Ac} (h : Bus memC w R M tb v m acc n) (hn : n < 1000000) (a : Int) (a0 : 0 ≤ a) (a1 : a < 65536) (x : Int) (x0 : 0 ≤ x) (x1 : x < 256) :
  Calls Tryz.prog 23 #[.pointer (some ⟨R, 0, none⟩), .int .i64 2, .int .u16 a, .int .u8 x] w (BE memC R M tb v w (.int .u8 (x)) (upd m a x) (acc ++ [⟨2, a, x⟩]) (n + 1)) := by
 obtain ⟨k, rfl⟩ := Int.eq_ofNat_of_zero_le a0
 have hk : k < 65536 := by omega
 have P1 := h.poke k hk x x0 x1; have hmk := h.mem k hk; have hfm := h.free k; have hrm : ¬ R = M := h.rm
 have hmr : ¬ M = R := fun e => h.rm e.symm
 obtain ⟨q0, hR0⟩ := h.ram; have hc00 : w.cell? ⟨R, 0, none⟩ = some (.slice (some ⟨M, 0, none⟩) 65536 65536) := hR0.2.1 0; clear hR0; obtain ⟨q, hR⟩ := P1.1.ram; have hc0 : (w.setCell ⟨M, k, none⟩ (.int .u8 x)).cell? ⟨R, 0, none⟩ = some (.slice (some ⟨M, 0, none⟩) 65536 65536) := hR.2.1 0; have hc5 : (w.setCell ⟨M, k, none⟩ (.int .u8 x)).cell? ⟨R, 5, none⟩ = some v := hR.2.1 5; obtain ⟨g, cap, w2, hrun, ho, hg, hat⟩ := app_new P1.1.own ⟨2, k, x⟩ (Nat.lt_of_le_of_lt P1.1.len hn)
 have hR2 := (hR.alloc (.cells #[.int .i64 2, .int .u16 k, .int .u8 x] 59)).grown hg (fun e => (P1.1.vr R e).1 rfl)
 have hc25 : w2.cell? ⟨R, 5, none⟩ = some v := hR2.2.1 5; have hf2 := hR2.2.2 5; have HB := Lib.hid (P1.1.app 5 (memC_set M) (memC_size M) ⟨2, k, x⟩ (own1 (w.setCell ⟨M, k, none⟩ (.int .u8 x)) _) hg ho hat); have HRUN := Lib.hid hrun; have HP := Lib.hid P1; clear hR hR2 ho hg hat hrun P1; clear h; go_enter Tryz.func23, Tryz.ntmps23; have HC0 := Lib.hid hc0; have HC5 := Lib.hid hc5; have HC25 := Lib.hid hc25; have HF2 := Lib.hid hf2; clear hc0 hc5 hc25 hf2; go_upto_region 4 with (fail); generalize (w.setCell ⟨M, k, none⟩ (.int .u8 x)) = w1 at HP HB HRUN HC0 HC5 ⊢; clear hc00 hmk hfm; have hc0 := HC0.out; have hc5 := HC5.out; have hc25 := HC25.out; have hf2 := HF2.out
 go_wp2_with (at_builtin; refine wpList_append_run rfl _ _ 33 _ _ _ rfl rfl rfl HRUN.out ?_)
 go_ret
 exact ⟨rfl, _, HB.out.1, HP.out.2.trans HB.out.2⟩
theorem doi_p (h : Sys noD memC w P R M tb v y n) (hn : n < 999999) : Calls Tryz.prog 23 #[.pointer (some ⟨R, 0, none⟩), .int .i64 0, .int .u16 0, .int .u8 0] w (PE noD memC P R M tb v w (.int .u8 0) (idle y) (n + 1)) :=
 (do_i h.bus (by omega)).mono fun e w' ⟨he, v', b, m⟩ => ⟨he, v', (h.setBus b m).1, (h.setBus b m).2⟩
theorem dor_p (h : Sys noD memC w P R M tb v y n) (hn : n < 999999) (a : Int) (a0 : 0 ≤ a) (a1 : a < 65536) : Calls Tryz.prog 23 #[.pointer (some ⟨R, 0, none⟩), .int .i64 1, .int .u16 a, .int .u8 0] w (PE noD memC P R M tb v w (.int .u8 (y.m a)) (rd 1 a y) (n + 1)) :=
 (do_r h.bus (by omega) a a0 a1).mono fun e w' ⟨he, v', b, m⟩ => ⟨he, v', (h.setBus b m).1, (h.setBus b m).2⟩
theorem dof_p (h : Sys noD memC w P R M tb v y n) (hn : n < 999999) (a : Int) (a0 : 0 ≤ a) (a1 : a < 65536) : Calls Tryz.prog 23 #[.pointer (some ⟨R, 0, none⟩), .int .i64 3, .int .u16 a, .int .u8 0] w (PE noD memC P R M tb v w (.int .u8 (y.m a)) (rd 3 a y) (n + 1)) :=
 (do_f h.bus (by omega) a a0 a1).mono fun e w' ⟨he, v', b, m⟩ => ⟨he, v', (h.setBus b m).1, (h.setBus b m).2⟩
theorem dow_p (h : Sys noD memC w P R M tb v y n) (hn : n < 999999) (a x : Int) (a0 : 0 ≤ a) (a1 : a < 65536) (x0 : 0 ≤ x) (x1 : x < 256) : Calls Tryz.prog 23 #[.pointer (some ⟨R, 0, none⟩), .int .i64 2, .int .u16 a, .int .u8 x] w (PE noD memC P R M tb v w (.int .u8 x) (wr a x y) (n + 1)) :=
 (do_w h.bus (by omega) a a0 a1 x x0 x1).mono fun e w' ⟨he, v', b, m⟩ => ⟨he, v', (h.setBus b m).1, (h.setBus b m).2⟩
theorem midle_p (h : Sys noD memC w P R M tb v y n) (hn : n < 999999) : Calls Tryz.prog 19 #[.pointer (some ⟨R, 0, none⟩)] w (PE noD memC P R M tb v w (.tuple #[]) (idle y) (n + 1)) := by
 have H := Lib.hid (doi_p h hn); clear h; go_enter Tryz.func19, Tryz.ntmps19; go_wp2_with fail
 with_reducible refine H.out.mono ?_
 rintro e w1 ⟨rfl, v1, s', m'⟩; have Q := Lib.hid s'; have Q2 := Lib.hid m'; clear s' m'; go_wp2
 go_end0
 exact ⟨rfl, v1, Q.out, Q2.out⟩
theorem word_r (k x : Int) (h0 : -65536 ≤ k) (h1 : k < 1000000) (hx : k % 65536 = x) (w : World) : Calls Tryz.prog 24 #[.int .i64 k] w fun e w' => e = .returned (.int .u16 x) ∧ w = w' := by
 have x0 : 0 ≤ x := by omega
 have x1 : x < 65536 := by omega
 obtain ⟨z, hz⟩ : ∃ q_, k + 65536 = q_ := ⟨_, rfl⟩
 have z0 : 0 ≤ z := by omega
 have hzx : z % 65536 = x := by omega
 clear hx; go_enter Tryz.func24, Tryz.ntmps24; go_wp2; go_ret
 exact ⟨rfl, rfl⟩
end
end Go.Proofs.YtngdogldgcgnjaaGreat
