/-
  What ops.firstQuarter and ops.lastQuarter return, digit by digit: for every world; digits as those of a byte.
  (Some texts in one.)
-/
import Derived.Test.YtngdogldgcgnjaaGreatZ02
set_option maxRecDepth 100000
set_option maxHeartbeats 8000000
namespace Go.Proofs.YtngdogldgcgnjaaGreat
open Go.ChangeShapes Go.WideShapes Go.ChangeAt Go.RowKit
theorem fq_0 (x y p q : Int) (r : OpV) (hr0 : relF y = r) (h1 : 0 ≤ y) (h2 : y < 8) (w : World) : Calls Tryz.prog 125 #[.agg #[.int .i64 x, .int .i64 y, .int .i64 0, .int .i64 p, .int .i64 q]] w fun e w' =>
  e = .returned (.agg #[.int .i64 (r).k, .int .i64 (r).x, .int .i64 (r).y, .int .i64 (r).s, .int .u16 (r).n]) ∧ Below w.heap.size w w' := by
  have hr := Lib.hid hr0; clear hr0; go_enter Tryz.func125, Tryz.ntmps125
  go_wp2_with (go_at_call 132; ((with_reducible refine (rel_c_h _ _ _ _ _ r hr.out h1 h2 _).mono ?_); rintro e w1 ⟨rfl, hb⟩; obtain ⟨hc, hf⟩ := bcell hb; have HB := Lib.hid hb; clear hb))
  refine bodyPost_ret (v := _) ?_ rfl ⟨rfl, ?_⟩
  ·simp [results, Tryz.results125, go_sem, hc]
  ·clear hc hf
   have hbb := HB.out; clear HB
   with_reducible first | exact set5 (via (own2 _ _ _) hbb) _ (Nat.le_add_right _ _) _ _ _ _ _ | exact set5 (via (own3 _ _ _ _) hbb) _ (Nat.le_add_right _ _) _ _ _ _ _
theorem fq_4 (x y p q : Int) (w : World) : Calls Tryz.prog 125 #[.agg #[.int .i64 x, .int .i64 y, .int .i64 4, .int .i64 p, .int .i64 q]] w fun e w' =>
  e = .returned (.agg #[.int .i64 12, .int .i64 y, .int .i64 0, .int .i64 1, .int .u16 0]) ∧ Below w.heap.size w w' := by
  go_enter Tryz.func125, Tryz.ntmps125
  go_wp2_with (go_at_call 83; ((first | (with_reducible refine (op_0 _ _ _).mono ?_) | ((with_reducible refine (op_1n _ _ _ _ _ _ ?_).mono ?_); (· simp)) | ((with_reducible refine (op_2n _ _ _ _ _ _ _ ?_).mono ?_); (· simp))); rintro e w1 ⟨rfl, hb⟩; obtain ⟨hc, hf⟩ := bcell hb; have HB := Lib.hid hb; clear hb))
  refine bodyPost_ret (v := _) ?_ rfl ⟨rfl, ?_⟩
  ·simp [results, Tryz.results125, go_sem, hc]
  ·clear hc hf
   have hbb := HB.out; clear HB
   with_reducible first | exact set5 (via (own2 _ _ _) hbb) _ (Nat.le_add_right _ _) _ _ _ _ _ | exact set5 (via (own3 _ _ _ _) hbb) _ (Nat.le_add_right _ _) _ _ _ _ _
theorem fq_5 (x y p q : Int) (w : World) : Calls Tryz.prog 125 #[.agg #[.int .i64 x, .int .i64 y, .int .i64 5, .int .i64 p, .int .i64 q]] w fun e w' =>
  e = .returned (.agg #[.int .i64 13, .int .i64 y, .int .i64 0, .int .i64 1, .int .u16 0]) ∧ Below w.heap.size w w' := by
  go_enter Tryz.func125, Tryz.ntmps125
  go_wp2_with (go_at_call 83; ((first | (with_reducible refine (op_0 _ _ _).mono ?_) | ((with_reducible refine (op_1n _ _ _ _ _ _ ?_).mono ?_); (· simp)) | ((with_reducible refine (op_2n _ _ _ _ _ _ _ ?_).mono ?_); (· simp))); rintro e w1 ⟨rfl, hb⟩; obtain ⟨hc, hf⟩ := bcell hb; have HB := Lib.hid hb; clear hb))
  refine bodyPost_ret (v := _) ?_ rfl ⟨rfl, ?_⟩
  ·simp [results, Tryz.results125, go_sem, hc]
  ·clear hc hf
   have hbb := HB.out; clear HB
   with_reducible first | exact set5 (via (own2 _ _ _) hbb) _ (Nat.le_add_right _ _) _ _ _ _ _ | exact set5 (via (own3 _ _ _ _) hbb) _ (Nat.le_add_right _ _) _ _ _ _ _
theorem fq_6 (x y p q : Int) (w : World) : Calls Tryz.prog 125 #[.agg #[.int .i64 x, .int .i64 y, .int .i64 6, .int .i64 p, .int .i64 q]] w fun e w' =>
  e = .returned (.agg #[.int .i64 8, .int .i64 y, .int .i64 0, .int .i64 2, .int .u16 0]) ∧ Below w.heap.size w w' := by
  go_enter Tryz.func125, Tryz.ntmps125
  go_wp2_with (go_at_call 83; ((first | (with_reducible refine (op_0 _ _ _).mono ?_) | ((with_reducible refine (op_1n _ _ _ _ _ _ ?_).mono ?_); (· simp)) | ((with_reducible refine (op_2n _ _ _ _ _ _ _ ?_).mono ?_); (· simp))); rintro e w1 ⟨rfl, hb⟩; obtain ⟨hc, hf⟩ := bcell hb; have HB := Lib.hid hb; clear hb))
  refine bodyPost_ret (v := _) ?_ rfl ⟨rfl, ?_⟩
  ·simp [results, Tryz.results125, go_sem, hc]
  ·clear hc hf
   have hbb := HB.out; clear HB
   with_reducible first | exact set5 (via (own2 _ _ _) hbb) _ (Nat.le_add_right _ _) _ _ _ _ _ | exact set5 (via (own3 _ _ _ _) hbb) _ (Nat.le_add_right _ _) _ _ _ _ _
theorem fq_7 (x y p q : Int) (r : OpV) (hr0 : ofAF y = r) (h1 : 0 ≤ y) (h2 : y < 8) (w : World) : Calls Tryz.prog 125 #[.agg #[.int .i64 x, .int .i64 y, .int .i64 7, .int .i64 p, .int .i64 q]] w fun e w' =>
  e = .returned (.agg #[.int .i64 (r).k, .int .i64 (r).x, .int .i64 (r).y, .int .i64 (r).s, .int .u16 (r).n]) ∧ Below w.heap.size w w' := by
  have hr := Lib.hid hr0; clear hr0; go_enter Tryz.func125, Tryz.ntmps125
  go_wp2_with (go_at_call 134; ((with_reducible refine (ofA_c_h _ _ _ _ _ r hr.out h1 h2 _).mono ?_); rintro e w1 ⟨rfl, hb⟩; obtain ⟨hc, hf⟩ := bcell hb; have HB := Lib.hid hb; clear hb))
  refine bodyPost_ret (v := _) ?_ rfl ⟨rfl, ?_⟩
  ·simp [results, Tryz.results125, go_sem, hc]
  ·clear hc hf
   have hbb := HB.out; clear HB
   with_reducible first | exact set5 (via (own2 _ _ _) hbb) _ (Nat.le_add_right _ _) _ _ _ _ _ | exact set5 (via (own3 _ _ _ _) hbb) _ (Nat.le_add_right _ _) _ _ _ _ _
end Go.Proofs.YtngdogldgcgnjaaGreat
namespace Go.Proofs.YtngdogldgcgnjaaGreat
open Go.ChangeShapes Go.WideShapes Go.ChangeAt Go.RowKit
theorem lq_1 (x y p q s : Int) (r2 r : OpV) (hs0 : stkF p = s) (hr20 : woF p = r2) (hr0 : eitherF q ⟨31, s, 0, 1, 0⟩ r2 = r) (h1 : 0 ≤ p) (h2 : p < 4) (w : World) : Calls Tryz.prog 126 #[.agg #[.int .i64 x, .int .i64 y, .int .i64 1, .int .i64 p, .int .i64 q]] w fun e w' =>
  e = .returned (.agg #[.int .i64 (r).k, .int .i64 (r).x, .int .i64 (r).y, .int .i64 (r).s, .int .u16 (r).n]) ∧ Below w.heap.size w w' := by
 have hr := Lib.hid hr0; have hs := Lib.hid hs0; have hr2 := Lib.hid hr20; clear hr0 hs0 hr20; go_enter Tryz.func126, Tryz.ntmps126; go_wp2_with fail; have hS := St.new w #[.int .i64 x, .int .i64 y, .int .i64 1, .int .i64 p, .int .i64 q] 153 44; have HS := Lib.hid hS; clear hS
 refine wp_region_held_drew (S := (fun w' => (∀ o, w'.cell? ⟨w.heap.size, o, none⟩ = #[Value.int .i64 x, .int .i64 y, .int .i64 1, .int .i64 p, .int .i64 q][o]?) ∧ Rest w w')) (by kernel_rfl) HS.out (fun hHeld => ?_)
 clear HS; generalize ((w.alloc (.cells #[.int .i64 x, .int .i64 y, .int .i64 1, .int .i64 p, .int .i64 q] 153)).alloc (.cells #[.int .i64 0, .int .i64 0, .int .i64 0, .int .i64 0, .int .u16 0] 44)).drew = V0 at hHeld ⊢; refine tz 0 ?_; refine tz 1 ?_; refine tz 2 ?_; refine tz 3 ?_; refine tz 7 ?_
 refine wpAnyH_ready (rs := [4]) (by kernel_rfl) (by simp) ?_
 refine (ac rfl (fun K hK => ?_) AllReadyH.nil)
 ·go_simp
  go_wp2_with (go_at_call 136; (with_reducible refine (stk_m _ _ hs.out _).mono ?_); rintro e V1 ⟨rfl, hb⟩)
  subst hb
  refine hK.out _ _ ?s6 (fun hNew => ?r6)
  case s6 => exact hHeld
  clear hK K; clear hHeld; have hHeld := hNew; clear hNew; obtain ⟨V1, hV⟩ : ∃ V, V = V0 := ⟨_, rfl⟩; rw [← hV] at hHeld ⊢; clear hV
  refine wpAnyH_ready (rs := [5]) (by kernel_rfl) (by simp) ?_
  refine (ac rfl (fun K hK => ?_) AllReadyH.nil)
  ·go_simp
   refine hK.out _ _ ?s7 (fun hNew => ?r7)
   case s7 => exact St.alloc hHeld _
   clear hK K; clear hHeld; have hHeld := hNew; clear hNew; have HN5 := Lib.hid (Has.new V1 #[.int .i64 s] 3); generalize V1.alloc (.cells #[.int .i64 s] 3) = V2 at hHeld HN5  ⊢; generalize V1.heap.size = b5 at HN5 ⊢
   refine wpAnyH_ready (rs := [6]) (by kernel_rfl) (by simp) ?_
   refine (ac rfl (fun K hK => ?_) AllReadyH.nil)
   ·have g1 := HN5.out.lt
    have g2 := HN5.out.c0; go_simp
    go_wp2_with (go_at_call 83; (with_reducible refine (op_1 _ _ s b5 _ g1 g2).mono ?_); rintro e V3 ⟨rfl, hb⟩)
    refine hK.out _ _ ?s8 (fun hNew => ?r8)
    case s8 => exact St.below hHeld hb
    clear hK K; clear HN5 g1 g2; clear hb; clear hHeld; have hHeld := hNew; clear hNew
    refine wpAnyH_ready (rs := [8]) (by kernel_rfl) (by simp) ?_
    refine (ac rfl (fun K hK => ?_) AllReadyH.nil)
    ·go_simp
     go_wp2_with (go_at_call 137; (with_reducible refine (wo_c_h _ _ _ _ _ r2 hr2.out h1 h2 _).mono ?_); rintro e V4 ⟨rfl, hb⟩)
     refine hK.out _ _ ?s9 (fun hNew => ?r9)
     case s9 => exact St.below hHeld hb
     clear hK K; clear hb; clear hHeld; have hHeld := hNew; clear hNew
     refine wpAnyH_ready (rs := [9]) (by kernel_rfl) (by simp) ?_
     refine (ac rfl (fun K hK => ?_) AllReadyH.nil)
     ·go_simp
      go_wp2_with (go_at_call 133; (with_reducible refine (either_n _ _ _ _ r2 r hr.out _).mono ?_); rintro e V5 ⟨rfl, hb⟩)
      refine hK.out _ _ ?s10 (fun hNew => ?r10)
      case s10 => exact St.below hHeld hb
      clear hK K; clear hb; clear hHeld; have hHeld := hNew; clear hNew
      refine wpAnyH_ready (rs := [10]) (by kernel_rfl) (by simp) ?_
      refine (ac rfl (fun K hK => ?_) AllReadyH.nil)
      ·obtain ⟨v0, v1, v2, v3, v4, hR⟩ := hHeld.2.1
       obtain ⟨hc, hf⟩ := hR.out; clear hR; go_simp
       refine hK.out _ _ ?s11 (fun hNew => ?r11)
       case s11 => with_reducible exact St.set5 hHeld _ _ _ _ _
       clear hK K
       refine wpAnyH_done (by kernel_rfl) ?_ _
       go_wp2
       refine bodyPost_ret (v := _) ?_ rfl ⟨rfl, hNew.2.2.1⟩
       simp [results, Tryz.results126, go_sem, hc]
theorem lq_5 (x y p q s : Int) (r2 r : OpV) (hs0 : stkF p = s) (hr20 : callF p = r2) (hr0 : eitherF q ⟨30, s, 0, 1, 0⟩ r2 = r) (h1 : 0 ≤ p) (h2 : p < 4) (w : World) : Calls Tryz.prog 126 #[.agg #[.int .i64 x, .int .i64 y, .int .i64 5, .int .i64 p, .int .i64 q]] w fun e w' =>
  e = .returned (.agg #[.int .i64 (r).k, .int .i64 (r).x, .int .i64 (r).y, .int .i64 (r).s, .int .u16 (r).n]) ∧ Below w.heap.size w w' := by
 have hr := Lib.hid hr0; have hs := Lib.hid hs0; have hr2 := Lib.hid hr20; clear hr0 hs0 hr20; go_enter Tryz.func126, Tryz.ntmps126; go_wp2_with fail; have hS := St.new w #[.int .i64 x, .int .i64 y, .int .i64 5, .int .i64 p, .int .i64 q] 153 44; have HS := Lib.hid hS; clear hS
 refine wp_region_held_drew (S := (fun w' => (∀ o, w'.cell? ⟨w.heap.size, o, none⟩ = #[Value.int .i64 x, .int .i64 y, .int .i64 5, .int .i64 p, .int .i64 q][o]?) ∧ Rest w w')) (by kernel_rfl) HS.out (fun hHeld => ?_)
 clear HS; generalize ((w.alloc (.cells #[.int .i64 x, .int .i64 y, .int .i64 5, .int .i64 p, .int .i64 q] 153)).alloc (.cells #[.int .i64 0, .int .i64 0, .int .i64 0, .int .i64 0, .int .u16 0] 44)).drew = V0 at hHeld ⊢; refine tz 0 ?_; refine tz 1 ?_; refine tz 2 ?_; refine tz 3 ?_; refine tz 7 ?_
 refine wpAnyH_ready (rs := [4]) (by kernel_rfl) (by simp) ?_
 refine (ac rfl (fun K hK => ?_) AllReadyH.nil)
 ·go_simp
  go_wp2_with (go_at_call 136; (with_reducible refine (stk_m _ _ hs.out _).mono ?_); rintro e V1 ⟨rfl, hb⟩)
  subst hb
  refine hK.out _ _ ?s6 (fun hNew => ?r6)
  case s6 => exact hHeld
  clear hK K; clear hHeld; have hHeld := hNew; clear hNew; obtain ⟨V1, hV⟩ : ∃ V, V = V0 := ⟨_, rfl⟩; rw [← hV] at hHeld ⊢; clear hV
  refine wpAnyH_ready (rs := [5]) (by kernel_rfl) (by simp) ?_
  refine (ac rfl (fun K hK => ?_) AllReadyH.nil)
  ·go_simp
   refine hK.out _ _ ?s7 (fun hNew => ?r7)
   case s7 => exact St.alloc hHeld _
   clear hK K; clear hHeld; have hHeld := hNew; clear hNew; have HN5 := Lib.hid (Has.new V1 #[.int .i64 s] 3); generalize V1.alloc (.cells #[.int .i64 s] 3) = V2 at hHeld HN5  ⊢; generalize V1.heap.size = b5 at HN5 ⊢
   refine wpAnyH_ready (rs := [6]) (by kernel_rfl) (by simp) ?_
   refine (ac rfl (fun K hK => ?_) AllReadyH.nil)
   ·have g1 := HN5.out.lt
    have g2 := HN5.out.c0; go_simp
    go_wp2_with (go_at_call 83; (with_reducible refine (op_1 _ _ s b5 _ g1 g2).mono ?_); rintro e V3 ⟨rfl, hb⟩)
    refine hK.out _ _ ?s8 (fun hNew => ?r8)
    case s8 => exact St.below hHeld hb
    clear hK K; clear HN5 g1 g2; clear hb; clear hHeld; have hHeld := hNew; clear hNew
    refine wpAnyH_ready (rs := [8]) (by kernel_rfl) (by simp) ?_
    refine (ac rfl (fun K hK => ?_) AllReadyH.nil)
    ·go_simp
     go_wp2_with (go_at_call 141; (with_reducible refine (call_c_h _ _ _ _ _ r2 hr2.out h1 h2 _).mono ?_); rintro e V4 ⟨rfl, hb⟩)
     refine hK.out _ _ ?s9 (fun hNew => ?r9)
     case s9 => exact St.below hHeld hb
     clear hK K; clear hb; clear hHeld; have hHeld := hNew; clear hNew
     refine wpAnyH_ready (rs := [9]) (by kernel_rfl) (by simp) ?_
     refine (ac rfl (fun K hK => ?_) AllReadyH.nil)
     ·go_simp
      go_wp2_with (go_at_call 133; (with_reducible refine (either_n _ _ _ _ r2 r hr.out _).mono ?_); rintro e V5 ⟨rfl, hb⟩)
      refine hK.out _ _ ?s10 (fun hNew => ?r10)
      case s10 => exact St.below hHeld hb
      clear hK K; clear hb; clear hHeld; have hHeld := hNew; clear hNew
      refine wpAnyH_ready (rs := [10]) (by kernel_rfl) (by simp) ?_
      refine (ac rfl (fun K hK => ?_) AllReadyH.nil)
      ·obtain ⟨v0, v1, v2, v3, v4, hR⟩ := hHeld.2.1
       obtain ⟨hc, hf⟩ := hR.out; clear hR; go_simp
       refine hK.out _ _ ?s11 (fun hNew => ?r11)
       case s11 => with_reducible exact St.set5 hHeld _ _ _ _ _
       clear hK K
       refine wpAnyH_done (by kernel_rfl) ?_ _
       go_wp2
       refine bodyPost_ret (v := _) ?_ rfl ⟨rfl, hNew.2.2.1⟩
       simp [results, Tryz.results126, go_sem, hc]
end Go.Proofs.YtngdogldgcgnjaaGreat
namespace Go.Proofs.YtngdogldgcgnjaaGreat
open Go.ChangeShapes Go.WideShapes Go.ChangeAt Go.RowKit
theorem lq_0 (x y p q : Int) (r : OpV) (hr0 : rohF y = r) (h1 : 0 ≤ y) (h2 : y < 8) (w : World) : Calls Tryz.prog 126 #[.agg #[.int .i64 x, .int .i64 y, .int .i64 0, .int .i64 p, .int .i64 q]] w fun e w' =>
  e = .returned (.agg #[.int .i64 (r).k, .int .i64 (r).x, .int .i64 (r).y, .int .i64 (r).s, .int .u16 (r).n]) ∧ Below w.heap.size w w' := by
  have hr := Lib.hid hr0; clear hr0; go_enter Tryz.func126, Tryz.ntmps126
  go_wp2_with (go_at_call 135; ((with_reducible refine (roh_c_h _ _ _ _ _ r hr.out h1 h2 _).mono ?_); rintro e w1 ⟨rfl, hb⟩; obtain ⟨hc, hf⟩ := bcell hb; have HB := Lib.hid hb; clear hb))
  refine bodyPost_ret (v := _) ?_ rfl ⟨rfl, ?_⟩
  ·simp [results, Tryz.results126, go_sem, hc]
  ·clear hc hf
   have hbb := HB.out; clear HB
   with_reducible first | exact set5 (via (own2 _ _ _) hbb) _ (Nat.le_add_right _ _) _ _ _ _ _ | exact set5 (via (own3 _ _ _ _) hbb) _ (Nat.le_add_right _ _) _ _ _ _ _
theorem lq_2 (x y p q : Int) (r : OpV) (hr0 : jofF y = r) (h1 : 0 ≤ y) (h2 : y < 8) (w : World) : Calls Tryz.prog 126 #[.agg #[.int .i64 x, .int .i64 y, .int .i64 2, .int .i64 p, .int .i64 q]] w fun e w' =>
  e = .returned (.agg #[.int .i64 (r).k, .int .i64 (r).x, .int .i64 (r).y, .int .i64 (r).s, .int .u16 (r).n]) ∧ Below w.heap.size w w' := by
  have hr := Lib.hid hr0; clear hr0; go_enter Tryz.func126, Tryz.ntmps126
  go_wp2_with (go_at_call 138; ((with_reducible refine (jof_c_h _ _ _ _ _ r hr.out h1 h2 _).mono ?_); rintro e w1 ⟨rfl, hb⟩; obtain ⟨hc, hf⟩ := bcell hb; have HB := Lib.hid hb; clear hb))
  refine bodyPost_ret (v := _) ?_ rfl ⟨rfl, ?_⟩
  ·simp [results, Tryz.results126, go_sem, hc]
  ·clear hc hf
   have hbb := HB.out; clear HB
   with_reducible first | exact set5 (via (own2 _ _ _) hbb) _ (Nat.le_add_right _ _) _ _ _ _ _ | exact set5 (via (own3 _ _ _ _) hbb) _ (Nat.le_add_right _ _) _ _ _ _ _
theorem lq_3 (x y p q : Int) (r : OpV) (hr0 : josF y = r) (h1 : 0 ≤ y) (h2 : y < 8) (w : World) : Calls Tryz.prog 126 #[.agg #[.int .i64 x, .int .i64 y, .int .i64 3, .int .i64 p, .int .i64 q]] w fun e w' =>
  e = .returned (.agg #[.int .i64 (r).k, .int .i64 (r).x, .int .i64 (r).y, .int .i64 (r).s, .int .u16 (r).n]) ∧ Below w.heap.size w w' := by
  have hr := Lib.hid hr0; clear hr0; go_enter Tryz.func126, Tryz.ntmps126
  go_wp2_with (go_at_call 139; ((with_reducible refine (jos_c_h _ _ _ _ _ r hr.out h1 h2 _).mono ?_); rintro e w1 ⟨rfl, hb⟩; obtain ⟨hc, hf⟩ := bcell hb; have HB := Lib.hid hb; clear hb))
  refine bodyPost_ret (v := _) ?_ rfl ⟨rfl, ?_⟩
  ·simp [results, Tryz.results126, go_sem, hc]
  ·clear hc hf
   have hbb := HB.out; clear HB
   with_reducible first | exact set5 (via (own2 _ _ _) hbb) _ (Nat.le_add_right _ _) _ _ _ _ _ | exact set5 (via (own3 _ _ _ _) hbb) _ (Nat.le_add_right _ _) _ _ _ _ _
theorem lq_4 (x y p q : Int) (r : OpV) (hr0 : ccF y = r) (h1 : 0 ≤ y) (h2 : y < 8) (w : World) : Calls Tryz.prog 126 #[.agg #[.int .i64 x, .int .i64 y, .int .i64 4, .int .i64 p, .int .i64 q]] w fun e w' =>
  e = .returned (.agg #[.int .i64 (r).k, .int .i64 (r).x, .int .i64 (r).y, .int .i64 (r).s, .int .u16 (r).n]) ∧ Below w.heap.size w w' := by
  have hr := Lib.hid hr0; clear hr0; go_enter Tryz.func126, Tryz.ntmps126
  go_wp2_with (go_at_call 140; ((with_reducible refine (cc_c_h _ _ _ _ _ r hr.out h1 h2 _).mono ?_); rintro e w1 ⟨rfl, hb⟩; obtain ⟨hc, hf⟩ := bcell hb; have HB := Lib.hid hb; clear hb))
  refine bodyPost_ret (v := _) ?_ rfl ⟨rfl, ?_⟩
  ·simp [results, Tryz.results126, go_sem, hc]
  ·clear hc hf
   have hbb := HB.out; clear HB
   with_reducible first | exact set5 (via (own2 _ _ _) hbb) _ (Nat.le_add_right _ _) _ _ _ _ _ | exact set5 (via (own3 _ _ _ _) hbb) _ (Nat.le_add_right _ _) _ _ _ _ _
theorem lq_6 (x y p q : Int) (w : World) : Calls Tryz.prog 126 #[.agg #[.int .i64 x, .int .i64 y, .int .i64 6, .int .i64 p, .int .i64 q]] w fun e w' =>
  e = .returned (.agg #[.int .i64 11, .int .i64 y, .int .i64 0, .int .i64 2, .int .u16 0]) ∧ Below w.heap.size w w' := by
  go_enter Tryz.func126, Tryz.ntmps126
  go_wp2_with (go_at_call 83; ((first | (with_reducible refine (op_0 _ _ _).mono ?_) | ((with_reducible refine (op_1n _ _ _ _ _ _ ?_).mono ?_); (· simp)) | ((with_reducible refine (op_2n _ _ _ _ _ _ _ ?_).mono ?_); (· simp))); rintro e w1 ⟨rfl, hb⟩; obtain ⟨hc, hf⟩ := bcell hb; have HB := Lib.hid hb; clear hb))
  refine bodyPost_ret (v := _) ?_ rfl ⟨rfl, ?_⟩
  ·simp [results, Tryz.results126, go_sem, hc]
  ·clear hc hf
   have hbb := HB.out; clear HB
   with_reducible first | exact set5 (via (own2 _ _ _) hbb) _ (Nat.le_add_right _ _) _ _ _ _ _ | exact set5 (via (own3 _ _ _ _) hbb) _ (Nat.le_add_right _ _) _ _ _ _ _
end Go.Proofs.YtngdogldgcgnjaaGreat
