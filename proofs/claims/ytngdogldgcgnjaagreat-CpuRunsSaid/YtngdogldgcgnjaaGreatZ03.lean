/-
  What ops.firstQuarter and ops.lastQuarter return, digit by digit: for every world; digits as those of a byte.
-/
import Derived.Test.YtngdogldgcgnjaaGreatZ02
set_option maxRecDepth 100000
set_option maxHeartbeats 8000000
namespace Go.Proofs.YtngdogldgcgnjaaGreat
open Go.ChangeShapes Go.WideShapes Go.ChangeAt Go.RowKit
theorem fq_1 (x y p q : Int) (r : OpV) (hr0 : eitherF q ⟨9, p, 0, 3, 0⟩ ⟨16, p, 0, 1, 0⟩ = r) (w : World) : Calls Tryz.prog 125 #[.agg #[.int .i64 x, .int .i64 y, .int .i64 1, .int .i64 p, .int .i64 q]] w fun e w' =>
  e = .returned (.agg #[.int .i64 (r).k, .int .i64 (r).x, .int .i64 (r).y, .int .i64 (r).s, .int .u16 (r).n]) ∧ Below w.heap.size w w' := by
 have hr := Lib.hid hr0; clear hr0; go_enter Tryz.func125, Tryz.ntmps125; go_wp2_with fail; have hS := St.new w #[.int .i64 x, .int .i64 y, .int .i64 1, .int .i64 p, .int .i64 q] 153 44; have HS := Lib.hid hS; clear hS
 refine wp_region_held_drew (S := (fun w' => (∀ o, w'.cell? ⟨w.heap.size, o, none⟩ = #[Value.int .i64 x, .int .i64 y, .int .i64 1, .int .i64 p, .int .i64 q][o]?) ∧ Rest w w')) (by kernel_rfl) HS.out (fun hHeld => ?_)
 clear HS; generalize ((w.alloc (.cells #[.int .i64 x, .int .i64 y, .int .i64 1, .int .i64 p, .int .i64 q] 153)).alloc (.cells #[.int .i64 0, .int .i64 0, .int .i64 0, .int .i64 0, .int .u16 0] 44)).drew = V0 at hHeld ⊢; refine tz 0 ?_; refine tz 1 ?_; refine tz 2 ?_; refine tz 3 ?_; refine tz 6 ?_; refine tz 7 ?_
 refine wpAnyH_ready (rs := [4, 8]) (by kernel_rfl) (by simp) ?_
 refine (ac rfl (fun K hK => ?_) (ac rfl (fun K hK => ?_) AllReadyH.nil))
 ·go_simp
  refine hK.out _ _ ?s7 (fun hNew => ?r7)
  case s7 => exact St.alloc hHeld _
  clear hK K; clear hHeld; have hHeld := hNew; clear hNew; have HN4 := Lib.hid (Has.new V0 #[.int .i64 p] 3); generalize V0.alloc (.cells #[.int .i64 p] 3) = V1 at hHeld HN4  ⊢; generalize V0.heap.size = b4 at HN4 ⊢
  skip
  refine wpAnyH_ready (rs := [5, 8]) (by kernel_rfl) (by simp) ?_
  refine (ac rfl (fun K hK => ?_) (ac rfl (fun K hK => ?_) AllReadyH.nil))
  ·have g1 := HN4.out.lt
   have g2 := HN4.out.c0; go_simp
   go_wp2_with (go_at_call 83; (with_reducible refine (op_1 _ _ p b4 _ g1 g2).mono ?_); rintro e V2 ⟨rfl, hb⟩)
   refine hK.out _ _ ?s8 (fun hNew => ?r8)
   case s8 => exact St.below hHeld hb
   clear hK K; clear HN4 g1 g2; clear hb; clear hHeld; have hHeld := hNew; clear hNew
   refine wpAnyH_ready (rs := [8]) (by kernel_rfl) (by simp) ?_
   refine (ac rfl (fun K hK => ?_) AllReadyH.nil)
   ·go_simp
    refine hK.out _ _ ?s9 (fun hNew => ?r9)
    case s9 => exact St.alloc hHeld _
    clear hK K; clear hHeld; have hHeld := hNew; clear hNew; have HN8 := Lib.hid (Has.new V2 #[.int .i64 p] 3); generalize V2.alloc (.cells #[.int .i64 p] 3) = V3 at hHeld HN8  ⊢; generalize V2.heap.size = b8 at HN8 ⊢
    skip
    refine wpAnyH_ready (rs := [9]) (by kernel_rfl) (by simp) ?_
    refine (ac rfl (fun K hK => ?_) AllReadyH.nil)
    ·have g1 := HN8.out.lt
     have g2 := HN8.out.c0; go_simp
     go_wp2_with (go_at_call 83; (with_reducible refine (op_1 _ _ p b8 _ g1 g2).mono ?_); rintro e V4 ⟨rfl, hb⟩)
     refine hK.out _ _ ?s10 (fun hNew => ?r10)
     case s10 => exact St.below hHeld hb
     clear hK K; clear HN8 g1 g2; clear hb; clear hHeld; have hHeld := hNew; clear hNew
     refine wpAnyH_ready (rs := [10]) (by kernel_rfl) (by simp) ?_
     refine (ac rfl (fun K hK => ?_) AllReadyH.nil)
     ·go_simp
      go_wp2_with (go_at_call 133; (with_reducible refine (either_m _ _ _ _ _ _ _ _ hr.out _).mono ?_); rintro e V5 ⟨rfl, hb⟩)
      refine hK.out _ _ ?s11 (fun hNew => ?r11)
      case s11 => exact St.below hHeld hb
      clear hK K; clear hb; clear hHeld; have hHeld := hNew; clear hNew
      refine wpAnyH_ready (rs := [11]) (by kernel_rfl) (by simp) ?_
      refine (ac rfl (fun K hK => ?_) AllReadyH.nil)
      ·obtain ⟨v0, v1, v2, v3, v4, hR⟩ := hHeld.2.1
       obtain ⟨hc, hf⟩ := hR.out; clear hR; go_simp
       refine hK.out _ _ ?s12 (fun hNew => ?r12)
       case s12 => with_reducible exact St.set5 hHeld _ _ _ _ _
       clear hK K
       refine wpAnyH_done (by kernel_rfl) ?_ _
       go_wp2
       refine bodyPost_ret (v := _) ?_ rfl ⟨rfl, hNew.2.2.1⟩
       simp [results, Tryz.results125, go_sem, hc]
  ·go_simp
   refine hK.out _ _ ?s13 (fun hNew => ?r13)
   case s13 => exact St.alloc hHeld _
   clear hK K; clear hHeld; have hHeld := hNew; clear hNew; have HN8 := Lib.hid (Has.new V1 #[.int .i64 p] 3); have HN4' := Lib.hid (HN4.out.alloc (.cells #[.int .i64 p] 3)); clear HN4; have HN4 := HN4'; clear HN4'; generalize V1.alloc (.cells #[.int .i64 p] 3) = V2 at hHeld HN8 HN4 ⊢; generalize V1.heap.size = b8 at HN8 ⊢
   skip
   refine wpAnyH_ready (rs := [5]) (by kernel_rfl) (by simp) ?_
   refine (ac rfl (fun K hK => ?_) AllReadyH.nil)
   ·have g1 := HN4.out.lt
    have g2 := HN4.out.c0; go_simp
    go_wp2_with (go_at_call 83; (with_reducible refine (op_1 _ _ p b4 _ g1 g2).mono ?_); rintro e V3 ⟨rfl, hb⟩)
    refine hK.out _ _ ?s14 (fun hNew => ?r14)
    case s14 => exact St.below hHeld hb
    clear hK K; clear HN4 g1 g2; have HN8' := Lib.hid (HN8.out.below hb); clear HN8; have HN8 := HN8'; clear HN8'; clear hb; clear hHeld; have hHeld := hNew; clear hNew
    refine wpAnyH_ready (rs := [9]) (by kernel_rfl) (by simp) ?_
    refine (ac rfl (fun K hK => ?_) AllReadyH.nil)
    ·have g1 := HN8.out.lt
     have g2 := HN8.out.c0; go_simp
     go_wp2_with (go_at_call 83; (with_reducible refine (op_1 _ _ p b8 _ g1 g2).mono ?_); rintro e V4 ⟨rfl, hb⟩)
     refine hK.out _ _ ?s15 (fun hNew => ?r15)
     case s15 => exact St.below hHeld hb
     clear hK K; clear HN8 g1 g2; clear hb; clear hHeld; have hHeld := hNew; clear hNew
     refine wpAnyH_ready (rs := [10]) (by kernel_rfl) (by simp) ?_
     refine (ac rfl (fun K hK => ?_) AllReadyH.nil)
     ·go_simp
      go_wp2_with (go_at_call 133; (with_reducible refine (either_m _ _ _ _ _ _ _ _ hr.out _).mono ?_); rintro e V5 ⟨rfl, hb⟩)
      refine hK.out _ _ ?s16 (fun hNew => ?r16)
      case s16 => exact St.below hHeld hb
      clear hK K; clear hb; clear hHeld; have hHeld := hNew; clear hNew
      refine wpAnyH_ready (rs := [11]) (by kernel_rfl) (by simp) ?_
      refine (ac rfl (fun K hK => ?_) AllReadyH.nil)
      ·obtain ⟨v0, v1, v2, v3, v4, hR⟩ := hHeld.2.1
       obtain ⟨hc, hf⟩ := hR.out; clear hR; go_simp
       refine hK.out _ _ ?s17 (fun hNew => ?r17)
       case s17 => with_reducible exact St.set5 hHeld _ _ _ _ _
       clear hK K
       refine wpAnyH_done (by kernel_rfl) ?_ _
       go_wp2
       refine bodyPost_ret (v := _) ?_ rfl ⟨rfl, hNew.2.2.1⟩
       simp [results, Tryz.results125, go_sem, hc]
 ·go_simp
  refine hK.out _ _ ?s18 (fun hNew => ?r18)
  case s18 => exact St.alloc hHeld _
  clear hK K; clear hHeld; have hHeld := hNew; clear hNew; have HN8 := Lib.hid (Has.new V0 #[.int .i64 p] 3); generalize V0.alloc (.cells #[.int .i64 p] 3) = V1 at hHeld HN8  ⊢; generalize V0.heap.size = b8 at HN8 ⊢
  skip
  refine wpAnyH_ready (rs := [4]) (by kernel_rfl) (by simp) ?_
  refine (ac rfl (fun K hK => ?_) AllReadyH.nil)
  ·go_simp
   refine hK.out _ _ ?s19 (fun hNew => ?r19)
   case s19 => exact St.alloc hHeld _
   clear hK K; clear hHeld; have hHeld := hNew; clear hNew; have HN4 := Lib.hid (Has.new V1 #[.int .i64 p] 3); have HN8' := Lib.hid (HN8.out.alloc (.cells #[.int .i64 p] 3)); clear HN8; have HN8 := HN8'; clear HN8'; generalize V1.alloc (.cells #[.int .i64 p] 3) = V2 at hHeld HN4 HN8 ⊢; generalize V1.heap.size = b4 at HN4 ⊢
   skip
   refine wpAnyH_ready (rs := [5]) (by kernel_rfl) (by simp) ?_
   refine (ac rfl (fun K hK => ?_) AllReadyH.nil)
   ·have g1 := HN4.out.lt
    have g2 := HN4.out.c0; go_simp
    go_wp2_with (go_at_call 83; (with_reducible refine (op_1 _ _ p b4 _ g1 g2).mono ?_); rintro e V3 ⟨rfl, hb⟩)
    refine hK.out _ _ ?s20 (fun hNew => ?r20)
    case s20 => exact St.below hHeld hb
    clear hK K; clear HN4 g1 g2; have HN8' := Lib.hid (HN8.out.below hb); clear HN8; have HN8 := HN8'; clear HN8'; clear hb; clear hHeld; have hHeld := hNew; clear hNew
    refine wpAnyH_ready (rs := [9]) (by kernel_rfl) (by simp) ?_
    refine (ac rfl (fun K hK => ?_) AllReadyH.nil)
    ·have g1 := HN8.out.lt
     have g2 := HN8.out.c0; go_simp
     go_wp2_with (go_at_call 83; (with_reducible refine (op_1 _ _ p b8 _ g1 g2).mono ?_); rintro e V4 ⟨rfl, hb⟩)
     refine hK.out _ _ ?s21 (fun hNew => ?r21)
     case s21 => exact St.below hHeld hb
     clear hK K; clear HN8 g1 g2; clear hb; clear hHeld; have hHeld := hNew; clear hNew
     refine wpAnyH_ready (rs := [10]) (by kernel_rfl) (by simp) ?_
     refine (ac rfl (fun K hK => ?_) AllReadyH.nil)
     ·go_simp
      go_wp2_with (go_at_call 133; (with_reducible refine (either_m _ _ _ _ _ _ _ _ hr.out _).mono ?_); rintro e V5 ⟨rfl, hb⟩)
      refine hK.out _ _ ?s22 (fun hNew => ?r22)
      case s22 => exact St.below hHeld hb
      clear hK K; clear hb; clear hHeld; have hHeld := hNew; clear hNew
      refine wpAnyH_ready (rs := [11]) (by kernel_rfl) (by simp) ?_
      refine (ac rfl (fun K hK => ?_) AllReadyH.nil)
      ·obtain ⟨v0, v1, v2, v3, v4, hR⟩ := hHeld.2.1
       obtain ⟨hc, hf⟩ := hR.out; clear hR; go_simp
       refine hK.out _ _ ?s23 (fun hNew => ?r23)
       case s23 => with_reducible exact St.set5 hHeld _ _ _ _ _
       clear hK K
       refine wpAnyH_done (by kernel_rfl) ?_ _
       go_wp2
       refine bodyPost_ret (v := _) ?_ rfl ⟨rfl, hNew.2.2.1⟩
       simp [results, Tryz.results125, go_sem, hc]
theorem fq_2 (x y p q : Int) (r : OpV) (hr0 : eitherF q ⟨33, p, 0, 1, 0⟩ ⟨32, p, 0, 1, 0⟩ = r) (w : World) : Calls Tryz.prog 125 #[.agg #[.int .i64 x, .int .i64 y, .int .i64 2, .int .i64 p, .int .i64 q]] w fun e w' =>
  e = .returned (.agg #[.int .i64 (r).k, .int .i64 (r).x, .int .i64 (r).y, .int .i64 (r).s, .int .u16 (r).n]) ∧ Below w.heap.size w w' := by
 have hr := Lib.hid hr0; clear hr0; go_enter Tryz.func125, Tryz.ntmps125; go_wp2_with fail; have hS := St.new w #[.int .i64 x, .int .i64 y, .int .i64 2, .int .i64 p, .int .i64 q] 153 44; have HS := Lib.hid hS; clear hS
 refine wp_region_held_drew (S := (fun w' => (∀ o, w'.cell? ⟨w.heap.size, o, none⟩ = #[Value.int .i64 x, .int .i64 y, .int .i64 2, .int .i64 p, .int .i64 q][o]?) ∧ Rest w w')) (by kernel_rfl) HS.out (fun hHeld => ?_)
 clear HS; generalize ((w.alloc (.cells #[.int .i64 x, .int .i64 y, .int .i64 2, .int .i64 p, .int .i64 q] 153)).alloc (.cells #[.int .i64 0, .int .i64 0, .int .i64 0, .int .i64 0, .int .u16 0] 44)).drew = V0 at hHeld ⊢; refine tz 0 ?_; refine tz 1 ?_; refine tz 2 ?_; refine tz 3 ?_; refine tz 6 ?_; refine tz 7 ?_
 refine wpAnyH_ready (rs := [4, 8]) (by kernel_rfl) (by simp) ?_
 refine (ac rfl (fun K hK => ?_) (ac rfl (fun K hK => ?_) AllReadyH.nil))
 ·go_simp
  refine hK.out _ _ ?s7 (fun hNew => ?r7)
  case s7 => exact St.alloc hHeld _
  clear hK K; clear hHeld; have hHeld := hNew; clear hNew; have HN4 := Lib.hid (Has.new V0 #[.int .i64 p] 3); generalize V0.alloc (.cells #[.int .i64 p] 3) = V1 at hHeld HN4  ⊢; generalize V0.heap.size = b4 at HN4 ⊢
  skip
  refine wpAnyH_ready (rs := [5, 8]) (by kernel_rfl) (by simp) ?_
  refine (ac rfl (fun K hK => ?_) (ac rfl (fun K hK => ?_) AllReadyH.nil))
  ·have g1 := HN4.out.lt
   have g2 := HN4.out.c0; go_simp
   go_wp2_with (go_at_call 83; (with_reducible refine (op_1 _ _ p b4 _ g1 g2).mono ?_); rintro e V2 ⟨rfl, hb⟩)
   refine hK.out _ _ ?s8 (fun hNew => ?r8)
   case s8 => exact St.below hHeld hb
   clear hK K; clear HN4 g1 g2; clear hb; clear hHeld; have hHeld := hNew; clear hNew
   refine wpAnyH_ready (rs := [8]) (by kernel_rfl) (by simp) ?_
   refine (ac rfl (fun K hK => ?_) AllReadyH.nil)
   ·go_simp
    refine hK.out _ _ ?s9 (fun hNew => ?r9)
    case s9 => exact St.alloc hHeld _
    clear hK K; clear hHeld; have hHeld := hNew; clear hNew; have HN8 := Lib.hid (Has.new V2 #[.int .i64 p] 3); generalize V2.alloc (.cells #[.int .i64 p] 3) = V3 at hHeld HN8  ⊢; generalize V2.heap.size = b8 at HN8 ⊢
    skip
    refine wpAnyH_ready (rs := [9]) (by kernel_rfl) (by simp) ?_
    refine (ac rfl (fun K hK => ?_) AllReadyH.nil)
    ·have g1 := HN8.out.lt
     have g2 := HN8.out.c0; go_simp
     go_wp2_with (go_at_call 83; (with_reducible refine (op_1 _ _ p b8 _ g1 g2).mono ?_); rintro e V4 ⟨rfl, hb⟩)
     refine hK.out _ _ ?s10 (fun hNew => ?r10)
     case s10 => exact St.below hHeld hb
     clear hK K; clear HN8 g1 g2; clear hb; clear hHeld; have hHeld := hNew; clear hNew
     refine wpAnyH_ready (rs := [10]) (by kernel_rfl) (by simp) ?_
     refine (ac rfl (fun K hK => ?_) AllReadyH.nil)
     ·go_simp
      go_wp2_with (go_at_call 133; (with_reducible refine (either_m _ _ _ _ _ _ _ _ hr.out _).mono ?_); rintro e V5 ⟨rfl, hb⟩)
      refine hK.out _ _ ?s11 (fun hNew => ?r11)
      case s11 => exact St.below hHeld hb
      clear hK K; clear hb; clear hHeld; have hHeld := hNew; clear hNew
      refine wpAnyH_ready (rs := [11]) (by kernel_rfl) (by simp) ?_
      refine (ac rfl (fun K hK => ?_) AllReadyH.nil)
      ·obtain ⟨v0, v1, v2, v3, v4, hR⟩ := hHeld.2.1
       obtain ⟨hc, hf⟩ := hR.out; clear hR; go_simp
       refine hK.out _ _ ?s12 (fun hNew => ?r12)
       case s12 => with_reducible exact St.set5 hHeld _ _ _ _ _
       clear hK K
       refine wpAnyH_done (by kernel_rfl) ?_ _
       go_wp2
       refine bodyPost_ret (v := _) ?_ rfl ⟨rfl, hNew.2.2.1⟩
       simp [results, Tryz.results125, go_sem, hc]
  ·go_simp
   refine hK.out _ _ ?s13 (fun hNew => ?r13)
   case s13 => exact St.alloc hHeld _
   clear hK K; clear hHeld; have hHeld := hNew; clear hNew; have HN8 := Lib.hid (Has.new V1 #[.int .i64 p] 3); have HN4' := Lib.hid (HN4.out.alloc (.cells #[.int .i64 p] 3)); clear HN4; have HN4 := HN4'; clear HN4'; generalize V1.alloc (.cells #[.int .i64 p] 3) = V2 at hHeld HN8 HN4 ⊢; generalize V1.heap.size = b8 at HN8 ⊢
   skip
   refine wpAnyH_ready (rs := [5]) (by kernel_rfl) (by simp) ?_
   refine (ac rfl (fun K hK => ?_) AllReadyH.nil)
   ·have g1 := HN4.out.lt
    have g2 := HN4.out.c0; go_simp
    go_wp2_with (go_at_call 83; (with_reducible refine (op_1 _ _ p b4 _ g1 g2).mono ?_); rintro e V3 ⟨rfl, hb⟩)
    refine hK.out _ _ ?s14 (fun hNew => ?r14)
    case s14 => exact St.below hHeld hb
    clear hK K; clear HN4 g1 g2; have HN8' := Lib.hid (HN8.out.below hb); clear HN8; have HN8 := HN8'; clear HN8'; clear hb; clear hHeld; have hHeld := hNew; clear hNew
    refine wpAnyH_ready (rs := [9]) (by kernel_rfl) (by simp) ?_
    refine (ac rfl (fun K hK => ?_) AllReadyH.nil)
    ·have g1 := HN8.out.lt
     have g2 := HN8.out.c0; go_simp
     go_wp2_with (go_at_call 83; (with_reducible refine (op_1 _ _ p b8 _ g1 g2).mono ?_); rintro e V4 ⟨rfl, hb⟩)
     refine hK.out _ _ ?s15 (fun hNew => ?r15)
     case s15 => exact St.below hHeld hb
     clear hK K; clear HN8 g1 g2; clear hb; clear hHeld; have hHeld := hNew; clear hNew
     refine wpAnyH_ready (rs := [10]) (by kernel_rfl) (by simp) ?_
     refine (ac rfl (fun K hK => ?_) AllReadyH.nil)
     ·go_simp
      go_wp2_with (go_at_call 133; (with_reducible refine (either_m _ _ _ _ _ _ _ _ hr.out _).mono ?_); rintro e V5 ⟨rfl, hb⟩)
      refine hK.out _ _ ?s16 (fun hNew => ?r16)
      case s16 => exact St.below hHeld hb
      clear hK K; clear hb; clear hHeld; have hHeld := hNew; clear hNew
      refine wpAnyH_ready (rs := [11]) (by kernel_rfl) (by simp) ?_
      refine (ac rfl (fun K hK => ?_) AllReadyH.nil)
      ·obtain ⟨v0, v1, v2, v3, v4, hR⟩ := hHeld.2.1
       obtain ⟨hc, hf⟩ := hR.out; clear hR; go_simp
       refine hK.out _ _ ?s17 (fun hNew => ?r17)
       case s17 => with_reducible exact St.set5 hHeld _ _ _ _ _
       clear hK K
       refine wpAnyH_done (by kernel_rfl) ?_ _
       go_wp2
       refine bodyPost_ret (v := _) ?_ rfl ⟨rfl, hNew.2.2.1⟩
       simp [results, Tryz.results125, go_sem, hc]
 ·go_simp
  refine hK.out _ _ ?s18 (fun hNew => ?r18)
  case s18 => exact St.alloc hHeld _
  clear hK K; clear hHeld; have hHeld := hNew; clear hNew; have HN8 := Lib.hid (Has.new V0 #[.int .i64 p] 3); generalize V0.alloc (.cells #[.int .i64 p] 3) = V1 at hHeld HN8  ⊢; generalize V0.heap.size = b8 at HN8 ⊢
  skip
  refine wpAnyH_ready (rs := [4]) (by kernel_rfl) (by simp) ?_
  refine (ac rfl (fun K hK => ?_) AllReadyH.nil)
  ·go_simp
   refine hK.out _ _ ?s19 (fun hNew => ?r19)
   case s19 => exact St.alloc hHeld _
   clear hK K; clear hHeld; have hHeld := hNew; clear hNew; have HN4 := Lib.hid (Has.new V1 #[.int .i64 p] 3); have HN8' := Lib.hid (HN8.out.alloc (.cells #[.int .i64 p] 3)); clear HN8; have HN8 := HN8'; clear HN8'; generalize V1.alloc (.cells #[.int .i64 p] 3) = V2 at hHeld HN4 HN8 ⊢; generalize V1.heap.size = b4 at HN4 ⊢
   skip
   refine wpAnyH_ready (rs := [5]) (by kernel_rfl) (by simp) ?_
   refine (ac rfl (fun K hK => ?_) AllReadyH.nil)
   ·have g1 := HN4.out.lt
    have g2 := HN4.out.c0; go_simp
    go_wp2_with (go_at_call 83; (with_reducible refine (op_1 _ _ p b4 _ g1 g2).mono ?_); rintro e V3 ⟨rfl, hb⟩)
    refine hK.out _ _ ?s20 (fun hNew => ?r20)
    case s20 => exact St.below hHeld hb
    clear hK K; clear HN4 g1 g2; have HN8' := Lib.hid (HN8.out.below hb); clear HN8; have HN8 := HN8'; clear HN8'; clear hb; clear hHeld; have hHeld := hNew; clear hNew
    refine wpAnyH_ready (rs := [9]) (by kernel_rfl) (by simp) ?_
    refine (ac rfl (fun K hK => ?_) AllReadyH.nil)
    ·have g1 := HN8.out.lt
     have g2 := HN8.out.c0; go_simp
     go_wp2_with (go_at_call 83; (with_reducible refine (op_1 _ _ p b8 _ g1 g2).mono ?_); rintro e V4 ⟨rfl, hb⟩)
     refine hK.out _ _ ?s21 (fun hNew => ?r21)
     case s21 => exact St.below hHeld hb
     clear hK K; clear HN8 g1 g2; clear hb; clear hHeld; have hHeld := hNew; clear hNew
     refine wpAnyH_ready (rs := [10]) (by kernel_rfl) (by simp) ?_
     refine (ac rfl (fun K hK => ?_) AllReadyH.nil)
     ·go_simp
      go_wp2_with (go_at_call 133; (with_reducible refine (either_m _ _ _ _ _ _ _ _ hr.out _).mono ?_); rintro e V5 ⟨rfl, hb⟩)
      refine hK.out _ _ ?s22 (fun hNew => ?r22)
      case s22 => exact St.below hHeld hb
      clear hK K; clear hb; clear hHeld; have hHeld := hNew; clear hNew
      refine wpAnyH_ready (rs := [11]) (by kernel_rfl) (by simp) ?_
      refine (ac rfl (fun K hK => ?_) AllReadyH.nil)
      ·obtain ⟨v0, v1, v2, v3, v4, hR⟩ := hHeld.2.1
       obtain ⟨hc, hf⟩ := hR.out; clear hR; go_simp
       refine hK.out _ _ ?s23 (fun hNew => ?r23)
       case s23 => with_reducible exact St.set5 hHeld _ _ _ _ _
       clear hK K
       refine wpAnyH_done (by kernel_rfl) ?_ _
       go_wp2
       refine bodyPost_ret (v := _) ?_ rfl ⟨rfl, hNew.2.2.1⟩
       simp [results, Tryz.results125, go_sem, hc]
theorem fq_3 (x y p q : Int) (r : OpV) (hr0 : eitherF q ⟨14, p, 0, 1, 0⟩ ⟨15, p, 0, 1, 0⟩ = r) (w : World) : Calls Tryz.prog 125 #[.agg #[.int .i64 x, .int .i64 y, .int .i64 3, .int .i64 p, .int .i64 q]] w fun e w' =>
  e = .returned (.agg #[.int .i64 (r).k, .int .i64 (r).x, .int .i64 (r).y, .int .i64 (r).s, .int .u16 (r).n]) ∧ Below w.heap.size w w' := by
 have hr := Lib.hid hr0; clear hr0; go_enter Tryz.func125, Tryz.ntmps125; go_wp2_with fail; have hS := St.new w #[.int .i64 x, .int .i64 y, .int .i64 3, .int .i64 p, .int .i64 q] 153 44; have HS := Lib.hid hS; clear hS
 refine wp_region_held_drew (S := (fun w' => (∀ o, w'.cell? ⟨w.heap.size, o, none⟩ = #[Value.int .i64 x, .int .i64 y, .int .i64 3, .int .i64 p, .int .i64 q][o]?) ∧ Rest w w')) (by kernel_rfl) HS.out (fun hHeld => ?_)
 clear HS; generalize ((w.alloc (.cells #[.int .i64 x, .int .i64 y, .int .i64 3, .int .i64 p, .int .i64 q] 153)).alloc (.cells #[.int .i64 0, .int .i64 0, .int .i64 0, .int .i64 0, .int .u16 0] 44)).drew = V0 at hHeld ⊢; refine tz 0 ?_; refine tz 1 ?_; refine tz 2 ?_; refine tz 3 ?_; refine tz 6 ?_; refine tz 7 ?_
 refine wpAnyH_ready (rs := [4, 8]) (by kernel_rfl) (by simp) ?_
 refine (ac rfl (fun K hK => ?_) (ac rfl (fun K hK => ?_) AllReadyH.nil))
 ·go_simp
  refine hK.out _ _ ?s7 (fun hNew => ?r7)
  case s7 => exact St.alloc hHeld _
  clear hK K; clear hHeld; have hHeld := hNew; clear hNew; have HN4 := Lib.hid (Has.new V0 #[.int .i64 p] 3); generalize V0.alloc (.cells #[.int .i64 p] 3) = V1 at hHeld HN4  ⊢; generalize V0.heap.size = b4 at HN4 ⊢
  skip
  refine wpAnyH_ready (rs := [5, 8]) (by kernel_rfl) (by simp) ?_
  refine (ac rfl (fun K hK => ?_) (ac rfl (fun K hK => ?_) AllReadyH.nil))
  ·have g1 := HN4.out.lt
   have g2 := HN4.out.c0; go_simp
   go_wp2_with (go_at_call 83; (with_reducible refine (op_1 _ _ p b4 _ g1 g2).mono ?_); rintro e V2 ⟨rfl, hb⟩)
   refine hK.out _ _ ?s8 (fun hNew => ?r8)
   case s8 => exact St.below hHeld hb
   clear hK K; clear HN4 g1 g2; clear hb; clear hHeld; have hHeld := hNew; clear hNew
   refine wpAnyH_ready (rs := [8]) (by kernel_rfl) (by simp) ?_
   refine (ac rfl (fun K hK => ?_) AllReadyH.nil)
   ·go_simp
    refine hK.out _ _ ?s9 (fun hNew => ?r9)
    case s9 => exact St.alloc hHeld _
    clear hK K; clear hHeld; have hHeld := hNew; clear hNew; have HN8 := Lib.hid (Has.new V2 #[.int .i64 p] 3); generalize V2.alloc (.cells #[.int .i64 p] 3) = V3 at hHeld HN8  ⊢; generalize V2.heap.size = b8 at HN8 ⊢
    skip
    refine wpAnyH_ready (rs := [9]) (by kernel_rfl) (by simp) ?_
    refine (ac rfl (fun K hK => ?_) AllReadyH.nil)
    ·have g1 := HN8.out.lt
     have g2 := HN8.out.c0; go_simp
     go_wp2_with (go_at_call 83; (with_reducible refine (op_1 _ _ p b8 _ g1 g2).mono ?_); rintro e V4 ⟨rfl, hb⟩)
     refine hK.out _ _ ?s10 (fun hNew => ?r10)
     case s10 => exact St.below hHeld hb
     clear hK K; clear HN8 g1 g2; clear hb; clear hHeld; have hHeld := hNew; clear hNew
     refine wpAnyH_ready (rs := [10]) (by kernel_rfl) (by simp) ?_
     refine (ac rfl (fun K hK => ?_) AllReadyH.nil)
     ·go_simp
      go_wp2_with (go_at_call 133; (with_reducible refine (either_m _ _ _ _ _ _ _ _ hr.out _).mono ?_); rintro e V5 ⟨rfl, hb⟩)
      refine hK.out _ _ ?s11 (fun hNew => ?r11)
      case s11 => exact St.below hHeld hb
      clear hK K; clear hb; clear hHeld; have hHeld := hNew; clear hNew
      refine wpAnyH_ready (rs := [11]) (by kernel_rfl) (by simp) ?_
      refine (ac rfl (fun K hK => ?_) AllReadyH.nil)
      ·obtain ⟨v0, v1, v2, v3, v4, hR⟩ := hHeld.2.1
       obtain ⟨hc, hf⟩ := hR.out; clear hR; go_simp
       refine hK.out _ _ ?s12 (fun hNew => ?r12)
       case s12 => with_reducible exact St.set5 hHeld _ _ _ _ _
       clear hK K
       refine wpAnyH_done (by kernel_rfl) ?_ _
       go_wp2
       refine bodyPost_ret (v := _) ?_ rfl ⟨rfl, hNew.2.2.1⟩
       simp [results, Tryz.results125, go_sem, hc]
  ·go_simp
   refine hK.out _ _ ?s13 (fun hNew => ?r13)
   case s13 => exact St.alloc hHeld _
   clear hK K; clear hHeld; have hHeld := hNew; clear hNew; have HN8 := Lib.hid (Has.new V1 #[.int .i64 p] 3); have HN4' := Lib.hid (HN4.out.alloc (.cells #[.int .i64 p] 3)); clear HN4; have HN4 := HN4'; clear HN4'; generalize V1.alloc (.cells #[.int .i64 p] 3) = V2 at hHeld HN8 HN4 ⊢; generalize V1.heap.size = b8 at HN8 ⊢
   skip
   refine wpAnyH_ready (rs := [5]) (by kernel_rfl) (by simp) ?_
   refine (ac rfl (fun K hK => ?_) AllReadyH.nil)
   ·have g1 := HN4.out.lt
    have g2 := HN4.out.c0; go_simp
    go_wp2_with (go_at_call 83; (with_reducible refine (op_1 _ _ p b4 _ g1 g2).mono ?_); rintro e V3 ⟨rfl, hb⟩)
    refine hK.out _ _ ?s14 (fun hNew => ?r14)
    case s14 => exact St.below hHeld hb
    clear hK K; clear HN4 g1 g2; have HN8' := Lib.hid (HN8.out.below hb); clear HN8; have HN8 := HN8'; clear HN8'; clear hb; clear hHeld; have hHeld := hNew; clear hNew
    refine wpAnyH_ready (rs := [9]) (by kernel_rfl) (by simp) ?_
    refine (ac rfl (fun K hK => ?_) AllReadyH.nil)
    ·have g1 := HN8.out.lt
     have g2 := HN8.out.c0; go_simp
     go_wp2_with (go_at_call 83; (with_reducible refine (op_1 _ _ p b8 _ g1 g2).mono ?_); rintro e V4 ⟨rfl, hb⟩)
     refine hK.out _ _ ?s15 (fun hNew => ?r15)
     case s15 => exact St.below hHeld hb
     clear hK K; clear HN8 g1 g2; clear hb; clear hHeld; have hHeld := hNew; clear hNew
     refine wpAnyH_ready (rs := [10]) (by kernel_rfl) (by simp) ?_
     refine (ac rfl (fun K hK => ?_) AllReadyH.nil)
     ·go_simp
      go_wp2_with (go_at_call 133; (with_reducible refine (either_m _ _ _ _ _ _ _ _ hr.out _).mono ?_); rintro e V5 ⟨rfl, hb⟩)
      refine hK.out _ _ ?s16 (fun hNew => ?r16)
      case s16 => exact St.below hHeld hb
      clear hK K; clear hb; clear hHeld; have hHeld := hNew; clear hNew
      refine wpAnyH_ready (rs := [11]) (by kernel_rfl) (by simp) ?_
      refine (ac rfl (fun K hK => ?_) AllReadyH.nil)
      ·obtain ⟨v0, v1, v2, v3, v4, hR⟩ := hHeld.2.1
       obtain ⟨hc, hf⟩ := hR.out; clear hR; go_simp
       refine hK.out _ _ ?s17 (fun hNew => ?r17)
       case s17 => with_reducible exact St.set5 hHeld _ _ _ _ _
       clear hK K
       refine wpAnyH_done (by kernel_rfl) ?_ _
       go_wp2
       refine bodyPost_ret (v := _) ?_ rfl ⟨rfl, hNew.2.2.1⟩
       simp [results, Tryz.results125, go_sem, hc]
 ·go_simp
  refine hK.out _ _ ?s18 (fun hNew => ?r18)
  case s18 => exact St.alloc hHeld _
  clear hK K; clear hHeld; have hHeld := hNew; clear hNew; have HN8 := Lib.hid (Has.new V0 #[.int .i64 p] 3); generalize V0.alloc (.cells #[.int .i64 p] 3) = V1 at hHeld HN8  ⊢; generalize V0.heap.size = b8 at HN8 ⊢
  skip
  refine wpAnyH_ready (rs := [4]) (by kernel_rfl) (by simp) ?_
  refine (ac rfl (fun K hK => ?_) AllReadyH.nil)
  ·go_simp
   refine hK.out _ _ ?s19 (fun hNew => ?r19)
   case s19 => exact St.alloc hHeld _
   clear hK K; clear hHeld; have hHeld := hNew; clear hNew; have HN4 := Lib.hid (Has.new V1 #[.int .i64 p] 3); have HN8' := Lib.hid (HN8.out.alloc (.cells #[.int .i64 p] 3)); clear HN8; have HN8 := HN8'; clear HN8'; generalize V1.alloc (.cells #[.int .i64 p] 3) = V2 at hHeld HN4 HN8 ⊢; generalize V1.heap.size = b4 at HN4 ⊢
   skip
   refine wpAnyH_ready (rs := [5]) (by kernel_rfl) (by simp) ?_
   refine (ac rfl (fun K hK => ?_) AllReadyH.nil)
   ·have g1 := HN4.out.lt
    have g2 := HN4.out.c0; go_simp
    go_wp2_with (go_at_call 83; (with_reducible refine (op_1 _ _ p b4 _ g1 g2).mono ?_); rintro e V3 ⟨rfl, hb⟩)
    refine hK.out _ _ ?s20 (fun hNew => ?r20)
    case s20 => exact St.below hHeld hb
    clear hK K; clear HN4 g1 g2; have HN8' := Lib.hid (HN8.out.below hb); clear HN8; have HN8 := HN8'; clear HN8'; clear hb; clear hHeld; have hHeld := hNew; clear hNew
    refine wpAnyH_ready (rs := [9]) (by kernel_rfl) (by simp) ?_
    refine (ac rfl (fun K hK => ?_) AllReadyH.nil)
    ·have g1 := HN8.out.lt
     have g2 := HN8.out.c0; go_simp
     go_wp2_with (go_at_call 83; (with_reducible refine (op_1 _ _ p b8 _ g1 g2).mono ?_); rintro e V4 ⟨rfl, hb⟩)
     refine hK.out _ _ ?s21 (fun hNew => ?r21)
     case s21 => exact St.below hHeld hb
     clear hK K; clear HN8 g1 g2; clear hb; clear hHeld; have hHeld := hNew; clear hNew
     refine wpAnyH_ready (rs := [10]) (by kernel_rfl) (by simp) ?_
     refine (ac rfl (fun K hK => ?_) AllReadyH.nil)
     ·go_simp
      go_wp2_with (go_at_call 133; (with_reducible refine (either_m _ _ _ _ _ _ _ _ hr.out _).mono ?_); rintro e V5 ⟨rfl, hb⟩)
      refine hK.out _ _ ?s22 (fun hNew => ?r22)
      case s22 => exact St.below hHeld hb
      clear hK K; clear hb; clear hHeld; have hHeld := hNew; clear hNew
      refine wpAnyH_ready (rs := [11]) (by kernel_rfl) (by simp) ?_
      refine (ac rfl (fun K hK => ?_) AllReadyH.nil)
      ·obtain ⟨v0, v1, v2, v3, v4, hR⟩ := hHeld.2.1
       obtain ⟨hc, hf⟩ := hR.out; clear hR; go_simp
       refine hK.out _ _ ?s23 (fun hNew => ?r23)
       case s23 => with_reducible exact St.set5 hHeld _ _ _ _ _
       clear hK K
       refine wpAnyH_done (by kernel_rfl) ?_ _
       go_wp2
       refine bodyPost_ret (v := _) ?_ rfl ⟨rfl, hNew.2.2.1⟩
       simp [results, Tryz.results125, go_sem, hc]
end Go.Proofs.YtngdogldgcgnjaaGreat
