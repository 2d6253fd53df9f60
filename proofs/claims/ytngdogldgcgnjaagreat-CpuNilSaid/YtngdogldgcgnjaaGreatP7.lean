/-
  What perform does, where it copies A: for every world; the processor is there.
-/
import Derived.Test.YtngdogldgcgnjaaGreatP4g
import Derived.Test.YtngdogldgcgnjaaGreatP4f
namespace Go.Proofs.YtngdogldgcgnjaaGreat
open Go.ChangeShapes Go.WideShapes Go.ChangeAt Go.RowKit
open Reg
set_option linter.unusedVariables false
set_option maxRecDepth 100000
section
variable {w : World} {P R M tb n : Nat} {v : Value} {y : Sy}
theorem thruS_a (x : Int) (y : Sy) : (thruS x y).s.r.a = y.s.r.a := by
 unfold thruS; repeat (first | rfl | split)
theorem thruS_m (x : Int) (y : Sy) : (thruS x y).m = y.m := by
 unfold thruS; repeat (first | rfl | split)
set_option maxHeartbeats 2000000 in
theorem perf_27 (h0 : Sys procD ramC w P R M tb v y n) (hn : n < 950000) (x z s nn : Int) (t : Bool) : Calls Tryz.prog 55 #[.pointer (some ⟨P, 0, none⟩), .agg #[.int .i64 27, .int .i64 x, .int .i64 z, .int .i64 s, .int .u16 nn], .bool t] w (PE procD ramC P R M tb v w (.tuple #[]) (setIme true (leaveS y)) (n + 3)) := by
 have S0 := Lib.hid (h0.below (own1 w (.cells #[.int .i64 27, .int .i64 x, .int .i64 z, .int .i64 s, .int .u16 nn] 44)))
 have M0 := Lib.hid (show PM P R M tb v w v (w.alloc (.cells #[.int .i64 27, .int .i64 x, .int .i64 z, .int .i64 s, .int .u16 nn] 44)) from PM.of (own1 w (.cells #[.int .i64 27, .int .i64 x, .int .i64 z, .int .i64 s, .int .u16 nn] 44)))
 have HO := Lib.hid (Has.new w #[.int .i64 27, .int .i64 x, .int .i64 z, .int .i64 s, .int .u16 nn] 44)
 have NO := Lib.hid (h0.new (Nat.le_refl w.heap.size))
 obtain ⟨hc, hf⟩ := S0.out.cp
 clear h0
 go_enter Tryz.func55, Tryz.ntmps55
 go_wp2_with fail
 generalize w.alloc (.cells #[.int .i64 27, .int .i64 x, .int .i64 z, .int .i64 s, .int .u16 nn] 44) = w0 at S0 M0 HO hc hf ⊢
 generalize w.heap.size = ob at HO NO ⊢
 have ho := HO.out.2.1
 with_reducible refine (leave_p S0.out (by omega)).mono ?_
 rintro e w1 ⟨rfl, v1, s', m'⟩
 have HO' := Lib.hid (m'.has HO.out NO.out)
 have NO' := Lib.hid (m'.far HO.out.1 NO.out)
 clear ho HO NO
 have HO := HO'
 have NO := NO'
 clear HO' NO'
 have ho := HO.out.2.1
 have M1 := Lib.hid (M0.out.trans m')
 obtain ⟨y1, hy⟩ : ∃ q_, q_ = leaveS y := ⟨_, rfl⟩
 rw [← hy] at s'
 have Y1 := Lib.hid hy
 clear hc hf
 obtain ⟨hc, hf⟩ := s'.cp
 have S1 := Lib.hid s'
 clear s' m' hy
 go_wp2
 have Q := Lib.hid (S1.out.stIme true)
 first | go_end0 | refine bodyPost_ret (results_none rfl _ _ _) rfl ?_
 refine ⟨rfl, v1, ?_, M1.out.trans Q.out.2⟩
 have q := Q.out.1
 have e := Y1.out.symm
 subst e
 exact Sys.mono (n' := n + 3) q (by omega)
set_option maxHeartbeats 2000000 in
theorem perf_28 (h0 : Sys procD ramC w P R M tb v y n) (hn : n < 950000) (x z s nn : Int) (n0 : 0 ≤ nn) (n1 : nn < 65536) (t : Bool) : Calls Tryz.prog 55 #[.pointer (some ⟨P, 0, none⟩), .agg #[.int .i64 28, .int .i64 x, .int .i64 z, .int .i64 s, .int .u16 nn], .bool t] w (PE procD ramC P R M tb v w (.tuple #[]) (enterS nn y) (n + 3)) := by
 have S0 := Lib.hid (h0.below (own1 w (.cells #[.int .i64 28, .int .i64 x, .int .i64 z, .int .i64 s, .int .u16 nn] 44)))
 have M0 := Lib.hid (show PM P R M tb v w v (w.alloc (.cells #[.int .i64 28, .int .i64 x, .int .i64 z, .int .i64 s, .int .u16 nn] 44)) from PM.of (own1 w (.cells #[.int .i64 28, .int .i64 x, .int .i64 z, .int .i64 s, .int .u16 nn] 44)))
 have HO := Lib.hid (Has.new w #[.int .i64 28, .int .i64 x, .int .i64 z, .int .i64 s, .int .u16 nn] 44)
 have NO := Lib.hid (h0.new (Nat.le_refl w.heap.size))
 obtain ⟨hc, hf⟩ := S0.out.cp
 clear h0
 go_enter Tryz.func55, Tryz.ntmps55
 go_wp2_with fail
 generalize w.alloc (.cells #[.int .i64 28, .int .i64 x, .int .i64 z, .int .i64 s, .int .u16 nn] 44) = w0 at S0 M0 HO hc hf ⊢
 generalize w.heap.size = ob at HO NO ⊢
 have ho := HO.out.2.1
 with_reducible refine (enter_p S0.out (by omega) nn n0 n1).mono ?_
 rintro e w1 ⟨rfl, v1, s', m'⟩
 have HO' := Lib.hid (m'.has HO.out NO.out)
 have NO' := Lib.hid (m'.far HO.out.1 NO.out)
 clear ho HO NO
 have HO := HO'
 have NO := NO'
 clear HO' NO'
 have ho := HO.out.2.1
 have M1 := Lib.hid (M0.out.trans m')
 obtain ⟨y1, hy⟩ : ∃ q_, q_ = enterS nn y := ⟨_, rfl⟩
 rw [← hy] at s'
 have Y1 := Lib.hid hy
 clear hc hf
 obtain ⟨hc, hf⟩ := s'.cp
 have S1 := Lib.hid s'
 clear s' m' hy
 go_wp2
 first | go_end0 | refine bodyPost_ret (results_none rfl _ _ _) rfl ?_
 refine ⟨rfl, v1, ?_, M1.out⟩
 have q := S1.out
 have e := Y1.out.symm
 subst e
 exact Sys.mono (n' := n + 3) q (by omega)
set_option maxHeartbeats 2000000 in
theorem perf_29 (h0 : Sys procD ramC w P R M tb v y n) (hn : n < 950000) (x z s nn : Int) (t : Bool) : Calls Tryz.prog 55 #[.pointer (some ⟨P, 0, none⟩), .agg #[.int .i64 29, .int .i64 x, .int .i64 z, .int .i64 s, .int .u16 nn], .bool t] w (PE procD ramC P R M tb v w (.tuple #[]) (setPC (hlV y) y) (n + 0)) := by
 have S0 := Lib.hid (h0.below (own1 w (.cells #[.int .i64 29, .int .i64 x, .int .i64 z, .int .i64 s, .int .u16 nn] 44)))
 have M0 := Lib.hid (show PM P R M tb v w v (w.alloc (.cells #[.int .i64 29, .int .i64 x, .int .i64 z, .int .i64 s, .int .u16 nn] 44)) from PM.of (own1 w (.cells #[.int .i64 29, .int .i64 x, .int .i64 z, .int .i64 s, .int .u16 nn] 44)))
 have HO := Lib.hid (Has.new w #[.int .i64 29, .int .i64 x, .int .i64 z, .int .i64 s, .int .u16 nn] 44)
 have NO := Lib.hid (h0.new (Nat.le_refl w.heap.size))
 obtain ⟨hc, hf⟩ := S0.out.cp
 clear h0
 go_enter Tryz.func55, Tryz.ntmps55
 go_wp2_with fail
 generalize w.alloc (.cells #[.int .i64 29, .int .i64 x, .int .i64 z, .int .i64 s, .int .u16 nn] 44) = w0 at S0 M0 HO hc hf ⊢
 generalize w.heap.size = ob at HO NO ⊢
 have ho := HO.out.2.1
 with_reducible refine (pair_p S0.out (by omega) 2).mono ?_
 rintro e w1 ⟨rfl, v1, s', m'⟩
 have HO' := Lib.hid (m'.has HO.out NO.out)
 have NO' := Lib.hid (m'.far HO.out.1 NO.out)
 clear ho HO NO
 have HO := HO'
 have NO := NO'
 clear HO' NO'
 have ho := HO.out.2.1
 have M1 := Lib.hid (M0.out.trans m')
 obtain ⟨y1, hy⟩ : ∃ q_, q_ = y := ⟨_, rfl⟩
 rw [← hy] at s'
 have Y1 := Lib.hid hy
 clear hc hf
 obtain ⟨hc, hf⟩ := s'.cp
 have S1 := Lib.hid s'
 clear s' m' hy
 go_wp2
 have Q := Lib.hid (S1.out.stPC (pairV y.s.r 2) (pairV_b S0.out.ok 2).1 (pairV_b S0.out.ok 2).2)
 first | go_end0 | refine bodyPost_ret (results_none rfl _ _ _) rfl ?_
 refine ⟨rfl, v1, ?_, M1.out.trans Q.out.2⟩
 have q := Q.out.1
 have e := Y1.out.symm
 subst e
 exact Sys.mono (n' := n + 0) q (by omega)
set_option maxHeartbeats 2000000 in
theorem perf_30 (h0 : Sys procD ramC w P R M tb v y n) (hn : n < 950000) (x z s nn : Int) (t : Bool) : Calls Tryz.prog 55 #[.pointer (some ⟨P, 0, none⟩), .agg #[.int .i64 30, .int .i64 x, .int .i64 z, .int .i64 s, .int .u16 nn], .bool t] w (PE procD ramC P R M tb v w (.tuple #[]) (pushS (pairV y.s.r x) y) (n + 3)) := by
 have S0 := Lib.hid (h0.below (own1 w (.cells #[.int .i64 30, .int .i64 x, .int .i64 z, .int .i64 s, .int .u16 nn] 44)))
 have M0 := Lib.hid (show PM P R M tb v w v (w.alloc (.cells #[.int .i64 30, .int .i64 x, .int .i64 z, .int .i64 s, .int .u16 nn] 44)) from PM.of (own1 w (.cells #[.int .i64 30, .int .i64 x, .int .i64 z, .int .i64 s, .int .u16 nn] 44)))
 have HO := Lib.hid (Has.new w #[.int .i64 30, .int .i64 x, .int .i64 z, .int .i64 s, .int .u16 nn] 44)
 have NO := Lib.hid (h0.new (Nat.le_refl w.heap.size))
 obtain ⟨hc, hf⟩ := S0.out.cp
 clear h0
 go_enter Tryz.func55, Tryz.ntmps55
 go_wp2_with fail
 generalize w.alloc (.cells #[.int .i64 30, .int .i64 x, .int .i64 z, .int .i64 s, .int .u16 nn] 44) = w0 at S0 M0 HO hc hf ⊢
 generalize w.heap.size = ob at HO NO ⊢
 have ho := HO.out.2.1
 with_reducible refine (pair_p S0.out (by omega) x).mono ?_
 rintro e w1 ⟨rfl, v1, s', m'⟩
 have HO' := Lib.hid (m'.has HO.out NO.out)
 have NO' := Lib.hid (m'.far HO.out.1 NO.out)
 clear ho HO NO
 have HO := HO'
 have NO := NO'
 clear HO' NO'
 have ho := HO.out.2.1
 have M1 := Lib.hid (M0.out.trans m')
 obtain ⟨y1, hy⟩ : ∃ q_, q_ = y := ⟨_, rfl⟩
 rw [← hy] at s'
 have Y1 := Lib.hid hy
 clear hc hf
 obtain ⟨hc, hf⟩ := s'.cp
 have S1 := Lib.hid s'
 clear s' m' hy
 go_wp2_with fail
 with_reducible refine (push_p S1.out (by omega) (pairV y.s.r x) (pairV_b S0.out.ok x).1 (pairV_b S0.out.ok x).2).mono ?_
 rintro e w2 ⟨rfl, v2, s', m'⟩
 have HO' := Lib.hid (m'.has HO.out NO.out)
 have NO' := Lib.hid (m'.far HO.out.1 NO.out)
 clear ho HO NO
 have HO := HO'
 have NO := NO'
 clear HO' NO'
 have ho := HO.out.2.1
 have M2 := Lib.hid (M1.out.trans m')
 obtain ⟨y2, hy⟩ : ∃ q_, q_ = pushS (pairV y.s.r x) y1 := ⟨_, rfl⟩
 rw [← hy] at s'
 have Y2 := Lib.hid hy
 clear hc hf
 obtain ⟨hc, hf⟩ := s'.cp
 have S2 := Lib.hid s'
 clear s' m' hy
 go_wp2
 first | go_end0 | refine bodyPost_ret (results_none rfl _ _ _) rfl ?_
 refine ⟨rfl, v2, ?_, M2.out⟩
 have q := S2.out
 have e := Y2.out.symm
 subst e
 have e := Y1.out.symm
 subst e
 exact Sys.mono (n' := n + 3) q (by omega)
set_option maxHeartbeats 2000000 in
theorem perf_31 (h0 : Sys procD ramC w P R M tb v y n) (hn : n < 950000) (x z s nn : Int) (t : Bool) : Calls Tryz.prog 55 #[.pointer (some ⟨P, 0, none⟩), .agg #[.int .i64 31, .int .i64 x, .int .i64 z, .int .i64 s, .int .u16 nn], .bool t] w (PE procD ramC P R M tb v w (.tuple #[]) (pairS x (popV y) (popS y)) (n + 2)) := by
 have S0 := Lib.hid (h0.below (own1 w (.cells #[.int .i64 31, .int .i64 x, .int .i64 z, .int .i64 s, .int .u16 nn] 44)))
 have M0 := Lib.hid (show PM P R M tb v w v (w.alloc (.cells #[.int .i64 31, .int .i64 x, .int .i64 z, .int .i64 s, .int .u16 nn] 44)) from PM.of (own1 w (.cells #[.int .i64 31, .int .i64 x, .int .i64 z, .int .i64 s, .int .u16 nn] 44)))
 have HO := Lib.hid (Has.new w #[.int .i64 31, .int .i64 x, .int .i64 z, .int .i64 s, .int .u16 nn] 44)
 have NO := Lib.hid (h0.new (Nat.le_refl w.heap.size))
 obtain ⟨hc, hf⟩ := S0.out.cp
 clear h0
 go_enter Tryz.func55, Tryz.ntmps55
 go_wp2
 generalize w.alloc (.cells #[.int .i64 31, .int .i64 x, .int .i64 z, .int .i64 s, .int .u16 nn] 44) = w0 at S0 M0 HO hc hf ⊢
 generalize w.heap.size = ob at HO NO ⊢
 have ho := HO.out.2.1
 have S0' := Lib.hid S0.out.drew
 have M0' := Lib.hid (M0.out.trans (PM.drew P R M tb v w0))
 have HO' := Lib.hid HO.out.drew
 clear ho HO
 have HO := HO'
 clear HO'
 clear hc hf
 refine wp_region_held_drew (S := (fun w' => (∀ j, w'.cell? ⟨ob, j, none⟩ = #[Value.int .i64 31, .int .i64 x, .int .i64 z, .int .i64 s, .int .u16 nn][j]?) ∧ True)) (by kernel_rfl) ⟨HO.out.2.1, trivial⟩ (fun hHeld => ?_)
 generalize World.drew w0 = u0 at hHeld S0' M0' HO ⊢
 clear S0 M0
 have S0 := S0'
 have M0 := M0'
 clear S0' M0'
 refine tk 0 rfl (v := ?v1) ?y1 ?z1
 case y1 => (intro w hSw; (try dsimp only at hSw); go_simp) <;> with_reducible rfl
 try simp only [Act.put, qqA, qqB, qqC]
 refine tk 1 rfl (v := ?v2) ?y2 ?z2
 case y2 => (intro w hSw; (try dsimp only at hSw); go_simp) <;> with_reducible rfl
 try simp only [Act.put, qqA, qqB, qqC]
 refine tk 2 rfl (v := ?v3) ?y3 ?z3
 case y3 => (intro w hSw; (try dsimp only at hSw); go_simp) <;> with_reducible rfl
 try simp only [Act.put, qqA, qqB, qqC]
 refine tk 3 rfl (v := ?v4) ?y4 ?z4
 case y4 => (intro w hSw; (try dsimp only at hSw); go_simp) <;> with_reducible rfl
 try simp only [Act.put, qqA, qqB, qqC]
 refine wpAnyH_ready (rs := [4]) (by kernel_rfl) (by simp) ?_
 refine (ac rfl (fun K hK => ?_) AllReadyH.nil)
 ·skip
  go_simp
  go_wp2_with (go_at_call 79; (with_reducible refine (pop_p S0.out (by omega)).mono ?_); rintro e w1 ⟨rfl, v1, s', m'⟩)
  have HO' := Lib.hid (m'.has HO.out NO.out)
  have NO' := Lib.hid (m'.far HO.out.1 NO.out)
  clear HO NO
  have HO := HO'
  have NO := NO'
  clear HO' NO'
  refine hK.out _ _ ?s5 (fun hNew => ?r5)
  case s5 => exact ⟨HO.out.2.1, trivial⟩
  clear hK K hHeld
  have hHeld := hNew
  clear hNew
  have M1 := Lib.hid (M0.out.trans m')
  obtain ⟨y1, hy⟩ : ∃ q_, q_ = popS y := ⟨_, rfl⟩
  rw [← hy] at s'
  have Y1 := Lib.hid hy
  have S1 := Lib.hid s'
  clear s' m' hy
  refine wpAnyH_ready (rs := [5]) (by kernel_rfl) (by simp) ?_
  refine (ac rfl (fun K hK => ?_) AllReadyH.nil)
  ·skip
   go_simp
   go_wp2_with (go_at_call 78; (with_reducible refine (setPair_p S1.out (by omega) x _ S0.out.popb.1 S0.out.popb.2).mono ?_); rintro e w2 ⟨rfl, v2, s', m'⟩)
   have HO' := Lib.hid (m'.has HO.out NO.out)
   have NO' := Lib.hid (m'.far HO.out.1 NO.out)
   clear HO NO
   have HO := HO'
   have NO := NO'
   clear HO' NO'
   refine hK.out _ _ ?s6 (fun hNew => ?r6)
   case s6 => exact ⟨HO.out.2.1, trivial⟩
   clear hK K hHeld
   have hHeld := hNew
   clear hNew
   have M2 := Lib.hid (M1.out.trans m')
   obtain ⟨y2, hy⟩ : ∃ q_, q_ = pairS x (popV y) y1 := ⟨_, rfl⟩
   rw [← hy] at s'
   have Y2 := Lib.hid hy
   have S2 := Lib.hid s'
   clear s' m' hy
   refine wpAnyH_done (by kernel_rfl) ?_ _
   obtain ⟨hc, hf⟩ := S2.out.cp
   have ho := HO.out.2.1
   go_wp2
   first | go_end0 | refine bodyPost_ret (results_none rfl _ _ _) rfl ?_
   refine ⟨rfl, v2, ?_, M2.out⟩
   have q := S2.out
   have e := Y2.out.symm
   subst e
   have e := Y1.out.symm
   subst e
   exact Sys.mono (n' := n + 2) q (by omega)
set_option maxHeartbeats 2000000 in
theorem perf_32 (h0 : Sys procD ramC w P R M tb v y n) (hn : n < 950000) (x z s nn : Int) (t : Bool) : Calls Tryz.prog 55 #[.pointer (some ⟨P, 0, none⟩), .agg #[.int .i64 32, .int .i64 x, .int .i64 z, .int .i64 s, .int .u16 nn], .bool t] w (PE procD ramC P R M tb v w (.tuple #[]) (setA (y.m (thruV x y)) (rd 1 (thruV x y) (thruS x y))) (n + 1)) := by
 have hm := mR ⟨R, 0, none⟩
 have S0 := Lib.hid (h0.below (own1 w (.cells #[.int .i64 32, .int .i64 x, .int .i64 z, .int .i64 s, .int .u16 nn] 44)))
 have M0 := Lib.hid (show PM P R M tb v w v (w.alloc (.cells #[.int .i64 32, .int .i64 x, .int .i64 z, .int .i64 s, .int .u16 nn] 44)) from PM.of (own1 w (.cells #[.int .i64 32, .int .i64 x, .int .i64 z, .int .i64 s, .int .u16 nn] 44)))
 have HO := Lib.hid (Has.new w #[.int .i64 32, .int .i64 x, .int .i64 z, .int .i64 s, .int .u16 nn] 44)
 have NO := Lib.hid (h0.new (Nat.le_refl w.heap.size))
 obtain ⟨hc, hf⟩ := S0.out.cp
 clear h0
 go_enter Tryz.func55, Tryz.ntmps55
 go_wp2
 generalize w.alloc (.cells #[.int .i64 32, .int .i64 x, .int .i64 z, .int .i64 s, .int .u16 nn] 44) = w0 at S0 M0 HO hc hf ⊢
 generalize w.heap.size = ob at HO NO ⊢
 have ho := HO.out.2.1
 have S0' := Lib.hid S0.out.drew
 have M0' := Lib.hid (M0.out.trans (PM.drew P R M tb v w0))
 have HO' := Lib.hid HO.out.drew
 clear ho HO
 have HO := HO'
 clear HO'
 clear hc hf
 refine wp_region_held_drew (S := (fun w' => (∀ j, w'.cell? ⟨ob, j, none⟩ = #[Value.int .i64 32, .int .i64 x, .int .i64 z, .int .i64 s, .int .u16 nn][j]?) ∧ (w'.cell? ⟨P, 14, none⟩ = some (.iface 31 (.pointer (some ⟨R, 0, none⟩)))) ∧ True)) (by kernel_rfl) ⟨HO.out.2.1, S0'.out.cp.1 14, trivial⟩ (fun hHeld => ?_)
 generalize World.drew w0 = u0 at hHeld S0' M0' HO ⊢
 clear S0 M0
 have S0 := S0'
 have M0 := M0'
 clear S0' M0'
 refine tk 0 rfl (v := ?v1) ?y1 ?z1
 case y1 => (intro w hSw; (try dsimp only at hSw); go_simp) <;> with_reducible rfl
 try simp only [Act.put, qqA, qqB, qqC]
 refine tk 1 rfl (v := ?v2) ?y2 ?z2
 case y2 => (intro w hSw; (try dsimp only at hSw); go_simp) <;> with_reducible rfl
 try simp only [Act.put, qqA, qqB, qqC]
 refine tk 2 rfl (v := ?v3) ?y3 ?z3
 case y3 => (intro w hSw; (try dsimp only at hSw); go_simp) <;> with_reducible rfl
 try simp only [Act.put, qqA, qqB, qqC]
 refine tk 3 rfl (v := ?v4) ?y4 ?z4
 case y4 => (intro w hSw; (try dsimp only at hSw); go_simp) <;> with_reducible rfl
 try simp only [Act.put, qqA, qqB, qqC]
 refine tk 4 rfl (v := ?v5) ?y5 ?z5
 case y5 => (intro w hSw; (try dsimp only at hSw); go_simp) <;> with_reducible rfl
 try simp only [Act.put, qqA, qqB, qqC]
 refine tk 5 rfl (v := ?v6) ?y6 ?z6
 case y6 => (intro w hSw; (try dsimp only at hSw); go_simp) <;> with_reducible rfl
 try simp only [Act.put, qqA, qqB, qqC]
 refine tk 6 rfl (v := ?v7) ?y7 ?z7
 case y7 => (intro w hSw; (try dsimp only at hSw); go_simp) <;> with_reducible rfl
 try simp only [Act.put, qqA, qqB, qqC]
 refine tk 8 rfl (v := ?v8) ?y8 ?z8
 case y8 => (intro w hSw; (try dsimp only at hSw); go_simp) <;> with_reducible rfl
 try simp only [Act.put, qqA, qqB, qqC]
 refine tk 9 rfl (v := ?v9) ?y9 ?z9
 case y9 => (intro w hSw; (try dsimp only at hSw); go_simp) <;> with_reducible rfl
 try simp only [Act.put, qqA, qqB, qqC]
 refine wpAnyH_ready (rs := [7]) (by kernel_rfl) (by simp) ?_
 refine (ac rfl (fun K hK => ?_) AllReadyH.nil)
 ·skip
  go_simp
  go_wp2_with (go_at_call 81; (with_reducible refine (addr_32 S0.out (by omega) x z s nn).mono ?_); rintro e w1 ⟨rfl, v1, s', m'⟩)
  have HO' := Lib.hid (m'.has HO.out NO.out)
  have NO' := Lib.hid (m'.far HO.out.1 NO.out)
  clear HO NO
  have HO := HO'
  have NO := NO'
  clear HO' NO'
  refine hK.out _ _ ?s10 (fun hNew => ?r10)
  case s10 => exact ⟨HO.out.2.1, s'.cp.1 14, trivial⟩
  clear hK K hHeld
  have hHeld := hNew
  clear hNew
  have M1 := Lib.hid (M0.out.trans m')
  obtain ⟨y1, hy⟩ : ∃ q_, q_ = thruS x y := ⟨_, rfl⟩
  rw [← hy] at s'
  have Y1 := Lib.hid hy
  have S1 := Lib.hid s'
  clear s' m' hy
  refine wpAnyH_ready (rs := [10]) (by kernel_rfl) (by simp) ?_
  refine (ac rfl (fun K hK => ?_) AllReadyH.nil)
  ·skip
   go_simp
   go_wp2_with (go_at_call 176; (with_reducible refine (read_p S1.out (by omega) _ (thruV_b S0.out x).1 (thruV_b S0.out x).2).mono ?_); rintro e w2 ⟨rfl, v2, s', m'⟩)
   have HO' := Lib.hid (m'.has HO.out NO.out)
   have NO' := Lib.hid (m'.far HO.out.1 NO.out)
   clear HO NO
   have HO := HO'
   have NO := NO'
   clear HO' NO'
   refine hK.out _ _ ?s11 (fun hNew => ?r11)
   case s11 => exact ⟨HO.out.2.1, s'.cp.1 14, trivial⟩
   clear hK K hHeld
   have hHeld := hNew
   clear hNew
   have M2 := Lib.hid (M1.out.trans m')
   obtain ⟨y2, hy⟩ : ∃ q_, q_ = rd 1 (thruV x y) y1 := ⟨_, rfl⟩
   rw [← hy] at s'
   have Y2 := Lib.hid hy
   have S2 := Lib.hid s'
   clear s' m' hy
   refine tk 11 rfl (v := ?v12) ?y12 ?z12
   case y12 => (intro w hSw; (try dsimp only at hSw); go_simp) <;> with_reducible rfl
   try simp only [Act.put, qqA, qqB, qqC]
   refine tk 12 rfl (v := ?v13) ?y13 ?z13
   case y13 => (intro w hSw; (try dsimp only at hSw); go_simp) <;> with_reducible rfl
   try simp only [Act.put, qqA, qqB, qqC]
   refine tk 13 rfl (v := ?v14) ?y14 ?z14
   case y14 => (intro w hSw; (try dsimp only at hSw); go_simp) <;> with_reducible rfl
   try simp only [Act.put, qqA, qqB, qqC]
   refine tk 14 rfl (v := ?v15) ?y15 ?z15
   case y15 => (intro w hSw; (try dsimp only at hSw); go_simp) <;> with_reducible rfl
   try simp only [Act.put, qqA, qqB, qqC]
   refine wpAnyH_ready (rs := [15]) (by kernel_rfl) (by simp) ?_
   refine (ac rfl (fun K hK => ?_) AllReadyH.nil)
   ·skip
    obtain ⟨hc, hf⟩ := S2.out.cp
    go_simp
    clear hc hf
    have q := S2.out.stA (y1.m (thruV x y)) (S1.out.okm _).1 (S1.out.okm _).2
    have s' := q.1
    have m' := q.2
    clear q
    have HO' := Lib.hid (m'.has HO.out NO.out)
    have NO' := Lib.hid (m'.far HO.out.1 NO.out)
    clear HO NO
    have HO := HO'
    have NO := NO'
    clear HO' NO'
    refine hK.out _ _ ?s16 (fun hNew => ?r16)
    case s16 => exact ⟨HO.out.2.1, s'.cp.1 14, trivial⟩
    clear hK K hHeld
    have hHeld := hNew
    clear hNew
    generalize World.setCell w2 ⟨P, 0, none⟩ (.int .u8 (y1.m (thruV x y))) = w3 at hHeld s' m' HO ⊢
    have M3 := Lib.hid (M2.out.trans m')
    obtain ⟨y3, hy⟩ : ∃ q_, q_ = setA (y1.m (thruV x y)) y2 := ⟨_, rfl⟩
    rw [← hy] at s'
    have Y3 := Lib.hid hy
    have S3 := Lib.hid s'
    clear s' m' hy
    refine wpAnyH_done (by kernel_rfl) ?_ _
    obtain ⟨hc, hf⟩ := S3.out.cp
    have ho := HO.out.2.1
    go_wp2
    first | go_end0 | refine bodyPost_ret (results_none rfl _ _ _) rfl ?_
    refine ⟨rfl, v2, ?_, M3.out⟩
    have q := S3.out
    have e := Y3.out.symm
    subst e
    have e := Y2.out.symm
    subst e
    have e := Y1.out.symm
    subst e
    rw [thruS_m] at q
    exact Sys.mono (n' := n + 1) q (by omega)
set_option maxHeartbeats 2000000 in
theorem perf_34 (h0 : Sys procD ramC w P R M tb v y n) (hn : n < 950000) (x z s nn : Int) (n0 : 0 ≤ nn) (n1 : nn < 256) (t : Bool) : Calls Tryz.prog 55 #[.pointer (some ⟨P, 0, none⟩), .agg #[.int .i64 34, .int .i64 x, .int .i64 z, .int .i64 s, .int .u16 nn], .bool t] w (PE procD ramC P R M tb v w (.tuple #[]) (setA (y.m (65280 + nn)) (rd 1 (65280 + nn) y)) (n + 1)) := by
 have hm := mR ⟨R, 0, none⟩
 have nb : 0 ≤ 65280 + nn ∧ 65280 + nn < 65536 := by omega
 have S0 := Lib.hid (h0.below (own1 w (.cells #[.int .i64 34, .int .i64 x, .int .i64 z, .int .i64 s, .int .u16 nn] 44)))
 have M0 := Lib.hid (show PM P R M tb v w v (w.alloc (.cells #[.int .i64 34, .int .i64 x, .int .i64 z, .int .i64 s, .int .u16 nn] 44)) from PM.of (own1 w (.cells #[.int .i64 34, .int .i64 x, .int .i64 z, .int .i64 s, .int .u16 nn] 44)))
 have HO := Lib.hid (Has.new w #[.int .i64 34, .int .i64 x, .int .i64 z, .int .i64 s, .int .u16 nn] 44)
 have NO := Lib.hid (h0.new (Nat.le_refl w.heap.size))
 obtain ⟨hc, hf⟩ := S0.out.cp
 clear h0
 go_enter Tryz.func55, Tryz.ntmps55
 go_wp2
 generalize w.alloc (.cells #[.int .i64 34, .int .i64 x, .int .i64 z, .int .i64 s, .int .u16 nn] 44) = w0 at S0 M0 HO hc hf ⊢
 generalize w.heap.size = ob at HO NO ⊢
 have ho := HO.out.2.1
 have S0' := Lib.hid S0.out.drew
 have M0' := Lib.hid (M0.out.trans (PM.drew P R M tb v w0))
 have HO' := Lib.hid HO.out.drew
 clear ho HO
 have HO := HO'
 clear HO'
 clear hc hf
 refine wp_region_held_drew (S := (fun w' => (∀ j, w'.cell? ⟨ob, j, none⟩ = #[Value.int .i64 34, .int .i64 x, .int .i64 z, .int .i64 s, .int .u16 nn][j]?) ∧ (w'.cell? ⟨P, 14, none⟩ = some (.iface 31 (.pointer (some ⟨R, 0, none⟩)))) ∧ True)) (by kernel_rfl) ⟨HO.out.2.1, S0'.out.cp.1 14, trivial⟩ (fun hHeld => ?_)
 generalize World.drew w0 = u0 at hHeld S0' M0' HO ⊢
 clear S0 M0
 have S0 := S0'
 have M0 := M0'
 clear S0' M0'
 refine tk 0 rfl (v := ?v1) ?y1 ?z1
 case y1 => (intro w hSw; (try dsimp only at hSw); go_simp) <;> with_reducible rfl
 try simp only [Act.put, qqA, qqB, qqC]
 refine tk 1 rfl (v := ?v2) ?y2 ?z2
 case y2 => (intro w hSw; (try dsimp only at hSw); go_simp) <;> with_reducible rfl
 try simp only [Act.put, qqA, qqB, qqC]
 refine tk 2 rfl (v := ?v3) ?y3 ?z3
 case y3 => (intro w hSw; (try dsimp only at hSw); go_simp) <;> with_reducible rfl
 try simp only [Act.put, qqA, qqB, qqC]
 refine tk 3 rfl (v := ?v4) ?y4 ?z4
 case y4 => (intro w hSw; (try dsimp only at hSw); go_simp) <;> with_reducible rfl
 try simp only [Act.put, qqA, qqB, qqC]
 refine tk 4 rfl (v := ?v5) ?y5 ?z5
 case y5 => (intro w hSw; (try dsimp only at hSw); go_simp) <;> with_reducible rfl
 try simp only [Act.put, qqA, qqB, qqC]
 refine tk 5 rfl (v := ?v6) ?y6 ?z6
 case y6 => (intro w hSw; (try dsimp only at hSw); go_simp) <;> with_reducible rfl
 try simp only [Act.put, qqA, qqB, qqC]
 refine tk 6 rfl (v := ?v7) ?y7 ?z7
 case y7 => (intro w hSw; (try dsimp only at hSw); go_simp) <;> with_reducible rfl
 try simp only [Act.put, qqA, qqB, qqC]
 refine tk 8 rfl (v := ?v8) ?y8 ?z8
 case y8 => (intro w hSw; (try dsimp only at hSw); go_simp) <;> with_reducible rfl
 try simp only [Act.put, qqA, qqB, qqC]
 refine tk 9 rfl (v := ?v9) ?y9 ?z9
 case y9 => (intro w hSw; (try dsimp only at hSw); go_simp) <;> with_reducible rfl
 try simp only [Act.put, qqA, qqB, qqC]
 refine wpAnyH_ready (rs := [7]) (by kernel_rfl) (by simp) ?_
 refine (ac rfl (fun K hK => ?_) AllReadyH.nil)
 ·skip
  go_simp
  go_wp2_with (go_at_call 81; (with_reducible refine (addr_34 S0.out (by omega) x z s nn n0 n1).mono ?_); rintro e w1 ⟨rfl, v1, s', m'⟩)
  have HO' := Lib.hid (m'.has HO.out NO.out)
  have NO' := Lib.hid (m'.far HO.out.1 NO.out)
  clear HO NO
  have HO := HO'
  have NO := NO'
  clear HO' NO'
  refine hK.out _ _ ?s10 (fun hNew => ?r10)
  case s10 => exact ⟨HO.out.2.1, s'.cp.1 14, trivial⟩
  clear hK K hHeld
  have hHeld := hNew
  clear hNew
  have M1 := Lib.hid (M0.out.trans m')
  obtain ⟨y1, hy⟩ : ∃ q_, q_ = y := ⟨_, rfl⟩
  rw [← hy] at s'
  have Y1 := Lib.hid hy
  have S1 := Lib.hid s'
  clear s' m' hy
  refine wpAnyH_ready (rs := [10]) (by kernel_rfl) (by simp) ?_
  refine (ac rfl (fun K hK => ?_) AllReadyH.nil)
  ·skip
   go_simp
   go_wp2_with (go_at_call 176; (with_reducible refine (read_p S1.out (by omega) _ (nb).1 (nb).2).mono ?_); rintro e w2 ⟨rfl, v2, s', m'⟩)
   have HO' := Lib.hid (m'.has HO.out NO.out)
   have NO' := Lib.hid (m'.far HO.out.1 NO.out)
   clear HO NO
   have HO := HO'
   have NO := NO'
   clear HO' NO'
   refine hK.out _ _ ?s11 (fun hNew => ?r11)
   case s11 => exact ⟨HO.out.2.1, s'.cp.1 14, trivial⟩
   clear hK K hHeld
   have hHeld := hNew
   clear hNew
   have M2 := Lib.hid (M1.out.trans m')
   obtain ⟨y2, hy⟩ : ∃ q_, q_ = rd 1 (65280 + nn) y1 := ⟨_, rfl⟩
   rw [← hy] at s'
   have Y2 := Lib.hid hy
   have S2 := Lib.hid s'
   clear s' m' hy
   refine tk 11 rfl (v := ?v12) ?y12 ?z12
   case y12 => (intro w hSw; (try dsimp only at hSw); go_simp) <;> with_reducible rfl
   try simp only [Act.put, qqA, qqB, qqC]
   refine tk 12 rfl (v := ?v13) ?y13 ?z13
   case y13 => (intro w hSw; (try dsimp only at hSw); go_simp) <;> with_reducible rfl
   try simp only [Act.put, qqA, qqB, qqC]
   refine tk 13 rfl (v := ?v14) ?y14 ?z14
   case y14 => (intro w hSw; (try dsimp only at hSw); go_simp) <;> with_reducible rfl
   try simp only [Act.put, qqA, qqB, qqC]
   refine tk 14 rfl (v := ?v15) ?y15 ?z15
   case y15 => (intro w hSw; (try dsimp only at hSw); go_simp) <;> with_reducible rfl
   try simp only [Act.put, qqA, qqB, qqC]
   refine wpAnyH_ready (rs := [15]) (by kernel_rfl) (by simp) ?_
   refine (ac rfl (fun K hK => ?_) AllReadyH.nil)
   ·skip
    obtain ⟨hc, hf⟩ := S2.out.cp
    go_simp
    clear hc hf
    have q := S2.out.stA (y1.m (65280 + nn)) (S1.out.okm _).1 (S1.out.okm _).2
    have s' := q.1
    have m' := q.2
    clear q
    have HO' := Lib.hid (m'.has HO.out NO.out)
    have NO' := Lib.hid (m'.far HO.out.1 NO.out)
    clear HO NO
    have HO := HO'
    have NO := NO'
    clear HO' NO'
    refine hK.out _ _ ?s16 (fun hNew => ?r16)
    case s16 => exact ⟨HO.out.2.1, s'.cp.1 14, trivial⟩
    clear hK K hHeld
    have hHeld := hNew
    clear hNew
    generalize World.setCell w2 ⟨P, 0, none⟩ (.int .u8 (y1.m (65280 + nn))) = w3 at hHeld s' m' HO ⊢
    have M3 := Lib.hid (M2.out.trans m')
    obtain ⟨y3, hy⟩ : ∃ q_, q_ = setA (y1.m (65280 + nn)) y2 := ⟨_, rfl⟩
    rw [← hy] at s'
    have Y3 := Lib.hid hy
    have S3 := Lib.hid s'
    clear s' m' hy
    refine wpAnyH_done (by kernel_rfl) ?_ _
    obtain ⟨hc, hf⟩ := S3.out.cp
    have ho := HO.out.2.1
    go_wp2
    first | go_end0 | refine bodyPost_ret (results_none rfl _ _ _) rfl ?_
    refine ⟨rfl, v2, ?_, M3.out⟩
    have q := S3.out
    have e := Y3.out.symm
    subst e
    have e := Y2.out.symm
    subst e
    have e := Y1.out.symm
    subst e
    exact Sys.mono (n' := n + 1) q (by omega)
set_option maxHeartbeats 2000000 in
theorem perf_36 (h0 : Sys procD ramC w P R M tb v y n) (hn : n < 950000) (x z s nn : Int) (t : Bool) : Calls Tryz.prog 55 #[.pointer (some ⟨P, 0, none⟩), .agg #[.int .i64 36, .int .i64 x, .int .i64 z, .int .i64 s, .int .u16 nn], .bool t] w (PE procD ramC P R M tb v w (.tuple #[]) (setA (y.m (65280 + y.s.r.c)) (rd 1 (65280 + y.s.r.c) y)) (n + 1)) := by
 have hm := mR ⟨R, 0, none⟩
 have cb0 := h0.cb
 have cb : 0 ≤ 65280 + y.s.r.c ∧ 65280 + y.s.r.c < 65536 := by omega
 have S0 := Lib.hid (h0.below (own1 w (.cells #[.int .i64 36, .int .i64 x, .int .i64 z, .int .i64 s, .int .u16 nn] 44)))
 have M0 := Lib.hid (show PM P R M tb v w v (w.alloc (.cells #[.int .i64 36, .int .i64 x, .int .i64 z, .int .i64 s, .int .u16 nn] 44)) from PM.of (own1 w (.cells #[.int .i64 36, .int .i64 x, .int .i64 z, .int .i64 s, .int .u16 nn] 44)))
 have HO := Lib.hid (Has.new w #[.int .i64 36, .int .i64 x, .int .i64 z, .int .i64 s, .int .u16 nn] 44)
 have NO := Lib.hid (h0.new (Nat.le_refl w.heap.size))
 obtain ⟨hc, hf⟩ := S0.out.cp
 clear h0
 go_enter Tryz.func55, Tryz.ntmps55
 go_wp2
 generalize w.alloc (.cells #[.int .i64 36, .int .i64 x, .int .i64 z, .int .i64 s, .int .u16 nn] 44) = w0 at S0 M0 HO hc hf ⊢
 generalize w.heap.size = ob at HO NO ⊢
 have ho := HO.out.2.1
 have S0' := Lib.hid S0.out.drew
 have M0' := Lib.hid (M0.out.trans (PM.drew P R M tb v w0))
 have HO' := Lib.hid HO.out.drew
 clear ho HO
 have HO := HO'
 clear HO'
 clear hc hf
 refine wp_region_held_drew (S := (fun w' => (∀ j, w'.cell? ⟨ob, j, none⟩ = #[Value.int .i64 36, .int .i64 x, .int .i64 z, .int .i64 s, .int .u16 nn][j]?) ∧ (w'.cell? ⟨P, 14, none⟩ = some (.iface 31 (.pointer (some ⟨R, 0, none⟩)))) ∧ True)) (by kernel_rfl) ⟨HO.out.2.1, S0'.out.cp.1 14, trivial⟩ (fun hHeld => ?_)
 generalize World.drew w0 = u0 at hHeld S0' M0' HO ⊢
 clear S0 M0
 have S0 := S0'
 have M0 := M0'
 clear S0' M0'
 refine tk 0 rfl (v := ?v1) ?y1 ?z1
 case y1 => (intro w hSw; (try dsimp only at hSw); go_simp) <;> with_reducible rfl
 try simp only [Act.put, qqA, qqB, qqC]
 refine tk 1 rfl (v := ?v2) ?y2 ?z2
 case y2 => (intro w hSw; (try dsimp only at hSw); go_simp) <;> with_reducible rfl
 try simp only [Act.put, qqA, qqB, qqC]
 refine tk 2 rfl (v := ?v3) ?y3 ?z3
 case y3 => (intro w hSw; (try dsimp only at hSw); go_simp) <;> with_reducible rfl
 try simp only [Act.put, qqA, qqB, qqC]
 refine tk 3 rfl (v := ?v4) ?y4 ?z4
 case y4 => (intro w hSw; (try dsimp only at hSw); go_simp) <;> with_reducible rfl
 try simp only [Act.put, qqA, qqB, qqC]
 refine tk 4 rfl (v := ?v5) ?y5 ?z5
 case y5 => (intro w hSw; (try dsimp only at hSw); go_simp) <;> with_reducible rfl
 try simp only [Act.put, qqA, qqB, qqC]
 refine tk 5 rfl (v := ?v6) ?y6 ?z6
 case y6 => (intro w hSw; (try dsimp only at hSw); go_simp) <;> with_reducible rfl
 try simp only [Act.put, qqA, qqB, qqC]
 refine tk 6 rfl (v := ?v7) ?y7 ?z7
 case y7 => (intro w hSw; (try dsimp only at hSw); go_simp) <;> with_reducible rfl
 try simp only [Act.put, qqA, qqB, qqC]
 refine tk 8 rfl (v := ?v8) ?y8 ?z8
 case y8 => (intro w hSw; (try dsimp only at hSw); go_simp) <;> with_reducible rfl
 try simp only [Act.put, qqA, qqB, qqC]
 refine tk 9 rfl (v := ?v9) ?y9 ?z9
 case y9 => (intro w hSw; (try dsimp only at hSw); go_simp) <;> with_reducible rfl
 try simp only [Act.put, qqA, qqB, qqC]
 refine wpAnyH_ready (rs := [7]) (by kernel_rfl) (by simp) ?_
 refine (ac rfl (fun K hK => ?_) AllReadyH.nil)
 ·skip
  go_simp
  go_wp2_with (go_at_call 81; (with_reducible refine (addr_36 S0.out (by omega) x z s nn).mono ?_); rintro e w1 ⟨rfl, v1, s', m'⟩)
  have HO' := Lib.hid (m'.has HO.out NO.out)
  have NO' := Lib.hid (m'.far HO.out.1 NO.out)
  clear HO NO
  have HO := HO'
  have NO := NO'
  clear HO' NO'
  refine hK.out _ _ ?s10 (fun hNew => ?r10)
  case s10 => exact ⟨HO.out.2.1, s'.cp.1 14, trivial⟩
  clear hK K hHeld
  have hHeld := hNew
  clear hNew
  have M1 := Lib.hid (M0.out.trans m')
  obtain ⟨y1, hy⟩ : ∃ q_, q_ = y := ⟨_, rfl⟩
  rw [← hy] at s'
  have Y1 := Lib.hid hy
  have S1 := Lib.hid s'
  clear s' m' hy
  refine wpAnyH_ready (rs := [10]) (by kernel_rfl) (by simp) ?_
  refine (ac rfl (fun K hK => ?_) AllReadyH.nil)
  ·skip
   go_simp
   go_wp2_with (go_at_call 176; (with_reducible refine (read_p S1.out (by omega) _ (cb).1 (cb).2).mono ?_); rintro e w2 ⟨rfl, v2, s', m'⟩)
   have HO' := Lib.hid (m'.has HO.out NO.out)
   have NO' := Lib.hid (m'.far HO.out.1 NO.out)
   clear HO NO
   have HO := HO'
   have NO := NO'
   clear HO' NO'
   refine hK.out _ _ ?s11 (fun hNew => ?r11)
   case s11 => exact ⟨HO.out.2.1, s'.cp.1 14, trivial⟩
   clear hK K hHeld
   have hHeld := hNew
   clear hNew
   have M2 := Lib.hid (M1.out.trans m')
   obtain ⟨y2, hy⟩ : ∃ q_, q_ = rd 1 (65280 + y.s.r.c) y1 := ⟨_, rfl⟩
   rw [← hy] at s'
   have Y2 := Lib.hid hy
   have S2 := Lib.hid s'
   clear s' m' hy
   refine tk 11 rfl (v := ?v12) ?y12 ?z12
   case y12 => (intro w hSw; (try dsimp only at hSw); go_simp) <;> with_reducible rfl
   try simp only [Act.put, qqA, qqB, qqC]
   refine tk 12 rfl (v := ?v13) ?y13 ?z13
   case y13 => (intro w hSw; (try dsimp only at hSw); go_simp) <;> with_reducible rfl
   try simp only [Act.put, qqA, qqB, qqC]
   refine tk 13 rfl (v := ?v14) ?y14 ?z14
   case y14 => (intro w hSw; (try dsimp only at hSw); go_simp) <;> with_reducible rfl
   try simp only [Act.put, qqA, qqB, qqC]
   refine tk 14 rfl (v := ?v15) ?y15 ?z15
   case y15 => (intro w hSw; (try dsimp only at hSw); go_simp) <;> with_reducible rfl
   try simp only [Act.put, qqA, qqB, qqC]
   refine wpAnyH_ready (rs := [15]) (by kernel_rfl) (by simp) ?_
   refine (ac rfl (fun K hK => ?_) AllReadyH.nil)
   ·skip
    obtain ⟨hc, hf⟩ := S2.out.cp
    go_simp
    clear hc hf
    have q := S2.out.stA (y1.m (65280 + y.s.r.c)) (S1.out.okm _).1 (S1.out.okm _).2
    have s' := q.1
    have m' := q.2
    clear q
    have HO' := Lib.hid (m'.has HO.out NO.out)
    have NO' := Lib.hid (m'.far HO.out.1 NO.out)
    clear HO NO
    have HO := HO'
    have NO := NO'
    clear HO' NO'
    refine hK.out _ _ ?s16 (fun hNew => ?r16)
    case s16 => exact ⟨HO.out.2.1, s'.cp.1 14, trivial⟩
    clear hK K hHeld
    have hHeld := hNew
    clear hNew
    generalize World.setCell w2 ⟨P, 0, none⟩ (.int .u8 (y1.m (65280 + y.s.r.c))) = w3 at hHeld s' m' HO ⊢
    have M3 := Lib.hid (M2.out.trans m')
    obtain ⟨y3, hy⟩ : ∃ q_, q_ = setA (y1.m (65280 + y.s.r.c)) y2 := ⟨_, rfl⟩
    rw [← hy] at s'
    have Y3 := Lib.hid hy
    have S3 := Lib.hid s'
    clear s' m' hy
    refine wpAnyH_done (by kernel_rfl) ?_ _
    obtain ⟨hc, hf⟩ := S3.out.cp
    have ho := HO.out.2.1
    go_wp2
    first | go_end0 | refine bodyPost_ret (results_none rfl _ _ _) rfl ?_
    refine ⟨rfl, v2, ?_, M3.out⟩
    have q := S3.out
    have e := Y3.out.symm
    subst e
    have e := Y2.out.symm
    subst e
    have e := Y1.out.symm
    subst e
    exact Sys.mono (n' := n + 1) q (by omega)
set_option maxHeartbeats 2000000 in
theorem perf_38 (h0 : Sys procD ramC w P R M tb v y n) (hn : n < 950000) (x z s nn : Int) (n0 : 0 ≤ nn) (n1 : nn < 65536) (t : Bool) : Calls Tryz.prog 55 #[.pointer (some ⟨P, 0, none⟩), .agg #[.int .i64 38, .int .i64 x, .int .i64 z, .int .i64 s, .int .u16 nn], .bool t] w (PE procD ramC P R M tb v w (.tuple #[]) (setA (y.m nn) (rd 1 nn y)) (n + 1)) := by
 have hm := mR ⟨R, 0, none⟩
 have nb := And.intro n0 n1
 have S0 := Lib.hid (h0.below (own1 w (.cells #[.int .i64 38, .int .i64 x, .int .i64 z, .int .i64 s, .int .u16 nn] 44)))
 have M0 := Lib.hid (show PM P R M tb v w v (w.alloc (.cells #[.int .i64 38, .int .i64 x, .int .i64 z, .int .i64 s, .int .u16 nn] 44)) from PM.of (own1 w (.cells #[.int .i64 38, .int .i64 x, .int .i64 z, .int .i64 s, .int .u16 nn] 44)))
 have HO := Lib.hid (Has.new w #[.int .i64 38, .int .i64 x, .int .i64 z, .int .i64 s, .int .u16 nn] 44)
 have NO := Lib.hid (h0.new (Nat.le_refl w.heap.size))
 obtain ⟨hc, hf⟩ := S0.out.cp
 clear h0
 go_enter Tryz.func55, Tryz.ntmps55
 go_wp2
 generalize w.alloc (.cells #[.int .i64 38, .int .i64 x, .int .i64 z, .int .i64 s, .int .u16 nn] 44) = w0 at S0 M0 HO hc hf ⊢
 generalize w.heap.size = ob at HO NO ⊢
 have ho := HO.out.2.1
 have S0' := Lib.hid S0.out.drew
 have M0' := Lib.hid (M0.out.trans (PM.drew P R M tb v w0))
 have HO' := Lib.hid HO.out.drew
 clear ho HO
 have HO := HO'
 clear HO'
 clear hc hf
 refine wp_region_held_drew (S := (fun w' => (∀ j, w'.cell? ⟨ob, j, none⟩ = #[Value.int .i64 38, .int .i64 x, .int .i64 z, .int .i64 s, .int .u16 nn][j]?) ∧ (w'.cell? ⟨P, 14, none⟩ = some (.iface 31 (.pointer (some ⟨R, 0, none⟩)))) ∧ True)) (by kernel_rfl) ⟨HO.out.2.1, S0'.out.cp.1 14, trivial⟩ (fun hHeld => ?_)
 generalize World.drew w0 = u0 at hHeld S0' M0' HO ⊢
 clear S0 M0
 have S0 := S0'
 have M0 := M0'
 clear S0' M0'
 refine tk 0 rfl (v := ?v1) ?y1 ?z1
 case y1 => (intro w hSw; (try dsimp only at hSw); go_simp) <;> with_reducible rfl
 try simp only [Act.put, qqA, qqB, qqC]
 refine tk 1 rfl (v := ?v2) ?y2 ?z2
 case y2 => (intro w hSw; (try dsimp only at hSw); go_simp) <;> with_reducible rfl
 try simp only [Act.put, qqA, qqB, qqC]
 refine tk 2 rfl (v := ?v3) ?y3 ?z3
 case y3 => (intro w hSw; (try dsimp only at hSw); go_simp) <;> with_reducible rfl
 try simp only [Act.put, qqA, qqB, qqC]
 refine tk 3 rfl (v := ?v4) ?y4 ?z4
 case y4 => (intro w hSw; (try dsimp only at hSw); go_simp) <;> with_reducible rfl
 try simp only [Act.put, qqA, qqB, qqC]
 refine tk 4 rfl (v := ?v5) ?y5 ?z5
 case y5 => (intro w hSw; (try dsimp only at hSw); go_simp) <;> with_reducible rfl
 try simp only [Act.put, qqA, qqB, qqC]
 refine tk 5 rfl (v := ?v6) ?y6 ?z6
 case y6 => (intro w hSw; (try dsimp only at hSw); go_simp) <;> with_reducible rfl
 try simp only [Act.put, qqA, qqB, qqC]
 refine tk 6 rfl (v := ?v7) ?y7 ?z7
 case y7 => (intro w hSw; (try dsimp only at hSw); go_simp) <;> with_reducible rfl
 try simp only [Act.put, qqA, qqB, qqC]
 refine tk 8 rfl (v := ?v8) ?y8 ?z8
 case y8 => (intro w hSw; (try dsimp only at hSw); go_simp) <;> with_reducible rfl
 try simp only [Act.put, qqA, qqB, qqC]
 refine tk 9 rfl (v := ?v9) ?y9 ?z9
 case y9 => (intro w hSw; (try dsimp only at hSw); go_simp) <;> with_reducible rfl
 try simp only [Act.put, qqA, qqB, qqC]
 refine wpAnyH_ready (rs := [7]) (by kernel_rfl) (by simp) ?_
 refine (ac rfl (fun K hK => ?_) AllReadyH.nil)
 ·skip
  go_simp
  go_wp2_with (go_at_call 81; (with_reducible refine (addr_38 S0.out (by omega) x z s nn).mono ?_); rintro e w1 ⟨rfl, v1, s', m'⟩)
  have HO' := Lib.hid (m'.has HO.out NO.out)
  have NO' := Lib.hid (m'.far HO.out.1 NO.out)
  clear HO NO
  have HO := HO'
  have NO := NO'
  clear HO' NO'
  refine hK.out _ _ ?s10 (fun hNew => ?r10)
  case s10 => exact ⟨HO.out.2.1, s'.cp.1 14, trivial⟩
  clear hK K hHeld
  have hHeld := hNew
  clear hNew
  have M1 := Lib.hid (M0.out.trans m')
  obtain ⟨y1, hy⟩ : ∃ q_, q_ = y := ⟨_, rfl⟩
  rw [← hy] at s'
  have Y1 := Lib.hid hy
  have S1 := Lib.hid s'
  clear s' m' hy
  refine wpAnyH_ready (rs := [10]) (by kernel_rfl) (by simp) ?_
  refine (ac rfl (fun K hK => ?_) AllReadyH.nil)
  ·skip
   go_simp
   go_wp2_with (go_at_call 176; (with_reducible refine (read_p S1.out (by omega) _ (nb).1 (nb).2).mono ?_); rintro e w2 ⟨rfl, v2, s', m'⟩)
   have HO' := Lib.hid (m'.has HO.out NO.out)
   have NO' := Lib.hid (m'.far HO.out.1 NO.out)
   clear HO NO
   have HO := HO'
   have NO := NO'
   clear HO' NO'
   refine hK.out _ _ ?s11 (fun hNew => ?r11)
   case s11 => exact ⟨HO.out.2.1, s'.cp.1 14, trivial⟩
   clear hK K hHeld
   have hHeld := hNew
   clear hNew
   have M2 := Lib.hid (M1.out.trans m')
   obtain ⟨y2, hy⟩ : ∃ q_, q_ = rd 1 (nn) y1 := ⟨_, rfl⟩
   rw [← hy] at s'
   have Y2 := Lib.hid hy
   have S2 := Lib.hid s'
   clear s' m' hy
   refine tk 11 rfl (v := ?v12) ?y12 ?z12
   case y12 => (intro w hSw; (try dsimp only at hSw); go_simp) <;> with_reducible rfl
   try simp only [Act.put, qqA, qqB, qqC]
   refine tk 12 rfl (v := ?v13) ?y13 ?z13
   case y13 => (intro w hSw; (try dsimp only at hSw); go_simp) <;> with_reducible rfl
   try simp only [Act.put, qqA, qqB, qqC]
   refine tk 13 rfl (v := ?v14) ?y14 ?z14
   case y14 => (intro w hSw; (try dsimp only at hSw); go_simp) <;> with_reducible rfl
   try simp only [Act.put, qqA, qqB, qqC]
   refine tk 14 rfl (v := ?v15) ?y15 ?z15
   case y15 => (intro w hSw; (try dsimp only at hSw); go_simp) <;> with_reducible rfl
   try simp only [Act.put, qqA, qqB, qqC]
   refine wpAnyH_ready (rs := [15]) (by kernel_rfl) (by simp) ?_
   refine (ac rfl (fun K hK => ?_) AllReadyH.nil)
   ·skip
    obtain ⟨hc, hf⟩ := S2.out.cp
    go_simp
    clear hc hf
    have q := S2.out.stA (y1.m (nn)) (S1.out.okm _).1 (S1.out.okm _).2
    have s' := q.1
    have m' := q.2
    clear q
    have HO' := Lib.hid (m'.has HO.out NO.out)
    have NO' := Lib.hid (m'.far HO.out.1 NO.out)
    clear HO NO
    have HO := HO'
    have NO := NO'
    clear HO' NO'
    refine hK.out _ _ ?s16 (fun hNew => ?r16)
    case s16 => exact ⟨HO.out.2.1, s'.cp.1 14, trivial⟩
    clear hK K hHeld
    have hHeld := hNew
    clear hNew
    generalize World.setCell w2 ⟨P, 0, none⟩ (.int .u8 (y1.m (nn))) = w3 at hHeld s' m' HO ⊢
    have M3 := Lib.hid (M2.out.trans m')
    obtain ⟨y3, hy⟩ : ∃ q_, q_ = setA (y1.m (nn)) y2 := ⟨_, rfl⟩
    rw [← hy] at s'
    have Y3 := Lib.hid hy
    have S3 := Lib.hid s'
    clear s' m' hy
    refine wpAnyH_done (by kernel_rfl) ?_ _
    obtain ⟨hc, hf⟩ := S3.out.cp
    have ho := HO.out.2.1
    go_wp2
    first | go_end0 | refine bodyPost_ret (results_none rfl _ _ _) rfl ?_
    refine ⟨rfl, v2, ?_, M3.out⟩
    have q := S3.out
    have e := Y3.out.symm
    subst e
    have e := Y2.out.symm
    subst e
    have e := Y1.out.symm
    subst e
    exact Sys.mono (n' := n + 1) q (by omega)
set_option maxHeartbeats 2000000 in
theorem perf_33 (h0 : Sys procD ramC w P R M tb v y n) (hn : n < 950000) (x z s nn : Int) (t : Bool) : Calls Tryz.prog 55 #[.pointer (some ⟨P, 0, none⟩), .agg #[.int .i64 33, .int .i64 x, .int .i64 z, .int .i64 s, .int .u16 nn], .bool t] w (PE procD ramC P R M tb v w (.tuple #[]) (wr (thruV x y) y.s.r.a (thruS x y)) (n + 1)) := by
 have hm := mW ⟨R, 0, none⟩
 have ab := h0.ab
 have S0 := Lib.hid (h0.below (own1 w (.cells #[.int .i64 33, .int .i64 x, .int .i64 z, .int .i64 s, .int .u16 nn] 44)))
 have M0 := Lib.hid (show PM P R M tb v w v (w.alloc (.cells #[.int .i64 33, .int .i64 x, .int .i64 z, .int .i64 s, .int .u16 nn] 44)) from PM.of (own1 w (.cells #[.int .i64 33, .int .i64 x, .int .i64 z, .int .i64 s, .int .u16 nn] 44)))
 have HO := Lib.hid (Has.new w #[.int .i64 33, .int .i64 x, .int .i64 z, .int .i64 s, .int .u16 nn] 44)
 have NO := Lib.hid (h0.new (Nat.le_refl w.heap.size))
 obtain ⟨hc, hf⟩ := S0.out.cp
 clear h0
 go_enter Tryz.func55, Tryz.ntmps55
 go_wp2
 generalize w.alloc (.cells #[.int .i64 33, .int .i64 x, .int .i64 z, .int .i64 s, .int .u16 nn] 44) = w0 at S0 M0 HO hc hf ⊢
 generalize w.heap.size = ob at HO NO ⊢
 have ho := HO.out.2.1
 have S0' := Lib.hid S0.out.drew
 have M0' := Lib.hid (M0.out.trans (PM.drew P R M tb v w0))
 have HO' := Lib.hid HO.out.drew
 clear ho HO
 have HO := HO'
 clear HO'
 clear hc hf
 refine wp_region_held_drew (S := (fun w' => (∀ j, w'.cell? ⟨ob, j, none⟩ = #[Value.int .i64 33, .int .i64 x, .int .i64 z, .int .i64 s, .int .u16 nn][j]?) ∧ (w'.cell? ⟨P, 14, none⟩ = some (.iface 31 (.pointer (some ⟨R, 0, none⟩)))) ∧ (w'.cell? ⟨P, 0, none⟩ = some (.int .u8 y.s.r.a)) ∧ True)) (by kernel_rfl) ⟨HO.out.2.1, S0'.out.cp.1 14, S0'.out.cp.1 0, trivial⟩ (fun hHeld => ?_)
 generalize World.drew w0 = u0 at hHeld S0' M0' HO ⊢
 clear S0 M0
 have S0 := S0'
 have M0 := M0'
 clear S0' M0'
 refine tk 0 rfl (v := ?v1) ?y1 ?z1
 case y1 => (intro w hSw; (try dsimp only at hSw); go_simp) <;> with_reducible rfl
 try simp only [Act.put, qqA, qqB, qqC]
 refine tk 1 rfl (v := ?v2) ?y2 ?z2
 case y2 => (intro w hSw; (try dsimp only at hSw); go_simp) <;> with_reducible rfl
 try simp only [Act.put, qqA, qqB, qqC]
 refine tk 2 rfl (v := ?v3) ?y3 ?z3
 case y3 => (intro w hSw; (try dsimp only at hSw); go_simp) <;> with_reducible rfl
 try simp only [Act.put, qqA, qqB, qqC]
 refine tk 3 rfl (v := ?v4) ?y4 ?z4
 case y4 => (intro w hSw; (try dsimp only at hSw); go_simp) <;> with_reducible rfl
 try simp only [Act.put, qqA, qqB, qqC]
 refine tk 4 rfl (v := ?v5) ?y5 ?z5
 case y5 => (intro w hSw; (try dsimp only at hSw); go_simp) <;> with_reducible rfl
 try simp only [Act.put, qqA, qqB, qqC]
 refine tk 5 rfl (v := ?v6) ?y6 ?z6
 case y6 => (intro w hSw; (try dsimp only at hSw); go_simp) <;> with_reducible rfl
 try simp only [Act.put, qqA, qqB, qqC]
 refine tk 7 rfl (v := ?v7) ?y7 ?z7
 case y7 => (intro w hSw; (try dsimp only at hSw); go_simp) <;> with_reducible rfl
 try simp only [Act.put, qqA, qqB, qqC]
 refine tk 8 rfl (v := ?v8) ?y8 ?z8
 case y8 => (intro w hSw; (try dsimp only at hSw); go_simp) <;> with_reducible rfl
 try simp only [Act.put, qqA, qqB, qqC]
 refine tk 9 rfl (v := ?v9) ?y9 ?z9
 case y9 => (intro w hSw; (try dsimp only at hSw); go_simp) <;> with_reducible rfl
 try simp only [Act.put, qqA, qqB, qqC]
 refine tk 10 rfl (v := ?v10) ?y10 ?z10
 case y10 => (intro w hSw; (try dsimp only at hSw); go_simp) <;> with_reducible rfl
 try simp only [Act.put, qqA, qqB, qqC]
 refine tk 11 rfl (v := ?v11) ?y11 ?z11
 case y11 => (intro w hSw; (try dsimp only at hSw); go_simp) <;> with_reducible rfl
 try simp only [Act.put, qqA, qqB, qqC]
 refine tk 12 rfl (v := ?v12) ?y12 ?z12
 case y12 => (intro w hSw; (try dsimp only at hSw); go_simp) <;> with_reducible rfl
 try simp only [Act.put, qqA, qqB, qqC]
 refine tk 13 rfl (v := ?v13) ?y13 ?z13
 case y13 => (intro w hSw; (try dsimp only at hSw); go_simp) <;> with_reducible rfl
 try simp only [Act.put, qqA, qqB, qqC]
 refine tk 14 rfl (v := ?v14) ?y14 ?z14
 case y14 => (intro w hSw; (try dsimp only at hSw); go_simp) <;> with_reducible rfl
 try simp only [Act.put, qqA, qqB, qqC]
 refine wpAnyH_ready (rs := [6]) (by kernel_rfl) (by simp) ?_
 refine (ac rfl (fun K hK => ?_) AllReadyH.nil)
 ·skip
  go_simp
  go_wp2_with (go_at_call 81; (with_reducible refine (addr_33 S0.out (by omega) x z s nn).mono ?_); rintro e w1 ⟨rfl, v1, s', m'⟩)
  have HO' := Lib.hid (m'.has HO.out NO.out)
  have NO' := Lib.hid (m'.far HO.out.1 NO.out)
  clear HO NO
  have HO := HO'
  have NO := NO'
  clear HO' NO'
  refine hK.out _ _ ?s15 (fun hNew => ?r15)
  case s15 => exact ⟨HO.out.2.1, s'.cp.1 14, (s'.cp.1 0).trans (by rw [thruS_a]; rfl), trivial⟩
  clear hK K hHeld
  have hHeld := hNew
  clear hNew
  have M1 := Lib.hid (M0.out.trans m')
  obtain ⟨y1, hy⟩ : ∃ q_, q_ = thruS x y := ⟨_, rfl⟩
  rw [← hy] at s'
  have Y1 := Lib.hid hy
  have S1 := Lib.hid s'
  clear s' m' hy
  refine wpAnyH_ready (rs := [15]) (by kernel_rfl) (by simp) ?_
  refine (ac rfl (fun K hK => ?_) AllReadyH.nil)
  ·skip
   go_simp
   go_wp2_with (go_at_call 177; (with_reducible refine (write_p S1.out (by omega) _ y.s.r.a (thruV_b S0.out x).1 (thruV_b S0.out x).2 ab.1 ab.2).mono ?_); rintro e w2 ⟨rfl, v2, s', m'⟩)
   have HO' := Lib.hid (m'.has HO.out NO.out)
   have NO' := Lib.hid (m'.far HO.out.1 NO.out)
   clear HO NO
   have HO := HO'
   have NO := NO'
   clear HO' NO'
   refine hK.out _ _ ?s16 (fun hNew => ?r16)
   case s16 => exact ⟨HO.out.2.1, s'.cp.1 14, (s'.cp.1 0).trans (by rw [show (wr (thruV x y) y.s.r.a y1).s = y1.s from rfl, Y1.out, thruS_a]; rfl), trivial⟩
   clear hK K hHeld
   have hHeld := hNew
   clear hNew
   have M2 := Lib.hid (M1.out.trans m')
   obtain ⟨y2, hy⟩ : ∃ q_, q_ = wr (thruV x y) y.s.r.a y1 := ⟨_, rfl⟩
   rw [← hy] at s'
   have Y2 := Lib.hid hy
   have S2 := Lib.hid s'
   clear s' m' hy
   refine wpAnyH_done (by kernel_rfl) ?_ _
   obtain ⟨hc, hf⟩ := S2.out.cp
   have ho := HO.out.2.1
   go_wp2
   first | go_end0 | refine bodyPost_ret (results_none rfl _ _ _) rfl ?_
   refine ⟨rfl, v2, ?_, M2.out⟩
   have q := S2.out
   have e := Y2.out.symm
   subst e
   have e := Y1.out.symm
   subst e
   exact Sys.mono (n' := n + 1) q (by omega)
set_option maxHeartbeats 2000000 in
theorem perf_35 (h0 : Sys procD ramC w P R M tb v y n) (hn : n < 950000) (x z s nn : Int) (n0 : 0 ≤ nn) (n1 : nn < 256) (t : Bool) : Calls Tryz.prog 55 #[.pointer (some ⟨P, 0, none⟩), .agg #[.int .i64 35, .int .i64 x, .int .i64 z, .int .i64 s, .int .u16 nn], .bool t] w (PE procD ramC P R M tb v w (.tuple #[]) (wr (65280 + nn) y.s.r.a y) (n + 1)) := by
 have hm := mW ⟨R, 0, none⟩
 have ab := h0.ab
 have nb : 0 ≤ 65280 + nn ∧ 65280 + nn < 65536 := by omega
 have S0 := Lib.hid (h0.below (own1 w (.cells #[.int .i64 35, .int .i64 x, .int .i64 z, .int .i64 s, .int .u16 nn] 44)))
 have M0 := Lib.hid (show PM P R M tb v w v (w.alloc (.cells #[.int .i64 35, .int .i64 x, .int .i64 z, .int .i64 s, .int .u16 nn] 44)) from PM.of (own1 w (.cells #[.int .i64 35, .int .i64 x, .int .i64 z, .int .i64 s, .int .u16 nn] 44)))
 have HO := Lib.hid (Has.new w #[.int .i64 35, .int .i64 x, .int .i64 z, .int .i64 s, .int .u16 nn] 44)
 have NO := Lib.hid (h0.new (Nat.le_refl w.heap.size))
 obtain ⟨hc, hf⟩ := S0.out.cp
 clear h0
 go_enter Tryz.func55, Tryz.ntmps55
 go_wp2
 generalize w.alloc (.cells #[.int .i64 35, .int .i64 x, .int .i64 z, .int .i64 s, .int .u16 nn] 44) = w0 at S0 M0 HO hc hf ⊢
 generalize w.heap.size = ob at HO NO ⊢
 have ho := HO.out.2.1
 have S0' := Lib.hid S0.out.drew
 have M0' := Lib.hid (M0.out.trans (PM.drew P R M tb v w0))
 have HO' := Lib.hid HO.out.drew
 clear ho HO
 have HO := HO'
 clear HO'
 clear hc hf
 refine wp_region_held_drew (S := (fun w' => (∀ j, w'.cell? ⟨ob, j, none⟩ = #[Value.int .i64 35, .int .i64 x, .int .i64 z, .int .i64 s, .int .u16 nn][j]?) ∧ (w'.cell? ⟨P, 14, none⟩ = some (.iface 31 (.pointer (some ⟨R, 0, none⟩)))) ∧ (w'.cell? ⟨P, 0, none⟩ = some (.int .u8 y.s.r.a)) ∧ True)) (by kernel_rfl) ⟨HO.out.2.1, S0'.out.cp.1 14, S0'.out.cp.1 0, trivial⟩ (fun hHeld => ?_)
 generalize World.drew w0 = u0 at hHeld S0' M0' HO ⊢
 clear S0 M0
 have S0 := S0'
 have M0 := M0'
 clear S0' M0'
 refine tk 0 rfl (v := ?v1) ?y1 ?z1
 case y1 => (intro w hSw; (try dsimp only at hSw); go_simp) <;> with_reducible rfl
 try simp only [Act.put, qqA, qqB, qqC]
 refine tk 1 rfl (v := ?v2) ?y2 ?z2
 case y2 => (intro w hSw; (try dsimp only at hSw); go_simp) <;> with_reducible rfl
 try simp only [Act.put, qqA, qqB, qqC]
 refine tk 2 rfl (v := ?v3) ?y3 ?z3
 case y3 => (intro w hSw; (try dsimp only at hSw); go_simp) <;> with_reducible rfl
 try simp only [Act.put, qqA, qqB, qqC]
 refine tk 3 rfl (v := ?v4) ?y4 ?z4
 case y4 => (intro w hSw; (try dsimp only at hSw); go_simp) <;> with_reducible rfl
 try simp only [Act.put, qqA, qqB, qqC]
 refine tk 4 rfl (v := ?v5) ?y5 ?z5
 case y5 => (intro w hSw; (try dsimp only at hSw); go_simp) <;> with_reducible rfl
 try simp only [Act.put, qqA, qqB, qqC]
 refine tk 5 rfl (v := ?v6) ?y6 ?z6
 case y6 => (intro w hSw; (try dsimp only at hSw); go_simp) <;> with_reducible rfl
 try simp only [Act.put, qqA, qqB, qqC]
 refine tk 7 rfl (v := ?v7) ?y7 ?z7
 case y7 => (intro w hSw; (try dsimp only at hSw); go_simp) <;> with_reducible rfl
 try simp only [Act.put, qqA, qqB, qqC]
 refine tk 8 rfl (v := ?v8) ?y8 ?z8
 case y8 => (intro w hSw; (try dsimp only at hSw); go_simp) <;> with_reducible rfl
 try simp only [Act.put, qqA, qqB, qqC]
 refine tk 9 rfl (v := ?v9) ?y9 ?z9
 case y9 => (intro w hSw; (try dsimp only at hSw); go_simp) <;> with_reducible rfl
 try simp only [Act.put, qqA, qqB, qqC]
 refine tk 10 rfl (v := ?v10) ?y10 ?z10
 case y10 => (intro w hSw; (try dsimp only at hSw); go_simp) <;> with_reducible rfl
 try simp only [Act.put, qqA, qqB, qqC]
 refine tk 11 rfl (v := ?v11) ?y11 ?z11
 case y11 => (intro w hSw; (try dsimp only at hSw); go_simp) <;> with_reducible rfl
 try simp only [Act.put, qqA, qqB, qqC]
 refine tk 12 rfl (v := ?v12) ?y12 ?z12
 case y12 => (intro w hSw; (try dsimp only at hSw); go_simp) <;> with_reducible rfl
 try simp only [Act.put, qqA, qqB, qqC]
 refine tk 13 rfl (v := ?v13) ?y13 ?z13
 case y13 => (intro w hSw; (try dsimp only at hSw); go_simp) <;> with_reducible rfl
 try simp only [Act.put, qqA, qqB, qqC]
 refine tk 14 rfl (v := ?v14) ?y14 ?z14
 case y14 => (intro w hSw; (try dsimp only at hSw); go_simp) <;> with_reducible rfl
 try simp only [Act.put, qqA, qqB, qqC]
 refine wpAnyH_ready (rs := [6]) (by kernel_rfl) (by simp) ?_
 refine (ac rfl (fun K hK => ?_) AllReadyH.nil)
 ·skip
  go_simp
  go_wp2_with (go_at_call 81; (with_reducible refine (addr_35 S0.out (by omega) x z s nn n0 n1).mono ?_); rintro e w1 ⟨rfl, v1, s', m'⟩)
  have HO' := Lib.hid (m'.has HO.out NO.out)
  have NO' := Lib.hid (m'.far HO.out.1 NO.out)
  clear HO NO
  have HO := HO'
  have NO := NO'
  clear HO' NO'
  refine hK.out _ _ ?s15 (fun hNew => ?r15)
  case s15 => exact ⟨HO.out.2.1, s'.cp.1 14, s'.cp.1 0, trivial⟩
  clear hK K hHeld
  have hHeld := hNew
  clear hNew
  have M1 := Lib.hid (M0.out.trans m')
  obtain ⟨y1, hy⟩ : ∃ q_, q_ = y := ⟨_, rfl⟩
  rw [← hy] at s'
  have Y1 := Lib.hid hy
  have S1 := Lib.hid s'
  clear s' m' hy
  refine wpAnyH_ready (rs := [15]) (by kernel_rfl) (by simp) ?_
  refine (ac rfl (fun K hK => ?_) AllReadyH.nil)
  ·skip
   go_simp
   go_wp2_with (go_at_call 177; (with_reducible refine (write_p S1.out (by omega) _ y.s.r.a (nb).1 (nb).2 ab.1 ab.2).mono ?_); rintro e w2 ⟨rfl, v2, s', m'⟩)
   have HO' := Lib.hid (m'.has HO.out NO.out)
   have NO' := Lib.hid (m'.far HO.out.1 NO.out)
   clear HO NO
   have HO := HO'
   have NO := NO'
   clear HO' NO'
   refine hK.out _ _ ?s16 (fun hNew => ?r16)
   case s16 => exact ⟨HO.out.2.1, s'.cp.1 14, (s'.cp.1 0).trans (by rw [show (wr (65280 + nn) y.s.r.a y1).s = y1.s from rfl, Y1.out]; rfl), trivial⟩
   clear hK K hHeld
   have hHeld := hNew
   clear hNew
   have M2 := Lib.hid (M1.out.trans m')
   obtain ⟨y2, hy⟩ : ∃ q_, q_ = wr (65280 + nn) y.s.r.a y1 := ⟨_, rfl⟩
   rw [← hy] at s'
   have Y2 := Lib.hid hy
   have S2 := Lib.hid s'
   clear s' m' hy
   refine wpAnyH_done (by kernel_rfl) ?_ _
   obtain ⟨hc, hf⟩ := S2.out.cp
   have ho := HO.out.2.1
   go_wp2
   first | go_end0 | refine bodyPost_ret (results_none rfl _ _ _) rfl ?_
   refine ⟨rfl, v2, ?_, M2.out⟩
   have q := S2.out
   have e := Y2.out.symm
   subst e
   have e := Y1.out.symm
   subst e
   exact Sys.mono (n' := n + 1) q (by omega)
set_option maxHeartbeats 2000000 in
theorem perf_37 (h0 : Sys procD ramC w P R M tb v y n) (hn : n < 950000) (x z s nn : Int) (t : Bool) : Calls Tryz.prog 55 #[.pointer (some ⟨P, 0, none⟩), .agg #[.int .i64 37, .int .i64 x, .int .i64 z, .int .i64 s, .int .u16 nn], .bool t] w (PE procD ramC P R M tb v w (.tuple #[]) (wr (65280 + y.s.r.c) y.s.r.a y) (n + 1)) := by
 have hm := mW ⟨R, 0, none⟩
 have ab := h0.ab
 have cb0 := h0.cb
 have cb : 0 ≤ 65280 + y.s.r.c ∧ 65280 + y.s.r.c < 65536 := by omega
 have S0 := Lib.hid (h0.below (own1 w (.cells #[.int .i64 37, .int .i64 x, .int .i64 z, .int .i64 s, .int .u16 nn] 44)))
 have M0 := Lib.hid (show PM P R M tb v w v (w.alloc (.cells #[.int .i64 37, .int .i64 x, .int .i64 z, .int .i64 s, .int .u16 nn] 44)) from PM.of (own1 w (.cells #[.int .i64 37, .int .i64 x, .int .i64 z, .int .i64 s, .int .u16 nn] 44)))
 have HO := Lib.hid (Has.new w #[.int .i64 37, .int .i64 x, .int .i64 z, .int .i64 s, .int .u16 nn] 44)
 have NO := Lib.hid (h0.new (Nat.le_refl w.heap.size))
 obtain ⟨hc, hf⟩ := S0.out.cp
 clear h0
 go_enter Tryz.func55, Tryz.ntmps55
 go_wp2
 generalize w.alloc (.cells #[.int .i64 37, .int .i64 x, .int .i64 z, .int .i64 s, .int .u16 nn] 44) = w0 at S0 M0 HO hc hf ⊢
 generalize w.heap.size = ob at HO NO ⊢
 have ho := HO.out.2.1
 have S0' := Lib.hid S0.out.drew
 have M0' := Lib.hid (M0.out.trans (PM.drew P R M tb v w0))
 have HO' := Lib.hid HO.out.drew
 clear ho HO
 have HO := HO'
 clear HO'
 clear hc hf
 refine wp_region_held_drew (S := (fun w' => (∀ j, w'.cell? ⟨ob, j, none⟩ = #[Value.int .i64 37, .int .i64 x, .int .i64 z, .int .i64 s, .int .u16 nn][j]?) ∧ (w'.cell? ⟨P, 14, none⟩ = some (.iface 31 (.pointer (some ⟨R, 0, none⟩)))) ∧ (w'.cell? ⟨P, 0, none⟩ = some (.int .u8 y.s.r.a)) ∧ True)) (by kernel_rfl) ⟨HO.out.2.1, S0'.out.cp.1 14, S0'.out.cp.1 0, trivial⟩ (fun hHeld => ?_)
 generalize World.drew w0 = u0 at hHeld S0' M0' HO ⊢
 clear S0 M0
 have S0 := S0'
 have M0 := M0'
 clear S0' M0'
 refine tk 0 rfl (v := ?v1) ?y1 ?z1
 case y1 => (intro w hSw; (try dsimp only at hSw); go_simp) <;> with_reducible rfl
 try simp only [Act.put, qqA, qqB, qqC]
 refine tk 1 rfl (v := ?v2) ?y2 ?z2
 case y2 => (intro w hSw; (try dsimp only at hSw); go_simp) <;> with_reducible rfl
 try simp only [Act.put, qqA, qqB, qqC]
 refine tk 2 rfl (v := ?v3) ?y3 ?z3
 case y3 => (intro w hSw; (try dsimp only at hSw); go_simp) <;> with_reducible rfl
 try simp only [Act.put, qqA, qqB, qqC]
 refine tk 3 rfl (v := ?v4) ?y4 ?z4
 case y4 => (intro w hSw; (try dsimp only at hSw); go_simp) <;> with_reducible rfl
 try simp only [Act.put, qqA, qqB, qqC]
 refine tk 4 rfl (v := ?v5) ?y5 ?z5
 case y5 => (intro w hSw; (try dsimp only at hSw); go_simp) <;> with_reducible rfl
 try simp only [Act.put, qqA, qqB, qqC]
 refine tk 5 rfl (v := ?v6) ?y6 ?z6
 case y6 => (intro w hSw; (try dsimp only at hSw); go_simp) <;> with_reducible rfl
 try simp only [Act.put, qqA, qqB, qqC]
 refine tk 7 rfl (v := ?v7) ?y7 ?z7
 case y7 => (intro w hSw; (try dsimp only at hSw); go_simp) <;> with_reducible rfl
 try simp only [Act.put, qqA, qqB, qqC]
 refine tk 8 rfl (v := ?v8) ?y8 ?z8
 case y8 => (intro w hSw; (try dsimp only at hSw); go_simp) <;> with_reducible rfl
 try simp only [Act.put, qqA, qqB, qqC]
 refine tk 9 rfl (v := ?v9) ?y9 ?z9
 case y9 => (intro w hSw; (try dsimp only at hSw); go_simp) <;> with_reducible rfl
 try simp only [Act.put, qqA, qqB, qqC]
 refine tk 10 rfl (v := ?v10) ?y10 ?z10
 case y10 => (intro w hSw; (try dsimp only at hSw); go_simp) <;> with_reducible rfl
 try simp only [Act.put, qqA, qqB, qqC]
 refine tk 11 rfl (v := ?v11) ?y11 ?z11
 case y11 => (intro w hSw; (try dsimp only at hSw); go_simp) <;> with_reducible rfl
 try simp only [Act.put, qqA, qqB, qqC]
 refine tk 12 rfl (v := ?v12) ?y12 ?z12
 case y12 => (intro w hSw; (try dsimp only at hSw); go_simp) <;> with_reducible rfl
 try simp only [Act.put, qqA, qqB, qqC]
 refine tk 13 rfl (v := ?v13) ?y13 ?z13
 case y13 => (intro w hSw; (try dsimp only at hSw); go_simp) <;> with_reducible rfl
 try simp only [Act.put, qqA, qqB, qqC]
 refine tk 14 rfl (v := ?v14) ?y14 ?z14
 case y14 => (intro w hSw; (try dsimp only at hSw); go_simp) <;> with_reducible rfl
 try simp only [Act.put, qqA, qqB, qqC]
 refine wpAnyH_ready (rs := [6]) (by kernel_rfl) (by simp) ?_
 refine (ac rfl (fun K hK => ?_) AllReadyH.nil)
 ·skip
  go_simp
  go_wp2_with (go_at_call 81; (with_reducible refine (addr_37 S0.out (by omega) x z s nn).mono ?_); rintro e w1 ⟨rfl, v1, s', m'⟩)
  have HO' := Lib.hid (m'.has HO.out NO.out)
  have NO' := Lib.hid (m'.far HO.out.1 NO.out)
  clear HO NO
  have HO := HO'
  have NO := NO'
  clear HO' NO'
  refine hK.out _ _ ?s15 (fun hNew => ?r15)
  case s15 => exact ⟨HO.out.2.1, s'.cp.1 14, s'.cp.1 0, trivial⟩
  clear hK K hHeld
  have hHeld := hNew
  clear hNew
  have M1 := Lib.hid (M0.out.trans m')
  obtain ⟨y1, hy⟩ : ∃ q_, q_ = y := ⟨_, rfl⟩
  rw [← hy] at s'
  have Y1 := Lib.hid hy
  have S1 := Lib.hid s'
  clear s' m' hy
  refine wpAnyH_ready (rs := [15]) (by kernel_rfl) (by simp) ?_
  refine (ac rfl (fun K hK => ?_) AllReadyH.nil)
  ·skip
   go_simp
   go_wp2_with (go_at_call 177; (with_reducible refine (write_p S1.out (by omega) _ y.s.r.a (cb).1 (cb).2 ab.1 ab.2).mono ?_); rintro e w2 ⟨rfl, v2, s', m'⟩)
   have HO' := Lib.hid (m'.has HO.out NO.out)
   have NO' := Lib.hid (m'.far HO.out.1 NO.out)
   clear HO NO
   have HO := HO'
   have NO := NO'
   clear HO' NO'
   refine hK.out _ _ ?s16 (fun hNew => ?r16)
   case s16 => exact ⟨HO.out.2.1, s'.cp.1 14, (s'.cp.1 0).trans (by rw [show (wr (65280 + y.s.r.c) y.s.r.a y1).s = y1.s from rfl, Y1.out]; rfl), trivial⟩
   clear hK K hHeld
   have hHeld := hNew
   clear hNew
   have M2 := Lib.hid (M1.out.trans m')
   obtain ⟨y2, hy⟩ : ∃ q_, q_ = wr (65280 + y.s.r.c) y.s.r.a y1 := ⟨_, rfl⟩
   rw [← hy] at s'
   have Y2 := Lib.hid hy
   have S2 := Lib.hid s'
   clear s' m' hy
   refine wpAnyH_done (by kernel_rfl) ?_ _
   obtain ⟨hc, hf⟩ := S2.out.cp
   have ho := HO.out.2.1
   go_wp2
   first | go_end0 | refine bodyPost_ret (results_none rfl _ _ _) rfl ?_
   refine ⟨rfl, v2, ?_, M2.out⟩
   have q := S2.out
   have e := Y2.out.symm
   subst e
   have e := Y1.out.symm
   subst e
   exact Sys.mono (n' := n + 1) q (by omega)
set_option maxHeartbeats 2000000 in
theorem perf_39 (h0 : Sys procD ramC w P R M tb v y n) (hn : n < 950000) (x z s nn : Int) (n0 : 0 ≤ nn) (n1 : nn < 65536) (t : Bool) : Calls Tryz.prog 55 #[.pointer (some ⟨P, 0, none⟩), .agg #[.int .i64 39, .int .i64 x, .int .i64 z, .int .i64 s, .int .u16 nn], .bool t] w (PE procD ramC P R M tb v w (.tuple #[]) (wr nn y.s.r.a y) (n + 1)) := by
 have hm := mW ⟨R, 0, none⟩
 have ab := h0.ab
 have nb := And.intro n0 n1
 have S0 := Lib.hid (h0.below (own1 w (.cells #[.int .i64 39, .int .i64 x, .int .i64 z, .int .i64 s, .int .u16 nn] 44)))
 have M0 := Lib.hid (show PM P R M tb v w v (w.alloc (.cells #[.int .i64 39, .int .i64 x, .int .i64 z, .int .i64 s, .int .u16 nn] 44)) from PM.of (own1 w (.cells #[.int .i64 39, .int .i64 x, .int .i64 z, .int .i64 s, .int .u16 nn] 44)))
 have HO := Lib.hid (Has.new w #[.int .i64 39, .int .i64 x, .int .i64 z, .int .i64 s, .int .u16 nn] 44)
 have NO := Lib.hid (h0.new (Nat.le_refl w.heap.size))
 obtain ⟨hc, hf⟩ := S0.out.cp
 clear h0
 go_enter Tryz.func55, Tryz.ntmps55
 go_wp2
 generalize w.alloc (.cells #[.int .i64 39, .int .i64 x, .int .i64 z, .int .i64 s, .int .u16 nn] 44) = w0 at S0 M0 HO hc hf ⊢
 generalize w.heap.size = ob at HO NO ⊢
 have ho := HO.out.2.1
 have S0' := Lib.hid S0.out.drew
 have M0' := Lib.hid (M0.out.trans (PM.drew P R M tb v w0))
 have HO' := Lib.hid HO.out.drew
 clear ho HO
 have HO := HO'
 clear HO'
 clear hc hf
 refine wp_region_held_drew (S := (fun w' => (∀ j, w'.cell? ⟨ob, j, none⟩ = #[Value.int .i64 39, .int .i64 x, .int .i64 z, .int .i64 s, .int .u16 nn][j]?) ∧ (w'.cell? ⟨P, 14, none⟩ = some (.iface 31 (.pointer (some ⟨R, 0, none⟩)))) ∧ (w'.cell? ⟨P, 0, none⟩ = some (.int .u8 y.s.r.a)) ∧ True)) (by kernel_rfl) ⟨HO.out.2.1, S0'.out.cp.1 14, S0'.out.cp.1 0, trivial⟩ (fun hHeld => ?_)
 generalize World.drew w0 = u0 at hHeld S0' M0' HO ⊢
 clear S0 M0
 have S0 := S0'
 have M0 := M0'
 clear S0' M0'
 refine tk 0 rfl (v := ?v1) ?y1 ?z1
 case y1 => (intro w hSw; (try dsimp only at hSw); go_simp) <;> with_reducible rfl
 try simp only [Act.put, qqA, qqB, qqC]
 refine tk 1 rfl (v := ?v2) ?y2 ?z2
 case y2 => (intro w hSw; (try dsimp only at hSw); go_simp) <;> with_reducible rfl
 try simp only [Act.put, qqA, qqB, qqC]
 refine tk 2 rfl (v := ?v3) ?y3 ?z3
 case y3 => (intro w hSw; (try dsimp only at hSw); go_simp) <;> with_reducible rfl
 try simp only [Act.put, qqA, qqB, qqC]
 refine tk 3 rfl (v := ?v4) ?y4 ?z4
 case y4 => (intro w hSw; (try dsimp only at hSw); go_simp) <;> with_reducible rfl
 try simp only [Act.put, qqA, qqB, qqC]
 refine tk 4 rfl (v := ?v5) ?y5 ?z5
 case y5 => (intro w hSw; (try dsimp only at hSw); go_simp) <;> with_reducible rfl
 try simp only [Act.put, qqA, qqB, qqC]
 refine tk 5 rfl (v := ?v6) ?y6 ?z6
 case y6 => (intro w hSw; (try dsimp only at hSw); go_simp) <;> with_reducible rfl
 try simp only [Act.put, qqA, qqB, qqC]
 refine tk 7 rfl (v := ?v7) ?y7 ?z7
 case y7 => (intro w hSw; (try dsimp only at hSw); go_simp) <;> with_reducible rfl
 try simp only [Act.put, qqA, qqB, qqC]
 refine tk 8 rfl (v := ?v8) ?y8 ?z8
 case y8 => (intro w hSw; (try dsimp only at hSw); go_simp) <;> with_reducible rfl
 try simp only [Act.put, qqA, qqB, qqC]
 refine tk 9 rfl (v := ?v9) ?y9 ?z9
 case y9 => (intro w hSw; (try dsimp only at hSw); go_simp) <;> with_reducible rfl
 try simp only [Act.put, qqA, qqB, qqC]
 refine tk 10 rfl (v := ?v10) ?y10 ?z10
 case y10 => (intro w hSw; (try dsimp only at hSw); go_simp) <;> with_reducible rfl
 try simp only [Act.put, qqA, qqB, qqC]
 refine tk 11 rfl (v := ?v11) ?y11 ?z11
 case y11 => (intro w hSw; (try dsimp only at hSw); go_simp) <;> with_reducible rfl
 try simp only [Act.put, qqA, qqB, qqC]
 refine tk 12 rfl (v := ?v12) ?y12 ?z12
 case y12 => (intro w hSw; (try dsimp only at hSw); go_simp) <;> with_reducible rfl
 try simp only [Act.put, qqA, qqB, qqC]
 refine tk 13 rfl (v := ?v13) ?y13 ?z13
 case y13 => (intro w hSw; (try dsimp only at hSw); go_simp) <;> with_reducible rfl
 try simp only [Act.put, qqA, qqB, qqC]
 refine tk 14 rfl (v := ?v14) ?y14 ?z14
 case y14 => (intro w hSw; (try dsimp only at hSw); go_simp) <;> with_reducible rfl
 try simp only [Act.put, qqA, qqB, qqC]
 refine wpAnyH_ready (rs := [6]) (by kernel_rfl) (by simp) ?_
 refine (ac rfl (fun K hK => ?_) AllReadyH.nil)
 ·skip
  go_simp
  go_wp2_with (go_at_call 81; (with_reducible refine (addr_39 S0.out (by omega) x z s nn).mono ?_); rintro e w1 ⟨rfl, v1, s', m'⟩)
  have HO' := Lib.hid (m'.has HO.out NO.out)
  have NO' := Lib.hid (m'.far HO.out.1 NO.out)
  clear HO NO
  have HO := HO'
  have NO := NO'
  clear HO' NO'
  refine hK.out _ _ ?s15 (fun hNew => ?r15)
  case s15 => exact ⟨HO.out.2.1, s'.cp.1 14, s'.cp.1 0, trivial⟩
  clear hK K hHeld
  have hHeld := hNew
  clear hNew
  have M1 := Lib.hid (M0.out.trans m')
  obtain ⟨y1, hy⟩ : ∃ q_, q_ = y := ⟨_, rfl⟩
  rw [← hy] at s'
  have Y1 := Lib.hid hy
  have S1 := Lib.hid s'
  clear s' m' hy
  refine wpAnyH_ready (rs := [15]) (by kernel_rfl) (by simp) ?_
  refine (ac rfl (fun K hK => ?_) AllReadyH.nil)
  ·skip
   go_simp
   go_wp2_with (go_at_call 177; (with_reducible refine (write_p S1.out (by omega) _ y.s.r.a (nb).1 (nb).2 ab.1 ab.2).mono ?_); rintro e w2 ⟨rfl, v2, s', m'⟩)
   have HO' := Lib.hid (m'.has HO.out NO.out)
   have NO' := Lib.hid (m'.far HO.out.1 NO.out)
   clear HO NO
   have HO := HO'
   have NO := NO'
   clear HO' NO'
   refine hK.out _ _ ?s16 (fun hNew => ?r16)
   case s16 => exact ⟨HO.out.2.1, s'.cp.1 14, (s'.cp.1 0).trans (by rw [show (wr (nn) y.s.r.a y1).s = y1.s from rfl, Y1.out]; rfl), trivial⟩
   clear hK K hHeld
   have hHeld := hNew
   clear hNew
   have M2 := Lib.hid (M1.out.trans m')
   obtain ⟨y2, hy⟩ : ∃ q_, q_ = wr (nn) y.s.r.a y1 := ⟨_, rfl⟩
   rw [← hy] at s'
   have Y2 := Lib.hid hy
   have S2 := Lib.hid s'
   clear s' m' hy
   refine wpAnyH_done (by kernel_rfl) ?_ _
   obtain ⟨hc, hf⟩ := S2.out.cp
   have ho := HO.out.2.1
   go_wp2
   first | go_end0 | refine bodyPost_ret (results_none rfl _ _ _) rfl ?_
   refine ⟨rfl, v2, ?_, M2.out⟩
   have q := S2.out
   have e := Y2.out.symm
   subst e
   have e := Y1.out.symm
   subst e
   exact Sys.mono (n' := n + 1) q (by omega)
end
end Go.Proofs.YtngdogldgcgnjaaGreat
