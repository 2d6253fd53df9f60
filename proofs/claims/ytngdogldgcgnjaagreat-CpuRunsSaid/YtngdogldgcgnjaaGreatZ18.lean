/-
  What perform does, where it copies A: for every world; the processor is there.
-/
import Derived.Test.YtngdogldgcgnjaaGreatZ16
set_option maxRecDepth 100000
set_option maxHeartbeats 8000000
namespace Go.Proofs.YtngdogldgcgnjaaGreat
open Go.ChangeShapes Go.WideShapes Go.ChangeAt Go.RowKit
open Reg
set_option linter.unusedVariables false
section
variable {w : World} {P R M tb n : Nat} {v : Value} {y : Sy}
theorem thruS_a (x : Int) (y : Sy) : (thruS x y).s.r.a = y.s.r.a := by
 unfold thruS; repeat (first | rfl | split)
theorem thruS_m (x : Int) (y : Sy) : (thruS x y).m = y.m := by
 unfold thruS; repeat (first | rfl | split)
theorem perf_27 (h0 : Sys procD ramC w P R M tb v y n) (hn : n < 950000) (x z s nn : Int) (t : Bool) : Calls Tryz.prog 55 #[.pointer (some ⟨P, 0, none⟩), .agg #[.int .i64 27, .int .i64 x, .int .i64 z, .int .i64 s, .int .u16 nn], .bool t] w (PE procD ramC P R M tb v w (.tuple #[]) (setIme true (leaveS y)) (n + 3)) := by
 obtain ⟨S0, M0, HO, NO⟩ := h0.beg #[.int .i64 27, .int .i64 x, .int .i64 z, .int .i64 s, .int .u16 nn] 44; obtain ⟨hc, hf⟩ := S0.out.cp; clear h0; go_enter Tryz.func55, Tryz.ntmps55; go_wp2_with fail; generalize w.alloc (.cells #[.int .i64 27, .int .i64 x, .int .i64 z, .int .i64 s, .int .u16 nn] 44) = w0 at S0 M0 HO hc hf ⊢; generalize w.heap.size = ob at HO NO ⊢; have ho := HO.out.2.1
 with_reducible refine (leave_p S0.out (by omega)).mono ?_
 rintro e w1 ⟨rfl, v1, s', m'⟩; replace HO := m'.two HO NO; clear ho NO; obtain ⟨HO, NO⟩ := HO; have ho := HO.out.2.1; have M1 := M0.tr m'; obtain ⟨y1, hy⟩ : ∃ q_, q_ = leaveS y := ⟨_, rfl⟩; rw [← hy] at s'; have Y1 := Lib.hid hy; clear hc hf; obtain ⟨hc, hf⟩ := s'.cp; have S1 := Lib.hid s'; clear s' m' hy; go_wp2; have Q := Lib.hid (S1.out.stIme true)
 first | go_end0 | refine bodyPost_ret (results_none rfl _ _ _) rfl ?_
 refine ⟨rfl, v1, ?_, M1.out.trans Q.out.2⟩
 have q := Q.out.1; have e := Y1.out.symm; subst e
 exact q.mo
theorem perf_28 (h0 : Sys procD ramC w P R M tb v y n) (hn : n < 950000) (x z s nn : Int) (n0 : 0 ≤ nn) (n1 : nn < 65536) (t : Bool) : Calls Tryz.prog 55 #[.pointer (some ⟨P, 0, none⟩), .agg #[.int .i64 28, .int .i64 x, .int .i64 z, .int .i64 s, .int .u16 nn], .bool t] w (PE procD ramC P R M tb v w (.tuple #[]) (enterS nn y) (n + 3)) := by
 obtain ⟨S0, M0, HO, NO⟩ := h0.beg #[.int .i64 28, .int .i64 x, .int .i64 z, .int .i64 s, .int .u16 nn] 44; obtain ⟨hc, hf⟩ := S0.out.cp; clear h0; go_enter Tryz.func55, Tryz.ntmps55; go_wp2_with fail; generalize w.alloc (.cells #[.int .i64 28, .int .i64 x, .int .i64 z, .int .i64 s, .int .u16 nn] 44) = w0 at S0 M0 HO hc hf ⊢; generalize w.heap.size = ob at HO NO ⊢; have ho := HO.out.2.1
 with_reducible refine (enter_p S0.out (by omega) nn n0 n1).mono ?_
 rintro e w1 ⟨rfl, v1, s', m'⟩; replace HO := m'.two HO NO; clear ho NO; obtain ⟨HO, NO⟩ := HO; have ho := HO.out.2.1; have M1 := M0.tr m'; obtain ⟨y1, hy⟩ : ∃ q_, q_ = enterS nn y := ⟨_, rfl⟩; rw [← hy] at s'; have Y1 := Lib.hid hy; clear hc hf; obtain ⟨hc, hf⟩ := s'.cp; have S1 := Lib.hid s'; clear s' m' hy; go_wp2
 first | go_end0 | refine bodyPost_ret (results_none rfl _ _ _) rfl ?_
 refine ⟨rfl, v1, ?_, M1.out⟩
 have q := S1.out; have e := Y1.out.symm; subst e
 exact q.mo
theorem perf_29 (h0 : Sys procD ramC w P R M tb v y n) (hn : n < 950000) (x z s nn : Int) (t : Bool) : Calls Tryz.prog 55 #[.pointer (some ⟨P, 0, none⟩), .agg #[.int .i64 29, .int .i64 x, .int .i64 z, .int .i64 s, .int .u16 nn], .bool t] w (PE procD ramC P R M tb v w (.tuple #[]) (setPC (hlV y) y) (n + 0)) := by
 obtain ⟨S0, M0, HO, NO⟩ := h0.beg #[.int .i64 29, .int .i64 x, .int .i64 z, .int .i64 s, .int .u16 nn] 44; obtain ⟨hc, hf⟩ := S0.out.cp; clear h0; go_enter Tryz.func55, Tryz.ntmps55; go_wp2_with fail; generalize w.alloc (.cells #[.int .i64 29, .int .i64 x, .int .i64 z, .int .i64 s, .int .u16 nn] 44) = w0 at S0 M0 HO hc hf ⊢; generalize w.heap.size = ob at HO NO ⊢; have ho := HO.out.2.1
 with_reducible refine (pair_p S0.out (by omega) 2).mono ?_
 rintro e w1 ⟨rfl, v1, s', m'⟩; replace HO := m'.two HO NO; clear ho NO; obtain ⟨HO, NO⟩ := HO; have ho := HO.out.2.1; have M1 := M0.tr m'; obtain ⟨y1, hy⟩ : ∃ q_, q_ = y := ⟨_, rfl⟩; rw [← hy] at s'; have Y1 := Lib.hid hy; clear hc hf; obtain ⟨hc, hf⟩ := s'.cp; have S1 := Lib.hid s'; clear s' m' hy; go_wp2; have Q := Lib.hid (S1.out.stPC (pairV y.s.r 2) (pairV_b S0.out.ok 2).1 (pairV_b S0.out.ok 2).2)
 first | go_end0 | refine bodyPost_ret (results_none rfl _ _ _) rfl ?_
 refine ⟨rfl, v1, ?_, M1.out.trans Q.out.2⟩
 have q := Q.out.1; have e := Y1.out.symm; subst e
 exact q.mo
theorem perf_30 (h0 : Sys procD ramC w P R M tb v y n) (hn : n < 950000) (x z s nn : Int) (t : Bool) : Calls Tryz.prog 55 #[.pointer (some ⟨P, 0, none⟩), .agg #[.int .i64 30, .int .i64 x, .int .i64 z, .int .i64 s, .int .u16 nn], .bool t] w (PE procD ramC P R M tb v w (.tuple #[]) (pushS (pairV y.s.r x) y) (n + 3)) := by
 obtain ⟨S0, M0, HO, NO⟩ := h0.beg #[.int .i64 30, .int .i64 x, .int .i64 z, .int .i64 s, .int .u16 nn] 44; obtain ⟨hc, hf⟩ := S0.out.cp; clear h0; go_enter Tryz.func55, Tryz.ntmps55; go_wp2_with fail; generalize w.alloc (.cells #[.int .i64 30, .int .i64 x, .int .i64 z, .int .i64 s, .int .u16 nn] 44) = w0 at S0 M0 HO hc hf ⊢; generalize w.heap.size = ob at HO NO ⊢; have ho := HO.out.2.1
 with_reducible refine (pair_p S0.out (by omega) x).mono ?_
 rintro e w1 ⟨rfl, v1, s', m'⟩; replace HO := m'.two HO NO; clear ho NO; obtain ⟨HO, NO⟩ := HO; have ho := HO.out.2.1; have M1 := M0.tr m'; obtain ⟨y1, hy⟩ : ∃ q_, q_ = y := ⟨_, rfl⟩; rw [← hy] at s'; have Y1 := Lib.hid hy; clear hc hf; obtain ⟨hc, hf⟩ := s'.cp; have S1 := Lib.hid s'; clear s' m' hy; go_wp2_with fail
 with_reducible refine (push_p S1.out (by omega) (pairV y.s.r x) (pairV_b S0.out.ok x).1 (pairV_b S0.out.ok x).2).mono ?_
 rintro e w2 ⟨rfl, v2, s', m'⟩; replace HO := m'.two HO NO; clear ho NO; obtain ⟨HO, NO⟩ := HO; have ho := HO.out.2.1; have M2 := M1.tr m'; obtain ⟨y2, hy⟩ : ∃ q_, q_ = pushS (pairV y.s.r x) y1 := ⟨_, rfl⟩; rw [← hy] at s'; have Y2 := Lib.hid hy; clear hc hf; obtain ⟨hc, hf⟩ := s'.cp; have S2 := Lib.hid s'; clear s' m' hy; go_wp2
 first | go_end0 | refine bodyPost_ret (results_none rfl _ _ _) rfl ?_
 refine ⟨rfl, v2, ?_, M2.out⟩
 have q := S2.out; have e := Y2.out.symm; subst e; have e := Y1.out.symm; subst e
 exact q.mo
theorem perf_31 (h0 : Sys procD ramC w P R M tb v y n) (hn : n < 950000) (x z s nn : Int) (t : Bool) : Calls Tryz.prog 55 #[.pointer (some ⟨P, 0, none⟩), .agg #[.int .i64 31, .int .i64 x, .int .i64 z, .int .i64 s, .int .u16 nn], .bool t] w (PE procD ramC P R M tb v w (.tuple #[]) (pairS x (popV y) (popS y)) (n + 2)) := by
 obtain ⟨S0, M0, HO, NO⟩ := h0.beg #[.int .i64 31, .int .i64 x, .int .i64 z, .int .i64 s, .int .u16 nn] 44; obtain ⟨hc, hf⟩ := S0.out.cp; clear h0; go_enter Tryz.func55, Tryz.ntmps55; go_wp2; generalize w.alloc (.cells #[.int .i64 31, .int .i64 x, .int .i64 z, .int .i64 s, .int .u16 nn] 44) = w0 at S0 M0 HO hc hf ⊢; generalize w.heap.size = ob at HO NO ⊢; have ho := HO.out.2.1; replace S0 := Lib.hid S0.out.drew; replace M0 := Lib.hid (M0.out.trans (PM.drew P R M tb v w0)); replace HO := Lib.hid HO.out.drew; clear ho hc hf
 refine rh HO (fun hHeld => ?_)
 generalize World.drew w0 = u0 at hHeld S0 M0 HO ⊢; refine tz 0 ?_; refine tz 1 ?_; refine tz 2 ?_; refine tz 3 ?_
 refine re1 4 (fun K hK => ?_)
 go_simp
 go_wp2_with (go_at_call 79; (with_reducible refine (pop_p S0.out (by omega)).mono ?_); rintro e w1 ⟨rfl, v1, s', m'⟩)
 replace HO := m'.two HO NO; clear NO; obtain ⟨HO, NO⟩ := HO
 refine hK.out _ _ ⟨HO.out.2.1, trivial⟩ (fun hNew => ?_); clear hK K hHeld; have hHeld := hNew; clear hNew
 have M1 := M0.tr m'; obtain ⟨y1, hy⟩ : ∃ q_, q_ = popS y := ⟨_, rfl⟩; rw [← hy] at s'; have Y1 := Lib.hid hy; have S1 := Lib.hid s'; clear s' m' hy
 refine re1 5 (fun K hK => ?_)
 go_simp
 go_wp2_with (go_at_call 78; (with_reducible refine (setPair_p S1.out (by omega) x _ S0.out.popb.1 S0.out.popb.2).mono ?_); rintro e w2 ⟨rfl, v2, s', m'⟩)
 replace HO := m'.two HO NO; clear NO; obtain ⟨HO, NO⟩ := HO
 refine hK.out _ _ ⟨HO.out.2.1, trivial⟩ (fun hNew => ?_); clear hK K hHeld; have hHeld := hNew; clear hNew
 have M2 := M1.tr m'; obtain ⟨y2, hy⟩ : ∃ q_, q_ = pairS x (popV y) y1 := ⟨_, rfl⟩; rw [← hy] at s'; have Y2 := Lib.hid hy; have S2 := Lib.hid s'; clear s' m' hy
 refine wpAnyH_done (by kernel_rfl) ?_ _
 obtain ⟨hc, hf⟩ := S2.out.cp; have ho := HO.out.2.1; go_wp2
 first | go_end0 | refine bodyPost_ret (results_none rfl _ _ _) rfl ?_
 refine ⟨rfl, v2, ?_, M2.out⟩
 have q := S2.out; have e := Y2.out.symm; subst e; have e := Y1.out.symm; subst e
 exact q.mo
theorem perf_32 (h0 : Sys procD ramC w P R M tb v y n) (hn : n < 950000) (x z s nn : Int) (t : Bool) : Calls Tryz.prog 55 #[.pointer (some ⟨P, 0, none⟩), .agg #[.int .i64 32, .int .i64 x, .int .i64 z, .int .i64 s, .int .u16 nn], .bool t] w (PE procD ramC P R M tb v w (.tuple #[]) (setA (y.m (thruV x y)) (rd 1 (thruV x y) (thruS x y))) (n + 1)) := by
 have hm := mR ⟨R, 0, none⟩; obtain ⟨S0, M0, HO, NO⟩ := h0.beg #[.int .i64 32, .int .i64 x, .int .i64 z, .int .i64 s, .int .u16 nn] 44; obtain ⟨hc, hf⟩ := S0.out.cp; clear h0; go_enter Tryz.func55, Tryz.ntmps55; go_wp2; generalize w.alloc (.cells #[.int .i64 32, .int .i64 x, .int .i64 z, .int .i64 s, .int .u16 nn] 44) = w0 at S0 M0 HO hc hf ⊢; generalize w.heap.size = ob at HO NO ⊢; have ho := HO.out.2.1; have S0' := Lib.hid S0.out.drew; have M0' := Lib.hid (M0.out.trans (PM.drew P R M tb v w0)); have HO' := Lib.hid HO.out.drew; clear ho HO; have HO := HO'; clear HO'; clear hc hf
 refine wp_region_held_drew (S := (fun w' => (∀ j, w'.cell? ⟨ob, j, none⟩ = #[Value.int .i64 32, .int .i64 x, .int .i64 z, .int .i64 s, .int .u16 nn][j]?) ∧ (w'.cell? ⟨P, 14, none⟩ = some (.iface 31 (.pointer (some ⟨R, 0, none⟩)))) ∧ True)) (by kernel_rfl) ⟨HO.out.2.1, S0'.out.cp.1 14, trivial⟩ (fun hHeld => ?_)
 generalize World.drew w0 = u0 at hHeld S0' M0' HO ⊢; clear S0 M0; have S0 := S0'; have M0 := M0'; clear S0' M0'; refine tz 0 ?_; refine tz 1 ?_; refine tz 2 ?_; refine tz 3 ?_; refine tz 4 ?_; refine tz 5 ?_; refine tz 6 ?_; refine tz 8 ?_; refine tz 9 ?_
 refine re1 7 (fun K hK => ?_)
 go_simp
 go_wp2_with (go_at_call 81; (with_reducible refine (addr_32 S0.out (by omega) x z s nn).mono ?_); rintro e w1 ⟨rfl, v1, s', m'⟩)
 replace HO := m'.two HO NO; clear NO; obtain ⟨HO, NO⟩ := HO
 refine hK.out _ _ ⟨HO.out.2.1, s'.cp.1 14, trivial⟩ (fun hNew => ?_); clear hK K hHeld; have hHeld := hNew; clear hNew
 have M1 := M0.tr m'; obtain ⟨y1, hy⟩ : ∃ q_, q_ = thruS x y := ⟨_, rfl⟩; rw [← hy] at s'; have Y1 := Lib.hid hy; have S1 := Lib.hid s'; clear s' m' hy
 refine re1 10 (fun K hK => ?_)
 go_simp
 go_wp2_with (go_at_call 176; (with_reducible refine (read_p S1.out (by omega) _ (thruV_b S0.out x).1 (thruV_b S0.out x).2).mono ?_); rintro e w2 ⟨rfl, v2, s', m'⟩)
 replace HO := m'.two HO NO; clear NO; obtain ⟨HO, NO⟩ := HO
 refine hK.out _ _ ⟨HO.out.2.1, s'.cp.1 14, trivial⟩ (fun hNew => ?_); clear hK K hHeld; have hHeld := hNew; clear hNew
 have M2 := M1.tr m'; obtain ⟨y2, hy⟩ : ∃ q_, q_ = rd 1 (thruV x y) y1 := ⟨_, rfl⟩; rw [← hy] at s'; have Y2 := Lib.hid hy; have S2 := Lib.hid s'; clear s' m' hy; refine tz 11 ?_; refine tz 12 ?_; refine tz 13 ?_; refine tz 14 ?_
 refine re1 15 (fun K hK => ?_)
 obtain ⟨hc, hf⟩ := S2.out.cp; go_simp; clear hc hf; have q := S2.out.stA (y1.m (thruV x y)) (S1.out.okm _).1 (S1.out.okm _).2; have s' := q.1; have m' := q.2; clear q; replace HO := m'.two HO NO; clear NO; obtain ⟨HO, NO⟩ := HO
 refine hK.out _ _ ⟨HO.out.2.1, s'.cp.1 14, trivial⟩ (fun hNew => ?_); clear hK K hHeld; have hHeld := hNew; clear hNew
 generalize World.setCell w2 ⟨P, 0, none⟩ (.int .u8 (y1.m (thruV x y))) = w3 at hHeld s' m' HO ⊢; have M3 := M2.tr m'; obtain ⟨y3, hy⟩ : ∃ q_, q_ = setA (y1.m (thruV x y)) y2 := ⟨_, rfl⟩; rw [← hy] at s'; have Y3 := Lib.hid hy; have S3 := Lib.hid s'; clear s' m' hy
 refine wpAnyH_done (by kernel_rfl) ?_ _
 obtain ⟨hc, hf⟩ := S3.out.cp; have ho := HO.out.2.1; go_wp2
 first | go_end0 | refine bodyPost_ret (results_none rfl _ _ _) rfl ?_
 refine ⟨rfl, v2, ?_, M3.out⟩
 have q := S3.out; have e := Y3.out.symm; subst e; have e := Y2.out.symm; subst e; have e := Y1.out.symm; subst e; rw [thruS_m] at q
 exact q.mo
theorem perf_34 (h0 : Sys procD ramC w P R M tb v y n) (hn : n < 950000) (x z s nn : Int) (n0 : 0 ≤ nn) (n1 : nn < 256) (t : Bool) : Calls Tryz.prog 55 #[.pointer (some ⟨P, 0, none⟩), .agg #[.int .i64 34, .int .i64 x, .int .i64 z, .int .i64 s, .int .u16 nn], .bool t] w (PE procD ramC P R M tb v w (.tuple #[]) (setA (y.m (65280 + nn)) (rd 1 (65280 + nn) y)) (n + 1)) := by
 have hm := mR ⟨R, 0, none⟩
 have nb : 0 ≤ 65280 + nn ∧ 65280 + nn < 65536 := by omega
 obtain ⟨S0, M0, HO, NO⟩ := h0.beg #[.int .i64 34, .int .i64 x, .int .i64 z, .int .i64 s, .int .u16 nn] 44; obtain ⟨hc, hf⟩ := S0.out.cp; clear h0; go_enter Tryz.func55, Tryz.ntmps55; go_wp2; generalize w.alloc (.cells #[.int .i64 34, .int .i64 x, .int .i64 z, .int .i64 s, .int .u16 nn] 44) = w0 at S0 M0 HO hc hf ⊢; generalize w.heap.size = ob at HO NO ⊢; have ho := HO.out.2.1; have S0' := Lib.hid S0.out.drew; have M0' := Lib.hid (M0.out.trans (PM.drew P R M tb v w0)); have HO' := Lib.hid HO.out.drew; clear ho HO; have HO := HO'; clear HO'; clear hc hf
 refine wp_region_held_drew (S := (fun w' => (∀ j, w'.cell? ⟨ob, j, none⟩ = #[Value.int .i64 34, .int .i64 x, .int .i64 z, .int .i64 s, .int .u16 nn][j]?) ∧ (w'.cell? ⟨P, 14, none⟩ = some (.iface 31 (.pointer (some ⟨R, 0, none⟩)))) ∧ True)) (by kernel_rfl) ⟨HO.out.2.1, S0'.out.cp.1 14, trivial⟩ (fun hHeld => ?_)
 generalize World.drew w0 = u0 at hHeld S0' M0' HO ⊢; clear S0 M0; have S0 := S0'; have M0 := M0'; clear S0' M0'; refine tz 0 ?_; refine tz 1 ?_; refine tz 2 ?_; refine tz 3 ?_; refine tz 4 ?_; refine tz 5 ?_; refine tz 6 ?_; refine tz 8 ?_; refine tz 9 ?_
 refine re1 7 (fun K hK => ?_)
 go_simp
 go_wp2_with (go_at_call 81; (with_reducible refine (addr_34 S0.out (by omega) x z s nn n0 n1).mono ?_); rintro e w1 ⟨rfl, v1, s', m'⟩)
 replace HO := m'.two HO NO; clear NO; obtain ⟨HO, NO⟩ := HO
 refine hK.out _ _ ⟨HO.out.2.1, s'.cp.1 14, trivial⟩ (fun hNew => ?_); clear hK K hHeld; have hHeld := hNew; clear hNew
 have M1 := M0.tr m'; obtain ⟨y1, hy⟩ : ∃ q_, q_ = y := ⟨_, rfl⟩; rw [← hy] at s'; have Y1 := Lib.hid hy; have S1 := Lib.hid s'; clear s' m' hy
 refine re1 10 (fun K hK => ?_)
 go_simp
 go_wp2_with (go_at_call 176; (with_reducible refine (read_p S1.out (by omega) _ (nb).1 (nb).2).mono ?_); rintro e w2 ⟨rfl, v2, s', m'⟩)
 replace HO := m'.two HO NO; clear NO; obtain ⟨HO, NO⟩ := HO
 refine hK.out _ _ ⟨HO.out.2.1, s'.cp.1 14, trivial⟩ (fun hNew => ?_); clear hK K hHeld; have hHeld := hNew; clear hNew
 have M2 := M1.tr m'; obtain ⟨y2, hy⟩ : ∃ q_, q_ = rd 1 (65280 + nn) y1 := ⟨_, rfl⟩; rw [← hy] at s'; have Y2 := Lib.hid hy; have S2 := Lib.hid s'; clear s' m' hy; refine tz 11 ?_; refine tz 12 ?_; refine tz 13 ?_; refine tz 14 ?_
 refine re1 15 (fun K hK => ?_)
 obtain ⟨hc, hf⟩ := S2.out.cp; go_simp; clear hc hf; have q := S2.out.stA (y1.m (65280 + nn)) (S1.out.okm _).1 (S1.out.okm _).2; have s' := q.1; have m' := q.2; clear q; replace HO := m'.two HO NO; clear NO; obtain ⟨HO, NO⟩ := HO
 refine hK.out _ _ ⟨HO.out.2.1, s'.cp.1 14, trivial⟩ (fun hNew => ?_); clear hK K hHeld; have hHeld := hNew; clear hNew
 generalize World.setCell w2 ⟨P, 0, none⟩ (.int .u8 (y1.m (65280 + nn))) = w3 at hHeld s' m' HO ⊢; have M3 := M2.tr m'; obtain ⟨y3, hy⟩ : ∃ q_, q_ = setA (y1.m (65280 + nn)) y2 := ⟨_, rfl⟩; rw [← hy] at s'; have Y3 := Lib.hid hy; have S3 := Lib.hid s'; clear s' m' hy
 refine wpAnyH_done (by kernel_rfl) ?_ _
 obtain ⟨hc, hf⟩ := S3.out.cp; have ho := HO.out.2.1; go_wp2
 first | go_end0 | refine bodyPost_ret (results_none rfl _ _ _) rfl ?_
 refine ⟨rfl, v2, ?_, M3.out⟩
 have q := S3.out; have e := Y3.out.symm; subst e; have e := Y2.out.symm; subst e; have e := Y1.out.symm; subst e
 exact q.mo
theorem perf_36 (h0 : Sys procD ramC w P R M tb v y n) (hn : n < 950000) (x z s nn : Int) (t : Bool) : Calls Tryz.prog 55 #[.pointer (some ⟨P, 0, none⟩), .agg #[.int .i64 36, .int .i64 x, .int .i64 z, .int .i64 s, .int .u16 nn], .bool t] w (PE procD ramC P R M tb v w (.tuple #[]) (setA (y.m (65280 + y.s.r.c)) (rd 1 (65280 + y.s.r.c) y)) (n + 1)) := by
 have hm := mR ⟨R, 0, none⟩; have cb0 := h0.cb
 have cb : 0 ≤ 65280 + y.s.r.c ∧ 65280 + y.s.r.c < 65536 := by omega
 obtain ⟨S0, M0, HO, NO⟩ := h0.beg #[.int .i64 36, .int .i64 x, .int .i64 z, .int .i64 s, .int .u16 nn] 44; obtain ⟨hc, hf⟩ := S0.out.cp; clear h0; go_enter Tryz.func55, Tryz.ntmps55; go_wp2; generalize w.alloc (.cells #[.int .i64 36, .int .i64 x, .int .i64 z, .int .i64 s, .int .u16 nn] 44) = w0 at S0 M0 HO hc hf ⊢; generalize w.heap.size = ob at HO NO ⊢; have ho := HO.out.2.1; have S0' := Lib.hid S0.out.drew; have M0' := Lib.hid (M0.out.trans (PM.drew P R M tb v w0)); have HO' := Lib.hid HO.out.drew; clear ho HO; have HO := HO'; clear HO'; clear hc hf
 refine wp_region_held_drew (S := (fun w' => (∀ j, w'.cell? ⟨ob, j, none⟩ = #[Value.int .i64 36, .int .i64 x, .int .i64 z, .int .i64 s, .int .u16 nn][j]?) ∧ (w'.cell? ⟨P, 14, none⟩ = some (.iface 31 (.pointer (some ⟨R, 0, none⟩)))) ∧ True)) (by kernel_rfl) ⟨HO.out.2.1, S0'.out.cp.1 14, trivial⟩ (fun hHeld => ?_)
 generalize World.drew w0 = u0 at hHeld S0' M0' HO ⊢; clear S0 M0; have S0 := S0'; have M0 := M0'; clear S0' M0'; refine tz 0 ?_; refine tz 1 ?_; refine tz 2 ?_; refine tz 3 ?_; refine tz 4 ?_; refine tz 5 ?_; refine tz 6 ?_; refine tz 8 ?_; refine tz 9 ?_
 refine re1 7 (fun K hK => ?_)
 go_simp
 go_wp2_with (go_at_call 81; (with_reducible refine (addr_36 S0.out (by omega) x z s nn).mono ?_); rintro e w1 ⟨rfl, v1, s', m'⟩)
 replace HO := m'.two HO NO; clear NO; obtain ⟨HO, NO⟩ := HO
 refine hK.out _ _ ⟨HO.out.2.1, s'.cp.1 14, trivial⟩ (fun hNew => ?_); clear hK K hHeld; have hHeld := hNew; clear hNew
 have M1 := M0.tr m'; obtain ⟨y1, hy⟩ : ∃ q_, q_ = y := ⟨_, rfl⟩; rw [← hy] at s'; have Y1 := Lib.hid hy; have S1 := Lib.hid s'; clear s' m' hy
 refine re1 10 (fun K hK => ?_)
 go_simp
 go_wp2_with (go_at_call 176; (with_reducible refine (read_p S1.out (by omega) _ (cb).1 (cb).2).mono ?_); rintro e w2 ⟨rfl, v2, s', m'⟩)
 replace HO := m'.two HO NO; clear NO; obtain ⟨HO, NO⟩ := HO
 refine hK.out _ _ ⟨HO.out.2.1, s'.cp.1 14, trivial⟩ (fun hNew => ?_); clear hK K hHeld; have hHeld := hNew; clear hNew
 have M2 := M1.tr m'; obtain ⟨y2, hy⟩ : ∃ q_, q_ = rd 1 (65280 + y.s.r.c) y1 := ⟨_, rfl⟩; rw [← hy] at s'; have Y2 := Lib.hid hy; have S2 := Lib.hid s'; clear s' m' hy; refine tz 11 ?_; refine tz 12 ?_; refine tz 13 ?_; refine tz 14 ?_
 refine re1 15 (fun K hK => ?_)
 obtain ⟨hc, hf⟩ := S2.out.cp; go_simp; clear hc hf; have q := S2.out.stA (y1.m (65280 + y.s.r.c)) (S1.out.okm _).1 (S1.out.okm _).2; have s' := q.1; have m' := q.2; clear q; replace HO := m'.two HO NO; clear NO; obtain ⟨HO, NO⟩ := HO
 refine hK.out _ _ ⟨HO.out.2.1, s'.cp.1 14, trivial⟩ (fun hNew => ?_); clear hK K hHeld; have hHeld := hNew; clear hNew
 generalize World.setCell w2 ⟨P, 0, none⟩ (.int .u8 (y1.m (65280 + y.s.r.c))) = w3 at hHeld s' m' HO ⊢; have M3 := M2.tr m'; obtain ⟨y3, hy⟩ : ∃ q_, q_ = setA (y1.m (65280 + y.s.r.c)) y2 := ⟨_, rfl⟩; rw [← hy] at s'; have Y3 := Lib.hid hy; have S3 := Lib.hid s'; clear s' m' hy
 refine wpAnyH_done (by kernel_rfl) ?_ _
 obtain ⟨hc, hf⟩ := S3.out.cp; have ho := HO.out.2.1; go_wp2
 first | go_end0 | refine bodyPost_ret (results_none rfl _ _ _) rfl ?_
 refine ⟨rfl, v2, ?_, M3.out⟩
 have q := S3.out; have e := Y3.out.symm; subst e; have e := Y2.out.symm; subst e; have e := Y1.out.symm; subst e
 exact q.mo
theorem perf_38 (h0 : Sys procD ramC w P R M tb v y n) (hn : n < 950000) (x z s nn : Int) (n0 : 0 ≤ nn) (n1 : nn < 65536) (t : Bool) : Calls Tryz.prog 55 #[.pointer (some ⟨P, 0, none⟩), .agg #[.int .i64 38, .int .i64 x, .int .i64 z, .int .i64 s, .int .u16 nn], .bool t] w (PE procD ramC P R M tb v w (.tuple #[]) (setA (y.m nn) (rd 1 nn y)) (n + 1)) := by
 have hm := mR ⟨R, 0, none⟩; have nb := And.intro n0 n1; obtain ⟨S0, M0, HO, NO⟩ := h0.beg #[.int .i64 38, .int .i64 x, .int .i64 z, .int .i64 s, .int .u16 nn] 44; obtain ⟨hc, hf⟩ := S0.out.cp; clear h0; go_enter Tryz.func55, Tryz.ntmps55; go_wp2; generalize w.alloc (.cells #[.int .i64 38, .int .i64 x, .int .i64 z, .int .i64 s, .int .u16 nn] 44) = w0 at S0 M0 HO hc hf ⊢; generalize w.heap.size = ob at HO NO ⊢; have ho := HO.out.2.1; have S0' := Lib.hid S0.out.drew; have M0' := Lib.hid (M0.out.trans (PM.drew P R M tb v w0)); have HO' := Lib.hid HO.out.drew; clear ho HO; have HO := HO'; clear HO'; clear hc hf
 refine wp_region_held_drew (S := (fun w' => (∀ j, w'.cell? ⟨ob, j, none⟩ = #[Value.int .i64 38, .int .i64 x, .int .i64 z, .int .i64 s, .int .u16 nn][j]?) ∧ (w'.cell? ⟨P, 14, none⟩ = some (.iface 31 (.pointer (some ⟨R, 0, none⟩)))) ∧ True)) (by kernel_rfl) ⟨HO.out.2.1, S0'.out.cp.1 14, trivial⟩ (fun hHeld => ?_)
 generalize World.drew w0 = u0 at hHeld S0' M0' HO ⊢; clear S0 M0; have S0 := S0'; have M0 := M0'; clear S0' M0'; refine tz 0 ?_; refine tz 1 ?_; refine tz 2 ?_; refine tz 3 ?_; refine tz 4 ?_; refine tz 5 ?_; refine tz 6 ?_; refine tz 8 ?_; refine tz 9 ?_
 refine re1 7 (fun K hK => ?_)
 go_simp
 go_wp2_with (go_at_call 81; (with_reducible refine (addr_38 S0.out (by omega) x z s nn).mono ?_); rintro e w1 ⟨rfl, v1, s', m'⟩)
 replace HO := m'.two HO NO; clear NO; obtain ⟨HO, NO⟩ := HO
 refine hK.out _ _ ⟨HO.out.2.1, s'.cp.1 14, trivial⟩ (fun hNew => ?_); clear hK K hHeld; have hHeld := hNew; clear hNew
 have M1 := M0.tr m'; obtain ⟨y1, hy⟩ : ∃ q_, q_ = y := ⟨_, rfl⟩; rw [← hy] at s'; have Y1 := Lib.hid hy; have S1 := Lib.hid s'; clear s' m' hy
 refine re1 10 (fun K hK => ?_)
 go_simp
 go_wp2_with (go_at_call 176; (with_reducible refine (read_p S1.out (by omega) _ (nb).1 (nb).2).mono ?_); rintro e w2 ⟨rfl, v2, s', m'⟩)
 replace HO := m'.two HO NO; clear NO; obtain ⟨HO, NO⟩ := HO
 refine hK.out _ _ ⟨HO.out.2.1, s'.cp.1 14, trivial⟩ (fun hNew => ?_); clear hK K hHeld; have hHeld := hNew; clear hNew
 have M2 := M1.tr m'; obtain ⟨y2, hy⟩ : ∃ q_, q_ = rd 1 (nn) y1 := ⟨_, rfl⟩; rw [← hy] at s'; have Y2 := Lib.hid hy; have S2 := Lib.hid s'; clear s' m' hy; refine tz 11 ?_; refine tz 12 ?_; refine tz 13 ?_; refine tz 14 ?_
 refine re1 15 (fun K hK => ?_)
 obtain ⟨hc, hf⟩ := S2.out.cp; go_simp; clear hc hf; have q := S2.out.stA (y1.m (nn)) (S1.out.okm _).1 (S1.out.okm _).2; have s' := q.1; have m' := q.2; clear q; replace HO := m'.two HO NO; clear NO; obtain ⟨HO, NO⟩ := HO
 refine hK.out _ _ ⟨HO.out.2.1, s'.cp.1 14, trivial⟩ (fun hNew => ?_); clear hK K hHeld; have hHeld := hNew; clear hNew
 generalize World.setCell w2 ⟨P, 0, none⟩ (.int .u8 (y1.m (nn))) = w3 at hHeld s' m' HO ⊢; have M3 := M2.tr m'; obtain ⟨y3, hy⟩ : ∃ q_, q_ = setA (y1.m (nn)) y2 := ⟨_, rfl⟩; rw [← hy] at s'; have Y3 := Lib.hid hy; have S3 := Lib.hid s'; clear s' m' hy
 refine wpAnyH_done (by kernel_rfl) ?_ _
 obtain ⟨hc, hf⟩ := S3.out.cp; have ho := HO.out.2.1; go_wp2
 first | go_end0 | refine bodyPost_ret (results_none rfl _ _ _) rfl ?_
 refine ⟨rfl, v2, ?_, M3.out⟩
 have q := S3.out; have e := Y3.out.symm; subst e; have e := Y2.out.symm; subst e; have e := Y1.out.symm; subst e
 exact q.mo
theorem perf_33 (h0 : Sys procD ramC w P R M tb v y n) (hn : n < 950000) (x z s nn : Int) (t : Bool) : Calls Tryz.prog 55 #[.pointer (some ⟨P, 0, none⟩), .agg #[.int .i64 33, .int .i64 x, .int .i64 z, .int .i64 s, .int .u16 nn], .bool t] w (PE procD ramC P R M tb v w (.tuple #[]) (wr (thruV x y) y.s.r.a (thruS x y)) (n + 1)) := by
 have hm := mW ⟨R, 0, none⟩; have ab := h0.ab; obtain ⟨S0, M0, HO, NO⟩ := h0.beg #[.int .i64 33, .int .i64 x, .int .i64 z, .int .i64 s, .int .u16 nn] 44; obtain ⟨hc, hf⟩ := S0.out.cp; clear h0; go_enter Tryz.func55, Tryz.ntmps55; go_wp2; generalize w.alloc (.cells #[.int .i64 33, .int .i64 x, .int .i64 z, .int .i64 s, .int .u16 nn] 44) = w0 at S0 M0 HO hc hf ⊢; generalize w.heap.size = ob at HO NO ⊢; have ho := HO.out.2.1; have S0' := Lib.hid S0.out.drew; have M0' := Lib.hid (M0.out.trans (PM.drew P R M tb v w0)); have HO' := Lib.hid HO.out.drew; clear ho HO; have HO := HO'; clear HO'; clear hc hf
 refine wp_region_held_drew (S := (fun w' => (∀ j, w'.cell? ⟨ob, j, none⟩ = #[Value.int .i64 33, .int .i64 x, .int .i64 z, .int .i64 s, .int .u16 nn][j]?) ∧ (w'.cell? ⟨P, 14, none⟩ = some (.iface 31 (.pointer (some ⟨R, 0, none⟩)))) ∧ (w'.cell? ⟨P, 0, none⟩ = some (.int .u8 y.s.r.a)) ∧ True)) (by kernel_rfl) ⟨HO.out.2.1, S0'.out.cp.1 14, S0'.out.cp.1 0, trivial⟩ (fun hHeld => ?_)
 generalize World.drew w0 = u0 at hHeld S0' M0' HO ⊢; clear S0 M0; have S0 := S0'; have M0 := M0'; clear S0' M0'; refine tz 0 ?_; refine tz 1 ?_; refine tz 2 ?_; refine tz 3 ?_; refine tz 4 ?_; refine tz 5 ?_; refine tz 7 ?_; refine tz 8 ?_; refine tz 9 ?_; refine tz 10 ?_; refine tz 11 ?_; refine tz 12 ?_; refine tz 13 ?_; refine tz 14 ?_
 refine re1 6 (fun K hK => ?_)
 go_simp
 go_wp2_with (go_at_call 81; (with_reducible refine (addr_33 S0.out (by omega) x z s nn).mono ?_); rintro e w1 ⟨rfl, v1, s', m'⟩)
 replace HO := m'.two HO NO; clear NO; obtain ⟨HO, NO⟩ := HO
 refine hK.out _ _ ⟨HO.out.2.1, s'.cp.1 14, (s'.cp.1 0).trans (by rw [thruS_a]; rfl), trivial⟩ (fun hNew => ?_); clear hK K hHeld; have hHeld := hNew; clear hNew
 have M1 := M0.tr m'; obtain ⟨y1, hy⟩ : ∃ q_, q_ = thruS x y := ⟨_, rfl⟩; rw [← hy] at s'; have Y1 := Lib.hid hy; have S1 := Lib.hid s'; clear s' m' hy
 refine re1 15 (fun K hK => ?_)
 go_simp
 go_wp2_with (go_at_call 177; (with_reducible refine (write_p S1.out (by omega) _ y.s.r.a (thruV_b S0.out x).1 (thruV_b S0.out x).2 ab.1 ab.2).mono ?_); rintro e w2 ⟨rfl, v2, s', m'⟩)
 replace HO := m'.two HO NO; clear NO; obtain ⟨HO, NO⟩ := HO
 refine hK.out _ _ ⟨HO.out.2.1, s'.cp.1 14, (s'.cp.1 0).trans (by rw [show (wr (thruV x y) y.s.r.a y1).s = y1.s from rfl, Y1.out, thruS_a]; rfl), trivial⟩ (fun hNew => ?_); clear hK K hHeld; have hHeld := hNew; clear hNew
 have M2 := M1.tr m'; obtain ⟨y2, hy⟩ : ∃ q_, q_ = wr (thruV x y) y.s.r.a y1 := ⟨_, rfl⟩; rw [← hy] at s'; have Y2 := Lib.hid hy; have S2 := Lib.hid s'; clear s' m' hy
 refine wpAnyH_done (by kernel_rfl) ?_ _
 obtain ⟨hc, hf⟩ := S2.out.cp; have ho := HO.out.2.1; go_wp2
 first | go_end0 | refine bodyPost_ret (results_none rfl _ _ _) rfl ?_
 refine ⟨rfl, v2, ?_, M2.out⟩
 have q := S2.out; have e := Y2.out.symm; subst e; have e := Y1.out.symm; subst e
 exact q.mo
theorem perf_35 (h0 : Sys procD ramC w P R M tb v y n) (hn : n < 950000) (x z s nn : Int) (n0 : 0 ≤ nn) (n1 : nn < 256) (t : Bool) : Calls Tryz.prog 55 #[.pointer (some ⟨P, 0, none⟩), .agg #[.int .i64 35, .int .i64 x, .int .i64 z, .int .i64 s, .int .u16 nn], .bool t] w (PE procD ramC P R M tb v w (.tuple #[]) (wr (65280 + nn) y.s.r.a y) (n + 1)) := by
 have hm := mW ⟨R, 0, none⟩; have ab := h0.ab
 have nb : 0 ≤ 65280 + nn ∧ 65280 + nn < 65536 := by omega
 obtain ⟨S0, M0, HO, NO⟩ := h0.beg #[.int .i64 35, .int .i64 x, .int .i64 z, .int .i64 s, .int .u16 nn] 44; obtain ⟨hc, hf⟩ := S0.out.cp; clear h0; go_enter Tryz.func55, Tryz.ntmps55; go_wp2; generalize w.alloc (.cells #[.int .i64 35, .int .i64 x, .int .i64 z, .int .i64 s, .int .u16 nn] 44) = w0 at S0 M0 HO hc hf ⊢; generalize w.heap.size = ob at HO NO ⊢; have ho := HO.out.2.1; have S0' := Lib.hid S0.out.drew; have M0' := Lib.hid (M0.out.trans (PM.drew P R M tb v w0)); have HO' := Lib.hid HO.out.drew; clear ho HO; have HO := HO'; clear HO'; clear hc hf
 refine wp_region_held_drew (S := (fun w' => (∀ j, w'.cell? ⟨ob, j, none⟩ = #[Value.int .i64 35, .int .i64 x, .int .i64 z, .int .i64 s, .int .u16 nn][j]?) ∧ (w'.cell? ⟨P, 14, none⟩ = some (.iface 31 (.pointer (some ⟨R, 0, none⟩)))) ∧ (w'.cell? ⟨P, 0, none⟩ = some (.int .u8 y.s.r.a)) ∧ True)) (by kernel_rfl) ⟨HO.out.2.1, S0'.out.cp.1 14, S0'.out.cp.1 0, trivial⟩ (fun hHeld => ?_)
 generalize World.drew w0 = u0 at hHeld S0' M0' HO ⊢; clear S0 M0; have S0 := S0'; have M0 := M0'; clear S0' M0'; refine tz 0 ?_; refine tz 1 ?_; refine tz 2 ?_; refine tz 3 ?_; refine tz 4 ?_; refine tz 5 ?_; refine tz 7 ?_; refine tz 8 ?_; refine tz 9 ?_; refine tz 10 ?_; refine tz 11 ?_; refine tz 12 ?_; refine tz 13 ?_; refine tz 14 ?_
 refine re1 6 (fun K hK => ?_)
 go_simp
 go_wp2_with (go_at_call 81; (with_reducible refine (addr_35 S0.out (by omega) x z s nn n0 n1).mono ?_); rintro e w1 ⟨rfl, v1, s', m'⟩)
 replace HO := m'.two HO NO; clear NO; obtain ⟨HO, NO⟩ := HO
 refine hK.out _ _ ⟨HO.out.2.1, s'.cp.1 14, s'.cp.1 0, trivial⟩ (fun hNew => ?_); clear hK K hHeld; have hHeld := hNew; clear hNew
 have M1 := M0.tr m'; obtain ⟨y1, hy⟩ : ∃ q_, q_ = y := ⟨_, rfl⟩; rw [← hy] at s'; have Y1 := Lib.hid hy; have S1 := Lib.hid s'; clear s' m' hy
 refine re1 15 (fun K hK => ?_)
 go_simp
 go_wp2_with (go_at_call 177; (with_reducible refine (write_p S1.out (by omega) _ y.s.r.a (nb).1 (nb).2 ab.1 ab.2).mono ?_); rintro e w2 ⟨rfl, v2, s', m'⟩)
 replace HO := m'.two HO NO; clear NO; obtain ⟨HO, NO⟩ := HO
 refine hK.out _ _ ⟨HO.out.2.1, s'.cp.1 14, (s'.cp.1 0).trans (by rw [show (wr (65280 + nn) y.s.r.a y1).s = y1.s from rfl, Y1.out]; rfl), trivial⟩ (fun hNew => ?_); clear hK K hHeld; have hHeld := hNew; clear hNew
 have M2 := M1.tr m'; obtain ⟨y2, hy⟩ : ∃ q_, q_ = wr (65280 + nn) y.s.r.a y1 := ⟨_, rfl⟩; rw [← hy] at s'; have Y2 := Lib.hid hy; have S2 := Lib.hid s'; clear s' m' hy
 refine wpAnyH_done (by kernel_rfl) ?_ _
 obtain ⟨hc, hf⟩ := S2.out.cp; have ho := HO.out.2.1; go_wp2
 first | go_end0 | refine bodyPost_ret (results_none rfl _ _ _) rfl ?_
 refine ⟨rfl, v2, ?_, M2.out⟩
 have q := S2.out; have e := Y2.out.symm; subst e; have e := Y1.out.symm; subst e
 exact q.mo
theorem perf_37 (h0 : Sys procD ramC w P R M tb v y n) (hn : n < 950000) (x z s nn : Int) (t : Bool) : Calls Tryz.prog 55 #[.pointer (some ⟨P, 0, none⟩), .agg #[.int .i64 37, .int .i64 x, .int .i64 z, .int .i64 s, .int .u16 nn], .bool t] w (PE procD ramC P R M tb v w (.tuple #[]) (wr (65280 + y.s.r.c) y.s.r.a y) (n + 1)) := by
 have hm := mW ⟨R, 0, none⟩; have ab := h0.ab; have cb0 := h0.cb
 have cb : 0 ≤ 65280 + y.s.r.c ∧ 65280 + y.s.r.c < 65536 := by omega
 obtain ⟨S0, M0, HO, NO⟩ := h0.beg #[.int .i64 37, .int .i64 x, .int .i64 z, .int .i64 s, .int .u16 nn] 44; obtain ⟨hc, hf⟩ := S0.out.cp; clear h0; go_enter Tryz.func55, Tryz.ntmps55; go_wp2; generalize w.alloc (.cells #[.int .i64 37, .int .i64 x, .int .i64 z, .int .i64 s, .int .u16 nn] 44) = w0 at S0 M0 HO hc hf ⊢; generalize w.heap.size = ob at HO NO ⊢; have ho := HO.out.2.1; have S0' := Lib.hid S0.out.drew; have M0' := Lib.hid (M0.out.trans (PM.drew P R M tb v w0)); have HO' := Lib.hid HO.out.drew; clear ho HO; have HO := HO'; clear HO'; clear hc hf
 refine wp_region_held_drew (S := (fun w' => (∀ j, w'.cell? ⟨ob, j, none⟩ = #[Value.int .i64 37, .int .i64 x, .int .i64 z, .int .i64 s, .int .u16 nn][j]?) ∧ (w'.cell? ⟨P, 14, none⟩ = some (.iface 31 (.pointer (some ⟨R, 0, none⟩)))) ∧ (w'.cell? ⟨P, 0, none⟩ = some (.int .u8 y.s.r.a)) ∧ True)) (by kernel_rfl) ⟨HO.out.2.1, S0'.out.cp.1 14, S0'.out.cp.1 0, trivial⟩ (fun hHeld => ?_)
 generalize World.drew w0 = u0 at hHeld S0' M0' HO ⊢; clear S0 M0; have S0 := S0'; have M0 := M0'; clear S0' M0'; refine tz 0 ?_; refine tz 1 ?_; refine tz 2 ?_; refine tz 3 ?_; refine tz 4 ?_; refine tz 5 ?_; refine tz 7 ?_; refine tz 8 ?_; refine tz 9 ?_; refine tz 10 ?_; refine tz 11 ?_; refine tz 12 ?_; refine tz 13 ?_; refine tz 14 ?_
 refine re1 6 (fun K hK => ?_)
 go_simp
 go_wp2_with (go_at_call 81; (with_reducible refine (addr_37 S0.out (by omega) x z s nn).mono ?_); rintro e w1 ⟨rfl, v1, s', m'⟩)
 replace HO := m'.two HO NO; clear NO; obtain ⟨HO, NO⟩ := HO
 refine hK.out _ _ ⟨HO.out.2.1, s'.cp.1 14, s'.cp.1 0, trivial⟩ (fun hNew => ?_); clear hK K hHeld; have hHeld := hNew; clear hNew
 have M1 := M0.tr m'; obtain ⟨y1, hy⟩ : ∃ q_, q_ = y := ⟨_, rfl⟩; rw [← hy] at s'; have Y1 := Lib.hid hy; have S1 := Lib.hid s'; clear s' m' hy
 refine re1 15 (fun K hK => ?_)
 go_simp
 go_wp2_with (go_at_call 177; (with_reducible refine (write_p S1.out (by omega) _ y.s.r.a (cb).1 (cb).2 ab.1 ab.2).mono ?_); rintro e w2 ⟨rfl, v2, s', m'⟩)
 replace HO := m'.two HO NO; clear NO; obtain ⟨HO, NO⟩ := HO
 refine hK.out _ _ ⟨HO.out.2.1, s'.cp.1 14, (s'.cp.1 0).trans (by rw [show (wr (65280 + y.s.r.c) y.s.r.a y1).s = y1.s from rfl, Y1.out]; rfl), trivial⟩ (fun hNew => ?_); clear hK K hHeld; have hHeld := hNew; clear hNew
 have M2 := M1.tr m'; obtain ⟨y2, hy⟩ : ∃ q_, q_ = wr (65280 + y.s.r.c) y.s.r.a y1 := ⟨_, rfl⟩; rw [← hy] at s'; have Y2 := Lib.hid hy; have S2 := Lib.hid s'; clear s' m' hy
 refine wpAnyH_done (by kernel_rfl) ?_ _
 obtain ⟨hc, hf⟩ := S2.out.cp; have ho := HO.out.2.1; go_wp2
 first | go_end0 | refine bodyPost_ret (results_none rfl _ _ _) rfl ?_
 refine ⟨rfl, v2, ?_, M2.out⟩
 have q := S2.out; have e := Y2.out.symm; subst e; have e := Y1.out.symm; subst e
 exact q.mo
theorem perf_39 (h0 : Sys procD ramC w P R M tb v y n) (hn : n < 950000) (x z s nn : Int) (n0 : 0 ≤ nn) (n1 : nn < 65536) (t : Bool) : Calls Tryz.prog 55 #[.pointer (some ⟨P, 0, none⟩), .agg #[.int .i64 39, .int .i64 x, .int .i64 z, .int .i64 s, .int .u16 nn], .bool t] w (PE procD ramC P R M tb v w (.tuple #[]) (wr nn y.s.r.a y) (n + 1)) := by
 have hm := mW ⟨R, 0, none⟩; have ab := h0.ab; have nb := And.intro n0 n1; obtain ⟨S0, M0, HO, NO⟩ := h0.beg #[.int .i64 39, .int .i64 x, .int .i64 z, .int .i64 s, .int .u16 nn] 44; obtain ⟨hc, hf⟩ := S0.out.cp; clear h0; go_enter Tryz.func55, Tryz.ntmps55; go_wp2; generalize w.alloc (.cells #[.int .i64 39, .int .i64 x, .int .i64 z, .int .i64 s, .int .u16 nn] 44) = w0 at S0 M0 HO hc hf ⊢; generalize w.heap.size = ob at HO NO ⊢; have ho := HO.out.2.1; have S0' := Lib.hid S0.out.drew; have M0' := Lib.hid (M0.out.trans (PM.drew P R M tb v w0)); have HO' := Lib.hid HO.out.drew; clear ho HO; have HO := HO'; clear HO'; clear hc hf
 refine wp_region_held_drew (S := (fun w' => (∀ j, w'.cell? ⟨ob, j, none⟩ = #[Value.int .i64 39, .int .i64 x, .int .i64 z, .int .i64 s, .int .u16 nn][j]?) ∧ (w'.cell? ⟨P, 14, none⟩ = some (.iface 31 (.pointer (some ⟨R, 0, none⟩)))) ∧ (w'.cell? ⟨P, 0, none⟩ = some (.int .u8 y.s.r.a)) ∧ True)) (by kernel_rfl) ⟨HO.out.2.1, S0'.out.cp.1 14, S0'.out.cp.1 0, trivial⟩ (fun hHeld => ?_)
 generalize World.drew w0 = u0 at hHeld S0' M0' HO ⊢; clear S0 M0; have S0 := S0'; have M0 := M0'; clear S0' M0'; refine tz 0 ?_; refine tz 1 ?_; refine tz 2 ?_; refine tz 3 ?_; refine tz 4 ?_; refine tz 5 ?_; refine tz 7 ?_; refine tz 8 ?_; refine tz 9 ?_; refine tz 10 ?_; refine tz 11 ?_; refine tz 12 ?_; refine tz 13 ?_; refine tz 14 ?_
 refine re1 6 (fun K hK => ?_)
 go_simp
 go_wp2_with (go_at_call 81; (with_reducible refine (addr_39 S0.out (by omega) x z s nn).mono ?_); rintro e w1 ⟨rfl, v1, s', m'⟩)
 replace HO := m'.two HO NO; clear NO; obtain ⟨HO, NO⟩ := HO
 refine hK.out _ _ ⟨HO.out.2.1, s'.cp.1 14, s'.cp.1 0, trivial⟩ (fun hNew => ?_); clear hK K hHeld; have hHeld := hNew; clear hNew
 have M1 := M0.tr m'; obtain ⟨y1, hy⟩ : ∃ q_, q_ = y := ⟨_, rfl⟩; rw [← hy] at s'; have Y1 := Lib.hid hy; have S1 := Lib.hid s'; clear s' m' hy
 refine re1 15 (fun K hK => ?_)
 go_simp
 go_wp2_with (go_at_call 177; (with_reducible refine (write_p S1.out (by omega) _ y.s.r.a (nb).1 (nb).2 ab.1 ab.2).mono ?_); rintro e w2 ⟨rfl, v2, s', m'⟩)
 replace HO := m'.two HO NO; clear NO; obtain ⟨HO, NO⟩ := HO
 refine hK.out _ _ ⟨HO.out.2.1, s'.cp.1 14, (s'.cp.1 0).trans (by rw [show (wr (nn) y.s.r.a y1).s = y1.s from rfl, Y1.out]; rfl), trivial⟩ (fun hNew => ?_); clear hK K hHeld; have hHeld := hNew; clear hNew
 have M2 := M1.tr m'; obtain ⟨y2, hy⟩ : ∃ q_, q_ = wr (nn) y.s.r.a y1 := ⟨_, rfl⟩; rw [← hy] at s'; have Y2 := Lib.hid hy; have S2 := Lib.hid s'; clear s' m' hy
 refine wpAnyH_done (by kernel_rfl) ?_ _
 obtain ⟨hc, hf⟩ := S2.out.cp; have ho := HO.out.2.1; go_wp2
 first | go_end0 | refine bodyPost_ret (results_none rfl _ _ _) rfl ?_
 refine ⟨rfl, v2, ?_, M2.out⟩
 have q := S2.out; have e := Y2.out.symm; subst e; have e := Y1.out.symm; subst e
 exact q.mo
end
end Go.Proofs.YtngdogldgcgnjaaGreat
