/-
  What perform does: for every world; the processor is there.
-/
import Derived.Test.YtngdogldgcgnjaaGreatZ15
import Derived.Test.YtngdogldgcgnjaaGreatZ16
set_option maxRecDepth 100000
set_option maxHeartbeats 8000000
namespace Go.Proofs.YtngdogldgcgnjaaGreat
open Go.ChangeShapes Go.WideShapes Go.ChangeAt Go.RowKit
open Reg
set_option linter.unusedVariables false
section
variable {w : World} {P R M tb n : Nat} {v : Value} {y : Sy}
theorem perf_2 (h0 : Sys procD ramC w P R M tb v y n) (hn : n < 950000) (x z s nn : Int) (t : Bool) : Calls Tryz.prog 55 #[.pointer (some ⟨P, 0, none⟩), .agg #[.int .i64 2, .int .i64 x, .int .i64 z, .int .i64 s, .int .u16 nn], .bool t] w (PE procD ramC P R M tb v w (.tuple #[]) (setStop true y) (n + 0)) := by
 obtain ⟨S0, M0, HO, NO⟩ := h0.beg #[.int .i64 2, .int .i64 x, .int .i64 z, .int .i64 s, .int .u16 nn] 44; obtain ⟨hc, hf⟩ := S0.out.cp; clear h0; go_enter Tryz.func55, Tryz.ntmps55; have Q := Lib.hid (S0.out.stStop true); go_wp2
 first | go_end0 | refine bodyPost_ret (results_none rfl _ _ _) rfl ?_
 exact ⟨rfl, v, Q.out.1, M0.out.trans Q.out.2⟩
theorem perf_3 (h0 : Sys procD ramC w P R M tb v y n) (hn : n < 950000) (x z s nn : Int) (t : Bool) : Calls Tryz.prog 55 #[.pointer (some ⟨P, 0, none⟩), .agg #[.int .i64 3, .int .i64 x, .int .i64 z, .int .i64 s, .int .u16 nn], .bool t] w (PE procD ramC P R M tb v w (.tuple #[]) (setHalt true y) (n + 0)) := by
 obtain ⟨S0, M0, HO, NO⟩ := h0.beg #[.int .i64 3, .int .i64 x, .int .i64 z, .int .i64 s, .int .u16 nn] 44; obtain ⟨hc, hf⟩ := S0.out.cp; clear h0; go_enter Tryz.func55, Tryz.ntmps55; have Q := Lib.hid (S0.out.stHalt true); go_wp2
 first | go_end0 | refine bodyPost_ret (results_none rfl _ _ _) rfl ?_
 exact ⟨rfl, v, Q.out.1, M0.out.trans Q.out.2⟩
theorem perf_5 (h0 : Sys procD ramC w P R M tb v y n) (hn : n < 950000) (x z s nn : Int) (t : Bool) : Calls Tryz.prog 55 #[.pointer (some ⟨P, 0, none⟩), .agg #[.int .i64 5, .int .i64 x, .int .i64 z, .int .i64 s, .int .u16 nn], .bool t] w (PE procD ramC P R M tb v w (.tuple #[]) (setIme false y) (n + 0)) := by
 obtain ⟨S0, M0, HO, NO⟩ := h0.beg #[.int .i64 5, .int .i64 x, .int .i64 z, .int .i64 s, .int .u16 nn] 44; obtain ⟨hc, hf⟩ := S0.out.cp; clear h0; go_enter Tryz.func55, Tryz.ntmps55; have Q := Lib.hid (S0.out.stIme false); go_wp2
 first | go_end0 | refine bodyPost_ret (results_none rfl _ _ _) rfl ?_
 exact ⟨rfl, v, Q.out.1, M0.out.trans Q.out.2⟩
theorem perf_6 (h0 : Sys procD ramC w P R M tb v y n) (hn : n < 950000) (x z s nn : Int) (t : Bool) : Calls Tryz.prog 55 #[.pointer (some ⟨P, 0, none⟩), .agg #[.int .i64 6, .int .i64 x, .int .i64 z, .int .i64 s, .int .u16 nn], .bool t] w (PE procD ramC P R M tb v w (.tuple #[]) (setSoon true y) (n + 0)) := by
 obtain ⟨S0, M0, HO, NO⟩ := h0.beg #[.int .i64 6, .int .i64 x, .int .i64 z, .int .i64 s, .int .u16 nn] 44; obtain ⟨hc, hf⟩ := S0.out.cp; clear h0; go_enter Tryz.func55, Tryz.ntmps55; have Q := Lib.hid (S0.out.stSoon true); go_wp2
 first | go_end0 | refine bodyPost_ret (results_none rfl _ _ _) rfl ?_
 exact ⟨rfl, v, Q.out.1, M0.out.trans Q.out.2⟩
theorem perf_4 (h0 : Sys procD ramC w P R M tb v y n) (hn : n < 950000) (x z nn : Int) (t : Bool) : Calls Tryz.prog 55 #[.pointer (some ⟨P, 0, none⟩), .agg #[.int .i64 4, .int .i64 x, .int .i64 z, .int .i64 1, .int .u16 nn], .bool t] w (PE procD ramC P R M tb v w (.tuple #[]) (setPC (dn y.s.r.pc) y) (n + 0)) := by
 have hw := dn_w y.s.r.pc; obtain ⟨S0, M0, HO, NO⟩ := h0.beg #[.int .i64 4, .int .i64 x, .int .i64 z, .int .i64 1, .int .u16 nn] 44; obtain ⟨hc, hf⟩ := S0.out.cp; clear h0; go_enter Tryz.func55, Tryz.ntmps55; go_wp2; generalize w.alloc (.cells #[.int .i64 4, .int .i64 x, .int .i64 z, .int .i64 1, .int .u16 nn] 44) = w0 at S0 M0 HO hc hf ⊢; generalize w.heap.size = ob at HO NO ⊢; have ho := HO.out.2.1; have S0' := Lib.hid S0.out.drew; have M0' := Lib.hid (M0.out.trans (PM.drew P R M tb v w0)); clear hc hf; obtain ⟨hc, hf⟩ := S0'.out.cp; have HO' := Lib.hid HO.out.drew; clear ho HO; have HO := HO'; clear HO'; have ho := HO.out.2.1
 go_still_tail 14, (by kernel_rfl)
 change wpList _ _ _ _ _ (World.drew w0)
 generalize World.drew w0 = u0 at hc hf S0' M0' HO ho ⊢; clear S0 M0; have S0 := S0'; have M0 := M0'; clear S0' M0'; go_wp2; have Q := Lib.hid (S0.out.stPC (dn y.s.r.pc) (dn_b _).1 (dn_b _).2)
 first | go_end0 | refine bodyPost_ret (results_none rfl _ _ _) rfl ?_
 refine ⟨rfl, v, ?_, M0.out.trans Q.out.2⟩
 have q := Q.out.1
 exact q.mo
theorem perf_10 (h0 : Sys procD ramC w P R M tb v y n) (hn : n < 950000) (x z s nn : Int) (x0 : 0 ≤ x) (x1 : x < 8) (t : Bool) : Calls Tryz.prog 55 #[.pointer (some ⟨P, 0, none⟩), .agg #[.int .i64 10, .int .i64 x, .int .i64 z, .int .i64 s, .int .u16 nn], .bool t] w (PE procD ramC P R M tb v w (.tuple #[]) (sumS x (getY z y) (getS z y)) (n + 1)) := by
 obtain ⟨S0, M0, HO, NO⟩ := h0.beg #[.int .i64 10, .int .i64 x, .int .i64 z, .int .i64 s, .int .u16 nn] 44; obtain ⟨hc, hf⟩ := S0.out.cp; clear h0; go_enter Tryz.func55, Tryz.ntmps55; go_wp2_with fail; generalize w.alloc (.cells #[.int .i64 10, .int .i64 x, .int .i64 z, .int .i64 s, .int .u16 nn] 44) = w0 at S0 M0 HO hc hf ⊢; generalize w.heap.size = ob at HO NO ⊢; have ho := HO.out.2.1
 with_reducible refine (calc_10 S0.out (by omega) x z s nn x0 x1).mono ?_
 rintro e w1 ⟨rfl, v1, s', m'⟩; replace HO := m'.two HO NO; clear ho NO; obtain ⟨HO, NO⟩ := HO; have ho := HO.out.2.1; have M1 := M0.tr m'; obtain ⟨y1, hy⟩ : ∃ q_, q_ = sumS x (getY z y) (getS z y) := ⟨_, rfl⟩; rw [← hy] at s'; have Y1 := Lib.hid hy; clear hc hf; obtain ⟨hc, hf⟩ := s'.cp; have S1 := Lib.hid s'; clear s' m' hy; go_wp2
 first | go_end0 | refine bodyPost_ret (results_none rfl _ _ _) rfl ?_
 refine ⟨rfl, v1, ?_, M1.out⟩
 have q := S1.out; have e := Y1.out.symm; subst e
 exact q.mo
theorem perf_11 (h0 : Sys procD ramC w P R M tb v y n) (hn : n < 950000) (x z s nn : Int) (x0 : 0 ≤ x) (x1 : x < 8) (t : Bool) : Calls Tryz.prog 55 #[.pointer (some ⟨P, 0, none⟩), .agg #[.int .i64 11, .int .i64 x, .int .i64 z, .int .i64 s, .int .u16 nn], .bool t] w (PE procD ramC P R M tb v w (.tuple #[]) (sumS x (nn % 256) y) (n + 0)) := by
 obtain ⟨S0, M0, HO, NO⟩ := h0.beg #[.int .i64 11, .int .i64 x, .int .i64 z, .int .i64 s, .int .u16 nn] 44; obtain ⟨hc, hf⟩ := S0.out.cp; clear h0; go_enter Tryz.func55, Tryz.ntmps55; go_wp2_with fail; generalize w.alloc (.cells #[.int .i64 11, .int .i64 x, .int .i64 z, .int .i64 s, .int .u16 nn] 44) = w0 at S0 M0 HO hc hf ⊢; generalize w.heap.size = ob at HO NO ⊢; have ho := HO.out.2.1
 with_reducible refine (calc_11 S0.out (by omega) x z s nn x0 x1).mono ?_
 rintro e w1 ⟨rfl, v1, s', m'⟩; replace HO := m'.two HO NO; clear ho NO; obtain ⟨HO, NO⟩ := HO; have ho := HO.out.2.1; have M1 := M0.tr m'; obtain ⟨y1, hy⟩ : ∃ q_, q_ = sumS x (nn % 256) y := ⟨_, rfl⟩; rw [← hy] at s'; have Y1 := Lib.hid hy; clear hc hf; obtain ⟨hc, hf⟩ := s'.cp; have S1 := Lib.hid s'; clear s' m' hy; go_wp2
 first | go_end0 | refine bodyPost_ret (results_none rfl _ _ _) rfl ?_
 refine ⟨rfl, v1, ?_, M1.out⟩
 have q := S1.out; have e := Y1.out.symm; subst e
 exact q.mo
theorem perf_12 (h0 : Sys procD ramC w P R M tb v y n) (hn : n < 950000) (x z s nn : Int) (t : Bool) : Calls Tryz.prog 55 #[.pointer (some ⟨P, 0, none⟩), .agg #[.int .i64 12, .int .i64 x, .int .i64 z, .int .i64 s, .int .u16 nn], .bool t] w (PE procD ramC P R M tb v w (.tuple #[]) (setF (Alu.incF (getY x y) y.s.r.f) (putS x ((getY x y + 1) % 256) (getS x y))) (n + 2)) := by
 obtain ⟨S0, M0, HO, NO⟩ := h0.beg #[.int .i64 12, .int .i64 x, .int .i64 z, .int .i64 s, .int .u16 nn] 44; obtain ⟨hc, hf⟩ := S0.out.cp; clear h0; go_enter Tryz.func55, Tryz.ntmps55; go_wp2_with fail; generalize w.alloc (.cells #[.int .i64 12, .int .i64 x, .int .i64 z, .int .i64 s, .int .u16 nn] 44) = w0 at S0 M0 HO hc hf ⊢; generalize w.heap.size = ob at HO NO ⊢; have ho := HO.out.2.1
 with_reducible refine (calc_12 S0.out (by omega) x z s nn).mono ?_
 rintro e w1 ⟨rfl, v1, s', m'⟩; replace HO := m'.two HO NO; clear ho NO; obtain ⟨HO, NO⟩ := HO; have ho := HO.out.2.1; have M1 := M0.tr m'; obtain ⟨y1, hy⟩ : ∃ q_, q_ = setF (Alu.incF (getY x y) y.s.r.f) (putS x ((getY x y + 1) % 256) (getS x y)) := ⟨_, rfl⟩; rw [← hy] at s'; have Y1 := Lib.hid hy; clear hc hf; obtain ⟨hc, hf⟩ := s'.cp; have S1 := Lib.hid s'; clear s' m' hy; go_wp2
 first | go_end0 | refine bodyPost_ret (results_none rfl _ _ _) rfl ?_
 refine ⟨rfl, v1, ?_, M1.out⟩
 have q := S1.out; have e := Y1.out.symm; subst e
 exact q.mo
theorem perf_13 (h0 : Sys procD ramC w P R M tb v y n) (hn : n < 950000) (x z s nn : Int) (t : Bool) : Calls Tryz.prog 55 #[.pointer (some ⟨P, 0, none⟩), .agg #[.int .i64 13, .int .i64 x, .int .i64 z, .int .i64 s, .int .u16 nn], .bool t] w (PE procD ramC P R M tb v w (.tuple #[]) (setF (Alu.decF (getY x y) y.s.r.f) (putS x ((getY x y - 1) % 256) (getS x y))) (n + 2)) := by
 obtain ⟨S0, M0, HO, NO⟩ := h0.beg #[.int .i64 13, .int .i64 x, .int .i64 z, .int .i64 s, .int .u16 nn] 44; obtain ⟨hc, hf⟩ := S0.out.cp; clear h0; go_enter Tryz.func55, Tryz.ntmps55; go_wp2_with fail; generalize w.alloc (.cells #[.int .i64 13, .int .i64 x, .int .i64 z, .int .i64 s, .int .u16 nn] 44) = w0 at S0 M0 HO hc hf ⊢; generalize w.heap.size = ob at HO NO ⊢; have ho := HO.out.2.1
 with_reducible refine (calc_13 S0.out (by omega) x z s nn).mono ?_
 rintro e w1 ⟨rfl, v1, s', m'⟩; replace HO := m'.two HO NO; clear ho NO; obtain ⟨HO, NO⟩ := HO; have ho := HO.out.2.1; have M1 := M0.tr m'; obtain ⟨y1, hy⟩ : ∃ q_, q_ = setF (Alu.decF (getY x y) y.s.r.f) (putS x ((getY x y - 1) % 256) (getS x y)) := ⟨_, rfl⟩; rw [← hy] at s'; have Y1 := Lib.hid hy; clear hc hf; obtain ⟨hc, hf⟩ := s'.cp; have S1 := Lib.hid s'; clear s' m' hy; go_wp2
 first | go_end0 | refine bodyPost_ret (results_none rfl _ _ _) rfl ?_
 refine ⟨rfl, v1, ?_, M1.out⟩
 have q := S1.out; have e := Y1.out.symm; subst e
 exact q.mo
theorem perf_14 (h0 : Sys procD ramC w P R M tb v y n) (hn : n < 950000) (x z s nn : Int) (t : Bool) : Calls Tryz.prog 55 #[.pointer (some ⟨P, 0, none⟩), .agg #[.int .i64 14, .int .i64 x, .int .i64 z, .int .i64 s, .int .u16 nn], .bool t] w (PE procD ramC P R M tb v w (.tuple #[]) (pairS x (up (pairV y.s.r x)) (idle y)) (n + 1)) := by
 obtain ⟨S0, M0, HO, NO⟩ := h0.beg #[.int .i64 14, .int .i64 x, .int .i64 z, .int .i64 s, .int .u16 nn] 44; obtain ⟨hc, hf⟩ := S0.out.cp; clear h0; go_enter Tryz.func55, Tryz.ntmps55; go_wp2_with fail; generalize w.alloc (.cells #[.int .i64 14, .int .i64 x, .int .i64 z, .int .i64 s, .int .u16 nn] 44) = w0 at S0 M0 HO hc hf ⊢; generalize w.heap.size = ob at HO NO ⊢; have ho := HO.out.2.1
 with_reducible refine (calc_14 S0.out (by omega) x z s nn).mono ?_
 rintro e w1 ⟨rfl, v1, s', m'⟩; replace HO := m'.two HO NO; clear ho NO; obtain ⟨HO, NO⟩ := HO; have ho := HO.out.2.1; have M1 := M0.tr m'; obtain ⟨y1, hy⟩ : ∃ q_, q_ = pairS x (up (pairV y.s.r x)) (idle y) := ⟨_, rfl⟩; rw [← hy] at s'; have Y1 := Lib.hid hy; clear hc hf; obtain ⟨hc, hf⟩ := s'.cp; have S1 := Lib.hid s'; clear s' m' hy; go_wp2
 first | go_end0 | refine bodyPost_ret (results_none rfl _ _ _) rfl ?_
 refine ⟨rfl, v1, ?_, M1.out⟩
 have q := S1.out; have e := Y1.out.symm; subst e
 exact q.mo
theorem perf_15 (h0 : Sys procD ramC w P R M tb v y n) (hn : n < 950000) (x z s nn : Int) (t : Bool) : Calls Tryz.prog 55 #[.pointer (some ⟨P, 0, none⟩), .agg #[.int .i64 15, .int .i64 x, .int .i64 z, .int .i64 s, .int .u16 nn], .bool t] w (PE procD ramC P R M tb v w (.tuple #[]) (pairS x (dn (pairV y.s.r x)) (idle y)) (n + 1)) := by
 obtain ⟨S0, M0, HO, NO⟩ := h0.beg #[.int .i64 15, .int .i64 x, .int .i64 z, .int .i64 s, .int .u16 nn] 44; obtain ⟨hc, hf⟩ := S0.out.cp; clear h0; go_enter Tryz.func55, Tryz.ntmps55; go_wp2_with fail; generalize w.alloc (.cells #[.int .i64 15, .int .i64 x, .int .i64 z, .int .i64 s, .int .u16 nn] 44) = w0 at S0 M0 HO hc hf ⊢; generalize w.heap.size = ob at HO NO ⊢; have ho := HO.out.2.1
 with_reducible refine (calc_15 S0.out (by omega) x z s nn).mono ?_
 rintro e w1 ⟨rfl, v1, s', m'⟩; replace HO := m'.two HO NO; clear ho NO; obtain ⟨HO, NO⟩ := HO; have ho := HO.out.2.1; have M1 := M0.tr m'; obtain ⟨y1, hy⟩ : ∃ q_, q_ = pairS x (dn (pairV y.s.r x)) (idle y) := ⟨_, rfl⟩; rw [← hy] at s'; have Y1 := Lib.hid hy; clear hc hf; obtain ⟨hc, hf⟩ := s'.cp; have S1 := Lib.hid s'; clear s' m' hy; go_wp2
 first | go_end0 | refine bodyPost_ret (results_none rfl _ _ _) rfl ?_
 refine ⟨rfl, v1, ?_, M1.out⟩
 have q := S1.out; have e := Y1.out.symm; subst e
 exact q.mo
theorem perf_16 (h0 : Sys procD ramC w P R M tb v y n) (hn : n < 950000) (x z s nn : Int) (t : Bool) : Calls Tryz.prog 55 #[.pointer (some ⟨P, 0, none⟩), .agg #[.int .i64 16, .int .i64 x, .int .i64 z, .int .i64 s, .int .u16 nn], .bool t] w (PE procD ramC P R M tb v w (.tuple #[]) (setF (Alu.add16F (hlV y) (pairV y.s.r x) y.s.r.f) (pairS 2 ((hlV y + pairV y.s.r x) % 65536) (idle y))) (n + 1)) := by
 obtain ⟨S0, M0, HO, NO⟩ := h0.beg #[.int .i64 16, .int .i64 x, .int .i64 z, .int .i64 s, .int .u16 nn] 44; obtain ⟨hc, hf⟩ := S0.out.cp; clear h0; go_enter Tryz.func55, Tryz.ntmps55; go_wp2_with fail; generalize w.alloc (.cells #[.int .i64 16, .int .i64 x, .int .i64 z, .int .i64 s, .int .u16 nn] 44) = w0 at S0 M0 HO hc hf ⊢; generalize w.heap.size = ob at HO NO ⊢; have ho := HO.out.2.1
 with_reducible refine (calc_16 S0.out (by omega) x z s nn).mono ?_
 rintro e w1 ⟨rfl, v1, s', m'⟩; replace HO := m'.two HO NO; clear ho NO; obtain ⟨HO, NO⟩ := HO; have ho := HO.out.2.1; have M1 := M0.tr m'; obtain ⟨y1, hy⟩ : ∃ q_, q_ = setF (Alu.add16F (hlV y) (pairV y.s.r x) y.s.r.f) (pairS 2 ((hlV y + pairV y.s.r x) % 65536) (idle y)) := ⟨_, rfl⟩; rw [← hy] at s'; have Y1 := Lib.hid hy; clear hc hf; obtain ⟨hc, hf⟩ := s'.cp; have S1 := Lib.hid s'; clear s' m' hy; go_wp2
 first | go_end0 | refine bodyPost_ret (results_none rfl _ _ _) rfl ?_
 refine ⟨rfl, v1, ?_, M1.out⟩
 have q := S1.out; have e := Y1.out.symm; subst e
 exact q.mo
theorem perf_17 (h0 : Sys procD ramC w P R M tb v y n) (hn : n < 950000) (x z s nn : Int) (t : Bool) : Calls Tryz.prog 55 #[.pointer (some ⟨P, 0, none⟩), .agg #[.int .i64 17, .int .i64 x, .int .i64 z, .int .i64 s, .int .u16 nn], .bool t] w (PE procD ramC P R M tb v w (.tuple #[]) (putS z (Alu.turnR x (getY z y) y.s.r.f) (setF (Alu.turnF x (getY z y) y.s.r.f) (getS z y))) (n + 2)) := by
 obtain ⟨S0, M0, HO, NO⟩ := h0.beg #[.int .i64 17, .int .i64 x, .int .i64 z, .int .i64 s, .int .u16 nn] 44; obtain ⟨hc, hf⟩ := S0.out.cp; clear h0; go_enter Tryz.func55, Tryz.ntmps55; go_wp2_with fail; generalize w.alloc (.cells #[.int .i64 17, .int .i64 x, .int .i64 z, .int .i64 s, .int .u16 nn] 44) = w0 at S0 M0 HO hc hf ⊢; generalize w.heap.size = ob at HO NO ⊢; have ho := HO.out.2.1
 with_reducible refine (calc_17 S0.out (by omega) x z s nn).mono ?_
 rintro e w1 ⟨rfl, v1, s', m'⟩; replace HO := m'.two HO NO; clear ho NO; obtain ⟨HO, NO⟩ := HO; have ho := HO.out.2.1; have M1 := M0.tr m'; obtain ⟨y1, hy⟩ : ∃ q_, q_ = putS z (Alu.turnR x (getY z y) y.s.r.f) (setF (Alu.turnF x (getY z y) y.s.r.f) (getS z y)) := ⟨_, rfl⟩; rw [← hy] at s'; have Y1 := Lib.hid hy; clear hc hf; obtain ⟨hc, hf⟩ := s'.cp; have S1 := Lib.hid s'; clear s' m' hy; go_wp2
 first | go_end0 | refine bodyPost_ret (results_none rfl _ _ _) rfl ?_
 refine ⟨rfl, v1, ?_, M1.out⟩
 have q := S1.out; have e := Y1.out.symm; subst e
 exact q.mo
theorem perf_18 (h0 : Sys procD ramC w P R M tb v y n) (hn : n < 950000) (x z s nn : Int) (t : Bool) : Calls Tryz.prog 55 #[.pointer (some ⟨P, 0, none⟩), .agg #[.int .i64 18, .int .i64 x, .int .i64 z, .int .i64 s, .int .u16 nn], .bool t] w (PE procD ramC P R M tb v w (.tuple #[]) (setF (Alu.fl 16 (Alu.turnO x y.s.r.a)) (setA (Alu.turnR x y.s.r.a y.s.r.f) y)) (n + 0)) := by
 obtain ⟨S0, M0, HO, NO⟩ := h0.beg #[.int .i64 18, .int .i64 x, .int .i64 z, .int .i64 s, .int .u16 nn] 44; obtain ⟨hc, hf⟩ := S0.out.cp; clear h0; go_enter Tryz.func55, Tryz.ntmps55; go_wp2_with fail; generalize w.alloc (.cells #[.int .i64 18, .int .i64 x, .int .i64 z, .int .i64 s, .int .u16 nn] 44) = w0 at S0 M0 HO hc hf ⊢; generalize w.heap.size = ob at HO NO ⊢; have ho := HO.out.2.1
 with_reducible refine (calc_18 S0.out (by omega) x z s nn).mono ?_
 rintro e w1 ⟨rfl, v1, s', m'⟩; replace HO := m'.two HO NO; clear ho NO; obtain ⟨HO, NO⟩ := HO; have ho := HO.out.2.1; have M1 := M0.tr m'; obtain ⟨y1, hy⟩ : ∃ q_, q_ = setF (Alu.fl 16 (Alu.turnO x y.s.r.a)) (setA (Alu.turnR x y.s.r.a y.s.r.f) y) := ⟨_, rfl⟩; rw [← hy] at s'; have Y1 := Lib.hid hy; clear hc hf; obtain ⟨hc, hf⟩ := s'.cp; have S1 := Lib.hid s'; clear s' m' hy; go_wp2
 first | go_end0 | refine bodyPost_ret (results_none rfl _ _ _) rfl ?_
 refine ⟨rfl, v1, ?_, M1.out⟩
 have q := S1.out; have e := Y1.out.symm; subst e
 exact q.mo
theorem perf_19 (h0 : Sys procD ramC w P R M tb v y n) (hn : n < 950000) (x z s nn : Int) (t : Bool) : Calls Tryz.prog 55 #[.pointer (some ⟨P, 0, none⟩), .agg #[.int .i64 19, .int .i64 x, .int .i64 z, .int .i64 s, .int .u16 nn], .bool t] w (PE procD ramC P R M tb v w (.tuple #[]) (setF (Alu.daaF y.s.r.a y.s.r.f) (setA (Alu.daaR y.s.r.a y.s.r.f) y)) (n + 0)) := by
 obtain ⟨S0, M0, HO, NO⟩ := h0.beg #[.int .i64 19, .int .i64 x, .int .i64 z, .int .i64 s, .int .u16 nn] 44; obtain ⟨hc, hf⟩ := S0.out.cp; clear h0; go_enter Tryz.func55, Tryz.ntmps55; go_wp2_with fail; generalize w.alloc (.cells #[.int .i64 19, .int .i64 x, .int .i64 z, .int .i64 s, .int .u16 nn] 44) = w0 at S0 M0 HO hc hf ⊢; generalize w.heap.size = ob at HO NO ⊢; have ho := HO.out.2.1
 with_reducible refine (calc_19 S0.out (by omega) x z s nn).mono ?_
 rintro e w1 ⟨rfl, v1, s', m'⟩; replace HO := m'.two HO NO; clear ho NO; obtain ⟨HO, NO⟩ := HO; have ho := HO.out.2.1; have M1 := M0.tr m'; obtain ⟨y1, hy⟩ : ∃ q_, q_ = setF (Alu.daaF y.s.r.a y.s.r.f) (setA (Alu.daaR y.s.r.a y.s.r.f) y) := ⟨_, rfl⟩; rw [← hy] at s'; have Y1 := Lib.hid hy; clear hc hf; obtain ⟨hc, hf⟩ := s'.cp; have S1 := Lib.hid s'; clear s' m' hy; go_wp2
 first | go_end0 | refine bodyPost_ret (results_none rfl _ _ _) rfl ?_
 refine ⟨rfl, v1, ?_, M1.out⟩
 have q := S1.out; have e := Y1.out.symm; subst e
 exact q.mo
theorem perf_20 (h0 : Sys procD ramC w P R M tb v y n) (hn : n < 950000) (x z s nn : Int) (t : Bool) : Calls Tryz.prog 55 #[.pointer (some ⟨P, 0, none⟩), .agg #[.int .i64 20, .int .i64 x, .int .i64 z, .int .i64 s, .int .u16 nn], .bool t] w (PE procD ramC P R M tb v w (.tuple #[]) (setF (Alu.FL (Alu.zf y.s.r.f) true true (Alu.cf y.s.r.f)) (setA (255 - y.s.r.a) y)) (n + 0)) := by
 obtain ⟨S0, M0, HO, NO⟩ := h0.beg #[.int .i64 20, .int .i64 x, .int .i64 z, .int .i64 s, .int .u16 nn] 44; obtain ⟨hc, hf⟩ := S0.out.cp; clear h0; go_enter Tryz.func55, Tryz.ntmps55; go_wp2_with fail; generalize w.alloc (.cells #[.int .i64 20, .int .i64 x, .int .i64 z, .int .i64 s, .int .u16 nn] 44) = w0 at S0 M0 HO hc hf ⊢; generalize w.heap.size = ob at HO NO ⊢; have ho := HO.out.2.1
 with_reducible refine (calc_20 S0.out (by omega) x z s nn).mono ?_
 rintro e w1 ⟨rfl, v1, s', m'⟩; replace HO := m'.two HO NO; clear ho NO; obtain ⟨HO, NO⟩ := HO; have ho := HO.out.2.1; have M1 := M0.tr m'; obtain ⟨y1, hy⟩ : ∃ q_, q_ = setF (Alu.FL (Alu.zf y.s.r.f) true true (Alu.cf y.s.r.f)) (setA (255 - y.s.r.a) y) := ⟨_, rfl⟩; rw [← hy] at s'; have Y1 := Lib.hid hy; clear hc hf; obtain ⟨hc, hf⟩ := s'.cp; have S1 := Lib.hid s'; clear s' m' hy; go_wp2
 first | go_end0 | refine bodyPost_ret (results_none rfl _ _ _) rfl ?_
 refine ⟨rfl, v1, ?_, M1.out⟩
 have q := S1.out; have e := Y1.out.symm; subst e
 exact q.mo
theorem perf_21 (h0 : Sys procD ramC w P R M tb v y n) (hn : n < 950000) (x z s nn : Int) (t : Bool) : Calls Tryz.prog 55 #[.pointer (some ⟨P, 0, none⟩), .agg #[.int .i64 21, .int .i64 x, .int .i64 z, .int .i64 s, .int .u16 nn], .bool t] w (PE procD ramC P R M tb v w (.tuple #[]) (setF (Alu.FL (Alu.zf y.s.r.f) false false true) y) (n + 0)) := by
 obtain ⟨S0, M0, HO, NO⟩ := h0.beg #[.int .i64 21, .int .i64 x, .int .i64 z, .int .i64 s, .int .u16 nn] 44; obtain ⟨hc, hf⟩ := S0.out.cp; clear h0; go_enter Tryz.func55, Tryz.ntmps55; go_wp2_with fail; generalize w.alloc (.cells #[.int .i64 21, .int .i64 x, .int .i64 z, .int .i64 s, .int .u16 nn] 44) = w0 at S0 M0 HO hc hf ⊢; generalize w.heap.size = ob at HO NO ⊢; have ho := HO.out.2.1
 with_reducible refine (calc_21 S0.out (by omega) x z s nn).mono ?_
 rintro e w1 ⟨rfl, v1, s', m'⟩; replace HO := m'.two HO NO; clear ho NO; obtain ⟨HO, NO⟩ := HO; have ho := HO.out.2.1; have M1 := M0.tr m'; obtain ⟨y1, hy⟩ : ∃ q_, q_ = setF (Alu.FL (Alu.zf y.s.r.f) false false true) y := ⟨_, rfl⟩; rw [← hy] at s'; have Y1 := Lib.hid hy; clear hc hf; obtain ⟨hc, hf⟩ := s'.cp; have S1 := Lib.hid s'; clear s' m' hy; go_wp2
 first | go_end0 | refine bodyPost_ret (results_none rfl _ _ _) rfl ?_
 refine ⟨rfl, v1, ?_, M1.out⟩
 have q := S1.out; have e := Y1.out.symm; subst e
 exact q.mo
theorem perf_22 (h0 : Sys procD ramC w P R M tb v y n) (hn : n < 950000) (x z s nn : Int) (t : Bool) : Calls Tryz.prog 55 #[.pointer (some ⟨P, 0, none⟩), .agg #[.int .i64 22, .int .i64 x, .int .i64 z, .int .i64 s, .int .u16 nn], .bool t] w (PE procD ramC P R M tb v w (.tuple #[]) (setF (Alu.FL (Alu.zf y.s.r.f) false false (!Alu.cf y.s.r.f)) y) (n + 0)) := by
 obtain ⟨S0, M0, HO, NO⟩ := h0.beg #[.int .i64 22, .int .i64 x, .int .i64 z, .int .i64 s, .int .u16 nn] 44; obtain ⟨hc, hf⟩ := S0.out.cp; clear h0; go_enter Tryz.func55, Tryz.ntmps55; go_wp2_with fail; generalize w.alloc (.cells #[.int .i64 22, .int .i64 x, .int .i64 z, .int .i64 s, .int .u16 nn] 44) = w0 at S0 M0 HO hc hf ⊢; generalize w.heap.size = ob at HO NO ⊢; have ho := HO.out.2.1
 with_reducible refine (calc_22 S0.out (by omega) x z s nn).mono ?_
 rintro e w1 ⟨rfl, v1, s', m'⟩; replace HO := m'.two HO NO; clear ho NO; obtain ⟨HO, NO⟩ := HO; have ho := HO.out.2.1; have M1 := M0.tr m'; obtain ⟨y1, hy⟩ : ∃ q_, q_ = setF (Alu.FL (Alu.zf y.s.r.f) false false (!Alu.cf y.s.r.f)) y := ⟨_, rfl⟩; rw [← hy] at s'; have Y1 := Lib.hid hy; clear hc hf; obtain ⟨hc, hf⟩ := s'.cp; have S1 := Lib.hid s'; clear s' m' hy; go_wp2
 first | go_end0 | refine bodyPost_ret (results_none rfl _ _ _) rfl ?_
 refine ⟨rfl, v1, ?_, M1.out⟩
 have q := S1.out; have e := Y1.out.symm; subst e
 exact q.mo
theorem perf_41 (h0 : Sys procD ramC w P R M tb v y n) (hn : n < 950000) (x z s nn : Int) (t : Bool) : Calls Tryz.prog 55 #[.pointer (some ⟨P, 0, none⟩), .agg #[.int .i64 41, .int .i64 x, .int .i64 z, .int .i64 s, .int .u16 nn], .bool t] w (PE procD ramC P R M tb v w (.tuple #[]) (setF (Alu.shiftF y.s.r.sp (nn % 256)) (setSP (Alu.shiftR y.s.r.sp (nn % 256)) (idle (idle y)))) (n + 2)) := by
 obtain ⟨S0, M0, HO, NO⟩ := h0.beg #[.int .i64 41, .int .i64 x, .int .i64 z, .int .i64 s, .int .u16 nn] 44; obtain ⟨hc, hf⟩ := S0.out.cp; clear h0; go_enter Tryz.func55, Tryz.ntmps55; go_wp2_with fail; generalize w.alloc (.cells #[.int .i64 41, .int .i64 x, .int .i64 z, .int .i64 s, .int .u16 nn] 44) = w0 at S0 M0 HO hc hf ⊢; generalize w.heap.size = ob at HO NO ⊢; have ho := HO.out.2.1
 with_reducible refine (calc_41 S0.out (by omega) x z s nn).mono ?_
 rintro e w1 ⟨rfl, v1, s', m'⟩; replace HO := m'.two HO NO; clear ho NO; obtain ⟨HO, NO⟩ := HO; have ho := HO.out.2.1; have M1 := M0.tr m'; obtain ⟨y1, hy⟩ : ∃ q_, q_ = setF (Alu.shiftF y.s.r.sp (nn % 256)) (setSP (Alu.shiftR y.s.r.sp (nn % 256)) (idle (idle y))) := ⟨_, rfl⟩; rw [← hy] at s'; have Y1 := Lib.hid hy; clear hc hf; obtain ⟨hc, hf⟩ := s'.cp; have S1 := Lib.hid s'; clear s' m' hy; go_wp2
 first | go_end0 | refine bodyPost_ret (results_none rfl _ _ _) rfl ?_
 refine ⟨rfl, v1, ?_, M1.out⟩
 have q := S1.out; have e := Y1.out.symm; subst e
 exact q.mo
theorem perf_42 (h0 : Sys procD ramC w P R M tb v y n) (hn : n < 950000) (x z s nn : Int) (t : Bool) : Calls Tryz.prog 55 #[.pointer (some ⟨P, 0, none⟩), .agg #[.int .i64 42, .int .i64 x, .int .i64 z, .int .i64 s, .int .u16 nn], .bool t] w (PE procD ramC P R M tb v w (.tuple #[]) (setF (Alu.shiftF y.s.r.sp (nn % 256)) (pairS 2 (Alu.shiftR y.s.r.sp (nn % 256)) (idle y))) (n + 1)) := by
 obtain ⟨S0, M0, HO, NO⟩ := h0.beg #[.int .i64 42, .int .i64 x, .int .i64 z, .int .i64 s, .int .u16 nn] 44; obtain ⟨hc, hf⟩ := S0.out.cp; clear h0; go_enter Tryz.func55, Tryz.ntmps55; go_wp2_with fail; generalize w.alloc (.cells #[.int .i64 42, .int .i64 x, .int .i64 z, .int .i64 s, .int .u16 nn] 44) = w0 at S0 M0 HO hc hf ⊢; generalize w.heap.size = ob at HO NO ⊢; have ho := HO.out.2.1
 with_reducible refine (calc_42 S0.out (by omega) x z s nn).mono ?_
 rintro e w1 ⟨rfl, v1, s', m'⟩; replace HO := m'.two HO NO; clear ho NO; obtain ⟨HO, NO⟩ := HO; have ho := HO.out.2.1; have M1 := M0.tr m'; obtain ⟨y1, hy⟩ : ∃ q_, q_ = setF (Alu.shiftF y.s.r.sp (nn % 256)) (pairS 2 (Alu.shiftR y.s.r.sp (nn % 256)) (idle y)) := ⟨_, rfl⟩; rw [← hy] at s'; have Y1 := Lib.hid hy; clear hc hf; obtain ⟨hc, hf⟩ := s'.cp; have S1 := Lib.hid s'; clear s' m' hy; go_wp2
 first | go_end0 | refine bodyPost_ret (results_none rfl _ _ _) rfl ?_
 refine ⟨rfl, v1, ?_, M1.out⟩
 have q := S1.out; have e := Y1.out.symm; subst e
 exact q.mo
theorem perf_44 (h0 : Sys procD ramC w P R M tb v y n) (hn : n < 950000) (x z s nn : Int) (t : Bool) : Calls Tryz.prog 55 #[.pointer (some ⟨P, 0, none⟩), .agg #[.int .i64 44, .int .i64 x, .int .i64 z, .int .i64 s, .int .u16 nn], .bool t] w (PE procD ramC P R M tb v w (.tuple #[]) (setF (Alu.bitF x (getY z y) y.s.r.f) (getS z y)) (n + 1)) := by
 obtain ⟨S0, M0, HO, NO⟩ := h0.beg #[.int .i64 44, .int .i64 x, .int .i64 z, .int .i64 s, .int .u16 nn] 44; obtain ⟨hc, hf⟩ := S0.out.cp; clear h0; go_enter Tryz.func55, Tryz.ntmps55; go_wp2_with fail; generalize w.alloc (.cells #[.int .i64 44, .int .i64 x, .int .i64 z, .int .i64 s, .int .u16 nn] 44) = w0 at S0 M0 HO hc hf ⊢; generalize w.heap.size = ob at HO NO ⊢; have ho := HO.out.2.1
 with_reducible refine (calc_44 S0.out (by omega) x z s nn).mono ?_
 rintro e w1 ⟨rfl, v1, s', m'⟩; replace HO := m'.two HO NO; clear ho NO; obtain ⟨HO, NO⟩ := HO; have ho := HO.out.2.1; have M1 := M0.tr m'; obtain ⟨y1, hy⟩ : ∃ q_, q_ = setF (Alu.bitF x (getY z y) y.s.r.f) (getS z y) := ⟨_, rfl⟩; rw [← hy] at s'; have Y1 := Lib.hid hy; clear hc hf; obtain ⟨hc, hf⟩ := s'.cp; have S1 := Lib.hid s'; clear s' m' hy; go_wp2
 first | go_end0 | refine bodyPost_ret (results_none rfl _ _ _) rfl ?_
 refine ⟨rfl, v1, ?_, M1.out⟩
 have q := S1.out; have e := Y1.out.symm; subst e
 exact q.mo
theorem perf_45 (h0 : Sys procD ramC w P R M tb v y n) (hn : n < 950000) (x z s nn : Int) (x0 : 0 ≤ x) (x1 : x < 8) (t : Bool) : Calls Tryz.prog 55 #[.pointer (some ⟨P, 0, none⟩), .agg #[.int .i64 45, .int .i64 x, .int .i64 z, .int .i64 s, .int .u16 nn], .bool t] w (PE procD ramC P R M tb v w (.tuple #[]) (putS z (clr (getY z y) x.toNat) (getS z y)) (n + 2)) := by
 obtain ⟨S0, M0, HO, NO⟩ := h0.beg #[.int .i64 45, .int .i64 x, .int .i64 z, .int .i64 s, .int .u16 nn] 44; obtain ⟨hc, hf⟩ := S0.out.cp; clear h0; go_enter Tryz.func55, Tryz.ntmps55; go_wp2_with fail; generalize w.alloc (.cells #[.int .i64 45, .int .i64 x, .int .i64 z, .int .i64 s, .int .u16 nn] 44) = w0 at S0 M0 HO hc hf ⊢; generalize w.heap.size = ob at HO NO ⊢; have ho := HO.out.2.1
 with_reducible refine (calc_45 S0.out (by omega) x z s nn x0 x1).mono ?_
 rintro e w1 ⟨rfl, v1, s', m'⟩; replace HO := m'.two HO NO; clear ho NO; obtain ⟨HO, NO⟩ := HO; have ho := HO.out.2.1; have M1 := M0.tr m'; obtain ⟨y1, hy⟩ : ∃ q_, q_ = putS z (clr (getY z y) x.toNat) (getS z y) := ⟨_, rfl⟩; rw [← hy] at s'; have Y1 := Lib.hid hy; clear hc hf; obtain ⟨hc, hf⟩ := s'.cp; have S1 := Lib.hid s'; clear s' m' hy; go_wp2
 first | go_end0 | refine bodyPost_ret (results_none rfl _ _ _) rfl ?_
 refine ⟨rfl, v1, ?_, M1.out⟩
 have q := S1.out; have e := Y1.out.symm; subst e
 exact q.mo
theorem perf_46 (h0 : Sys procD ramC w P R M tb v y n) (hn : n < 950000) (x z s nn : Int) (x0 : 0 ≤ x) (x1 : x < 8) (t : Bool) : Calls Tryz.prog 55 #[.pointer (some ⟨P, 0, none⟩), .agg #[.int .i64 46, .int .i64 x, .int .i64 z, .int .i64 s, .int .u16 nn], .bool t] w (PE procD ramC P R M tb v w (.tuple #[]) (putS z (put (getY z y) x.toNat) (getS z y)) (n + 2)) := by
 obtain ⟨S0, M0, HO, NO⟩ := h0.beg #[.int .i64 46, .int .i64 x, .int .i64 z, .int .i64 s, .int .u16 nn] 44; obtain ⟨hc, hf⟩ := S0.out.cp; clear h0; go_enter Tryz.func55, Tryz.ntmps55; go_wp2_with fail; generalize w.alloc (.cells #[.int .i64 46, .int .i64 x, .int .i64 z, .int .i64 s, .int .u16 nn] 44) = w0 at S0 M0 HO hc hf ⊢; generalize w.heap.size = ob at HO NO ⊢; have ho := HO.out.2.1
 with_reducible refine (calc_46 S0.out (by omega) x z s nn x0 x1).mono ?_
 rintro e w1 ⟨rfl, v1, s', m'⟩; replace HO := m'.two HO NO; clear ho NO; obtain ⟨HO, NO⟩ := HO; have ho := HO.out.2.1; have M1 := M0.tr m'; obtain ⟨y1, hy⟩ : ∃ q_, q_ = putS z (put (getY z y) x.toNat) (getS z y) := ⟨_, rfl⟩; rw [← hy] at s'; have Y1 := Lib.hid hy; clear hc hf; obtain ⟨hc, hf⟩ := s'.cp; have S1 := Lib.hid s'; clear s' m' hy; go_wp2
 first | go_end0 | refine bodyPost_ret (results_none rfl _ _ _) rfl ?_
 refine ⟨rfl, v1, ?_, M1.out⟩
 have q := S1.out; have e := Y1.out.symm; subst e
 exact q.mo
theorem perf_1 (h0 : Sys procD ramC w P R M tb v y n) (hn : n < 950000) (x z s nn : Int) (t : Bool) : Calls Tryz.prog 55 #[.pointer (some ⟨P, 0, none⟩), .agg #[.int .i64 1, .int .i64 x, .int .i64 z, .int .i64 s, .int .u16 nn], .bool t] w (PE procD ramC P R M tb v w (.tuple #[]) (y) (n + 0)) := by
 obtain ⟨S0, M0, HO, NO⟩ := h0.beg #[.int .i64 1, .int .i64 x, .int .i64 z, .int .i64 s, .int .u16 nn] 44; obtain ⟨hc, hf⟩ := S0.out.cp; clear h0; go_enter Tryz.func55, Tryz.ntmps55; go_wp2_with fail; generalize w.alloc (.cells #[.int .i64 1, .int .i64 x, .int .i64 z, .int .i64 s, .int .u16 nn] 44) = w0 at S0 M0 HO hc hf ⊢; generalize w.heap.size = ob at HO NO ⊢; have ho := HO.out.2.1
 with_reducible refine (calc_1 S0.out (by omega) x z s nn).mono ?_
 rintro e w1 ⟨rfl, v1, s', m'⟩; replace HO := m'.two HO NO; clear ho NO; obtain ⟨HO, NO⟩ := HO; have ho := HO.out.2.1; have M1 := M0.tr m'; obtain ⟨y1, hy⟩ : ∃ q_, q_ = y := ⟨_, rfl⟩; rw [← hy] at s'; have Y1 := Lib.hid hy; clear hc hf; obtain ⟨hc, hf⟩ := s'.cp; have S1 := Lib.hid s'; clear s' m' hy; go_wp2
 first | go_end0 | refine bodyPost_ret (results_none rfl _ _ _) rfl ?_
 refine ⟨rfl, v1, ?_, M1.out⟩
 have q := S1.out; have e := Y1.out.symm; subst e
 exact q.mo
theorem perf_7 (h0 : Sys procD ramC w P R M tb v y n) (hn : n < 950000) (x z s nn : Int) (t : Bool) : Calls Tryz.prog 55 #[.pointer (some ⟨P, 0, none⟩), .agg #[.int .i64 7, .int .i64 x, .int .i64 z, .int .i64 s, .int .u16 nn], .bool t] w (PE procD ramC P R M tb v w (.tuple #[]) (putS x (getY z y) (getS z y)) (n + 2)) := by
 obtain ⟨S0, M0, HO, NO⟩ := h0.beg #[.int .i64 7, .int .i64 x, .int .i64 z, .int .i64 s, .int .u16 nn] 44; obtain ⟨hc, hf⟩ := S0.out.cp; clear h0; go_enter Tryz.func55, Tryz.ntmps55; go_wp2_with fail; generalize w.alloc (.cells #[.int .i64 7, .int .i64 x, .int .i64 z, .int .i64 s, .int .u16 nn] 44) = w0 at S0 M0 HO hc hf ⊢; generalize w.heap.size = ob at HO NO ⊢; have ho := HO.out.2.1
 with_reducible refine (move_7 S0.out (by omega) x z s nn).mono ?_
 rintro e w1 ⟨rfl, v1, s', m'⟩; replace HO := m'.two HO NO; clear ho NO; obtain ⟨HO, NO⟩ := HO; have ho := HO.out.2.1; have M1 := M0.tr m'; obtain ⟨y1, hy⟩ : ∃ q_, q_ = putS x (getY z y) (getS z y) := ⟨_, rfl⟩; rw [← hy] at s'; have Y1 := Lib.hid hy; clear hc hf; obtain ⟨hc, hf⟩ := s'.cp; have S1 := Lib.hid s'; clear s' m' hy; go_wp2
 first | go_end0 | refine bodyPost_ret (results_none rfl _ _ _) rfl ?_
 refine ⟨rfl, v1, ?_, M1.out⟩
 have q := S1.out; have e := Y1.out.symm; subst e
 exact q.mo
theorem perf_8 (h0 : Sys procD ramC w P R M tb v y n) (hn : n < 950000) (x z s nn : Int) (t : Bool) : Calls Tryz.prog 55 #[.pointer (some ⟨P, 0, none⟩), .agg #[.int .i64 8, .int .i64 x, .int .i64 z, .int .i64 s, .int .u16 nn], .bool t] w (PE procD ramC P R M tb v w (.tuple #[]) (putS x (nn % 256) y) (n + 1)) := by
 obtain ⟨S0, M0, HO, NO⟩ := h0.beg #[.int .i64 8, .int .i64 x, .int .i64 z, .int .i64 s, .int .u16 nn] 44; obtain ⟨hc, hf⟩ := S0.out.cp; clear h0; go_enter Tryz.func55, Tryz.ntmps55; go_wp2_with fail; generalize w.alloc (.cells #[.int .i64 8, .int .i64 x, .int .i64 z, .int .i64 s, .int .u16 nn] 44) = w0 at S0 M0 HO hc hf ⊢; generalize w.heap.size = ob at HO NO ⊢; have ho := HO.out.2.1
 with_reducible refine (move_8 S0.out (by omega) x z s nn).mono ?_
 rintro e w1 ⟨rfl, v1, s', m'⟩; replace HO := m'.two HO NO; clear ho NO; obtain ⟨HO, NO⟩ := HO; have ho := HO.out.2.1; have M1 := M0.tr m'; obtain ⟨y1, hy⟩ : ∃ q_, q_ = putS x (nn % 256) y := ⟨_, rfl⟩; rw [← hy] at s'; have Y1 := Lib.hid hy; clear hc hf; obtain ⟨hc, hf⟩ := s'.cp; have S1 := Lib.hid s'; clear s' m' hy; go_wp2
 first | go_end0 | refine bodyPost_ret (results_none rfl _ _ _) rfl ?_
 refine ⟨rfl, v1, ?_, M1.out⟩
 have q := S1.out; have e := Y1.out.symm; subst e
 exact q.mo
theorem perf_9 (h0 : Sys procD ramC w P R M tb v y n) (hn : n < 950000) (x z s nn : Int) (n0 : 0 ≤ nn) (n1 : nn < 65536) (t : Bool) : Calls Tryz.prog 55 #[.pointer (some ⟨P, 0, none⟩), .agg #[.int .i64 9, .int .i64 x, .int .i64 z, .int .i64 s, .int .u16 nn], .bool t] w (PE procD ramC P R M tb v w (.tuple #[]) (pairS x nn y) (n + 0)) := by
 obtain ⟨S0, M0, HO, NO⟩ := h0.beg #[.int .i64 9, .int .i64 x, .int .i64 z, .int .i64 s, .int .u16 nn] 44; obtain ⟨hc, hf⟩ := S0.out.cp; clear h0; go_enter Tryz.func55, Tryz.ntmps55; go_wp2_with fail; generalize w.alloc (.cells #[.int .i64 9, .int .i64 x, .int .i64 z, .int .i64 s, .int .u16 nn] 44) = w0 at S0 M0 HO hc hf ⊢; generalize w.heap.size = ob at HO NO ⊢; have ho := HO.out.2.1
 with_reducible refine (move_9 S0.out (by omega) x z s nn n0 n1).mono ?_
 rintro e w1 ⟨rfl, v1, s', m'⟩; replace HO := m'.two HO NO; clear ho NO; obtain ⟨HO, NO⟩ := HO; have ho := HO.out.2.1; have M1 := M0.tr m'; obtain ⟨y1, hy⟩ : ∃ q_, q_ = pairS x nn y := ⟨_, rfl⟩; rw [← hy] at s'; have Y1 := Lib.hid hy; clear hc hf; obtain ⟨hc, hf⟩ := s'.cp; have S1 := Lib.hid s'; clear s' m' hy; go_wp2
 first | go_end0 | refine bodyPost_ret (results_none rfl _ _ _) rfl ?_
 refine ⟨rfl, v1, ?_, M1.out⟩
 have q := S1.out; have e := Y1.out.symm; subst e
 exact q.mo
theorem perf_43 (h0 : Sys procD ramC w P R M tb v y n) (hn : n < 950000) (x z s nn : Int) (t : Bool) : Calls Tryz.prog 55 #[.pointer (some ⟨P, 0, none⟩), .agg #[.int .i64 43, .int .i64 x, .int .i64 z, .int .i64 s, .int .u16 nn], .bool t] w (PE procD ramC P R M tb v w (.tuple #[]) (setSP (hlV y) (idle y)) (n + 1)) := by
 obtain ⟨S0, M0, HO, NO⟩ := h0.beg #[.int .i64 43, .int .i64 x, .int .i64 z, .int .i64 s, .int .u16 nn] 44; obtain ⟨hc, hf⟩ := S0.out.cp; clear h0; go_enter Tryz.func55, Tryz.ntmps55; go_wp2_with fail; generalize w.alloc (.cells #[.int .i64 43, .int .i64 x, .int .i64 z, .int .i64 s, .int .u16 nn] 44) = w0 at S0 M0 HO hc hf ⊢; generalize w.heap.size = ob at HO NO ⊢; have ho := HO.out.2.1
 with_reducible refine (move_43 S0.out (by omega) x z s nn).mono ?_
 rintro e w1 ⟨rfl, v1, s', m'⟩; replace HO := m'.two HO NO; clear ho NO; obtain ⟨HO, NO⟩ := HO; have ho := HO.out.2.1; have M1 := M0.tr m'; obtain ⟨y1, hy⟩ : ∃ q_, q_ = setSP (hlV y) (idle y) := ⟨_, rfl⟩; rw [← hy] at s'; have Y1 := Lib.hid hy; clear hc hf; obtain ⟨hc, hf⟩ := s'.cp; have S1 := Lib.hid s'; clear s' m' hy; go_wp2
 first | go_end0 | refine bodyPost_ret (results_none rfl _ _ _) rfl ?_
 refine ⟨rfl, v1, ?_, M1.out⟩
 have q := S1.out; have e := Y1.out.symm; subst e
 exact q.mo
theorem perf_40 (h0 : Sys procD ramC w P R M tb v y n) (hn : n < 950000) (x z s nn : Int) (n0 : 0 ≤ nn) (n1 : nn < 65536) (t : Bool) : Calls Tryz.prog 55 #[.pointer (some ⟨P, 0, none⟩), .agg #[.int .i64 40, .int .i64 x, .int .i64 z, .int .i64 s, .int .u16 nn], .bool t] w (PE procD ramC P R M tb v w (.tuple #[]) (wr (up nn) (y.s.r.sp / 256) (wr nn (y.s.r.sp % 256) y)) (n + 2)) := by
 obtain ⟨S0, M0, HO, NO⟩ := h0.beg #[.int .i64 40, .int .i64 x, .int .i64 z, .int .i64 s, .int .u16 nn] 44; obtain ⟨hc, hf⟩ := S0.out.cp; clear h0; go_enter Tryz.func55, Tryz.ntmps55; go_wp2_with fail; generalize w.alloc (.cells #[.int .i64 40, .int .i64 x, .int .i64 z, .int .i64 s, .int .u16 nn] 44) = w0 at S0 M0 HO hc hf ⊢; generalize w.heap.size = ob at HO NO ⊢; have ho := HO.out.2.1
 with_reducible refine (move_40 S0.out (by omega) x z s nn n0 n1).mono ?_
 rintro e w1 ⟨rfl, v1, s', m'⟩; replace HO := m'.two HO NO; clear ho NO; obtain ⟨HO, NO⟩ := HO; have ho := HO.out.2.1; have M1 := M0.tr m'; obtain ⟨y1, hy⟩ : ∃ q_, q_ = wr (up nn) (y.s.r.sp / 256) (wr nn (y.s.r.sp % 256) y) := ⟨_, rfl⟩; rw [← hy] at s'; have Y1 := Lib.hid hy; clear hc hf; obtain ⟨hc, hf⟩ := s'.cp; have S1 := Lib.hid s'; clear s' m' hy; go_wp2
 first | go_end0 | refine bodyPost_ret (results_none rfl _ _ _) rfl ?_
 refine ⟨rfl, v1, ?_, M1.out⟩
 have q := S1.out; have e := Y1.out.symm; subst e
 exact q.mo
theorem perf_23_t (h0 : Sys procD ramC w P R M tb v y n) (hn : n < 950000) (x z s nn : Int) : Calls Tryz.prog 55 #[.pointer (some ⟨P, 0, none⟩), .agg #[.int .i64 23, .int .i64 x, .int .i64 z, .int .i64 s, .int .u16 nn], .bool true] w (PE procD ramC P R M tb v w (.tuple #[]) (setPC (jrV y.s.r.pc nn) (idle y)) (n + 1)) := by
 obtain ⟨S0, M0, HO, NO⟩ := h0.beg #[.int .i64 23, .int .i64 x, .int .i64 z, .int .i64 s, .int .u16 nn] 44; obtain ⟨hc, hf⟩ := S0.out.cp; clear h0; go_enter Tryz.func55, Tryz.ntmps55; go_wp2_with fail; generalize w.alloc (.cells #[.int .i64 23, .int .i64 x, .int .i64 z, .int .i64 s, .int .u16 nn] 44) = w0 at S0 M0 HO hc hf ⊢; generalize w.heap.size = ob at HO NO ⊢; have ho := HO.out.2.1
 with_reducible refine (br_23_t S0.out (by omega) x z s nn).mono ?_
 rintro e w1 ⟨rfl, v1, s', m'⟩; replace HO := m'.two HO NO; clear ho NO; obtain ⟨HO, NO⟩ := HO; have ho := HO.out.2.1; have M1 := M0.tr m'; obtain ⟨y1, hy⟩ : ∃ q_, q_ = setPC (jrV y.s.r.pc nn) (idle y) := ⟨_, rfl⟩; rw [← hy] at s'; have Y1 := Lib.hid hy; clear hc hf; obtain ⟨hc, hf⟩ := s'.cp; have S1 := Lib.hid s'; clear s' m' hy; go_wp2
 first | go_end0 | refine bodyPost_ret (results_none rfl _ _ _) rfl ?_
 refine ⟨rfl, v1, ?_, M1.out⟩
 have q := S1.out; have e := Y1.out.symm; subst e
 exact q.mo
theorem perf_24_t (h0 : Sys procD ramC w P R M tb v y n) (hn : n < 950000) (x z s nn : Int) (n0 : 0 ≤ nn) (n1 : nn < 65536) : Calls Tryz.prog 55 #[.pointer (some ⟨P, 0, none⟩), .agg #[.int .i64 24, .int .i64 x, .int .i64 z, .int .i64 s, .int .u16 nn], .bool true] w (PE procD ramC P R M tb v w (.tuple #[]) (setPC nn (idle y)) (n + 1)) := by
 obtain ⟨S0, M0, HO, NO⟩ := h0.beg #[.int .i64 24, .int .i64 x, .int .i64 z, .int .i64 s, .int .u16 nn] 44; obtain ⟨hc, hf⟩ := S0.out.cp; clear h0; go_enter Tryz.func55, Tryz.ntmps55; go_wp2_with fail; generalize w.alloc (.cells #[.int .i64 24, .int .i64 x, .int .i64 z, .int .i64 s, .int .u16 nn] 44) = w0 at S0 M0 HO hc hf ⊢; generalize w.heap.size = ob at HO NO ⊢; have ho := HO.out.2.1
 with_reducible refine (br_24_t S0.out (by omega) x z s nn n0 n1).mono ?_
 rintro e w1 ⟨rfl, v1, s', m'⟩; replace HO := m'.two HO NO; clear ho NO; obtain ⟨HO, NO⟩ := HO; have ho := HO.out.2.1; have M1 := M0.tr m'; obtain ⟨y1, hy⟩ : ∃ q_, q_ = setPC nn (idle y) := ⟨_, rfl⟩; rw [← hy] at s'; have Y1 := Lib.hid hy; clear hc hf; obtain ⟨hc, hf⟩ := s'.cp; have S1 := Lib.hid s'; clear s' m' hy; go_wp2
 first | go_end0 | refine bodyPost_ret (results_none rfl _ _ _) rfl ?_
 refine ⟨rfl, v1, ?_, M1.out⟩
 have q := S1.out; have e := Y1.out.symm; subst e
 exact q.mo
theorem perf_25_t (h0 : Sys procD ramC w P R M tb v y n) (hn : n < 950000) (x z s nn : Int) (n0 : 0 ≤ nn) (n1 : nn < 65536) : Calls Tryz.prog 55 #[.pointer (some ⟨P, 0, none⟩), .agg #[.int .i64 25, .int .i64 x, .int .i64 z, .int .i64 s, .int .u16 nn], .bool true] w (PE procD ramC P R M tb v w (.tuple #[]) (enterS nn y) (n + 3)) := by
 obtain ⟨S0, M0, HO, NO⟩ := h0.beg #[.int .i64 25, .int .i64 x, .int .i64 z, .int .i64 s, .int .u16 nn] 44; obtain ⟨hc, hf⟩ := S0.out.cp; clear h0; go_enter Tryz.func55, Tryz.ntmps55; go_wp2_with fail; generalize w.alloc (.cells #[.int .i64 25, .int .i64 x, .int .i64 z, .int .i64 s, .int .u16 nn] 44) = w0 at S0 M0 HO hc hf ⊢; generalize w.heap.size = ob at HO NO ⊢; have ho := HO.out.2.1
 with_reducible refine (br_25_t S0.out (by omega) x z s nn n0 n1).mono ?_
 rintro e w1 ⟨rfl, v1, s', m'⟩; replace HO := m'.two HO NO; clear ho NO; obtain ⟨HO, NO⟩ := HO; have ho := HO.out.2.1; have M1 := M0.tr m'; obtain ⟨y1, hy⟩ : ∃ q_, q_ = enterS nn y := ⟨_, rfl⟩; rw [← hy] at s'; have Y1 := Lib.hid hy; clear hc hf; obtain ⟨hc, hf⟩ := s'.cp; have S1 := Lib.hid s'; clear s' m' hy; go_wp2
 first | go_end0 | refine bodyPost_ret (results_none rfl _ _ _) rfl ?_
 refine ⟨rfl, v1, ?_, M1.out⟩
 have q := S1.out; have e := Y1.out.symm; subst e
 exact q.mo
theorem perf_23_f (h0 : Sys procD ramC w P R M tb v y n) (hn : n < 950000) (x z s nn : Int) : Calls Tryz.prog 55 #[.pointer (some ⟨P, 0, none⟩), .agg #[.int .i64 23, .int .i64 x, .int .i64 z, .int .i64 s, .int .u16 nn], .bool false] w (PE procD ramC P R M tb v w (.tuple #[]) (y) (n + 0)) := by
 obtain ⟨S0, M0, HO, NO⟩ := h0.beg #[.int .i64 23, .int .i64 x, .int .i64 z, .int .i64 s, .int .u16 nn] 44; obtain ⟨hc, hf⟩ := S0.out.cp; clear h0; go_enter Tryz.func55, Tryz.ntmps55; go_wp2_with fail; generalize w.alloc (.cells #[.int .i64 23, .int .i64 x, .int .i64 z, .int .i64 s, .int .u16 nn] 44) = w0 at S0 M0 HO hc hf ⊢; generalize w.heap.size = ob at HO NO ⊢; have ho := HO.out.2.1
 with_reducible refine (br_23_f S0.out (by omega) x z s nn).mono ?_
 rintro e w1 ⟨rfl, v1, s', m'⟩; replace HO := m'.two HO NO; clear ho NO; obtain ⟨HO, NO⟩ := HO; have ho := HO.out.2.1; have M1 := M0.tr m'; obtain ⟨y1, hy⟩ : ∃ q_, q_ = y := ⟨_, rfl⟩; rw [← hy] at s'; have Y1 := Lib.hid hy; clear hc hf; obtain ⟨hc, hf⟩ := s'.cp; have S1 := Lib.hid s'; clear s' m' hy; go_wp2
 first | go_end0 | refine bodyPost_ret (results_none rfl _ _ _) rfl ?_
 refine ⟨rfl, v1, ?_, M1.out⟩
 have q := S1.out; have e := Y1.out.symm; subst e
 exact q.mo
theorem perf_24_f (h0 : Sys procD ramC w P R M tb v y n) (hn : n < 950000) (x z s nn : Int) : Calls Tryz.prog 55 #[.pointer (some ⟨P, 0, none⟩), .agg #[.int .i64 24, .int .i64 x, .int .i64 z, .int .i64 s, .int .u16 nn], .bool false] w (PE procD ramC P R M tb v w (.tuple #[]) (y) (n + 0)) := by
 obtain ⟨S0, M0, HO, NO⟩ := h0.beg #[.int .i64 24, .int .i64 x, .int .i64 z, .int .i64 s, .int .u16 nn] 44; obtain ⟨hc, hf⟩ := S0.out.cp; clear h0; go_enter Tryz.func55, Tryz.ntmps55; go_wp2_with fail; generalize w.alloc (.cells #[.int .i64 24, .int .i64 x, .int .i64 z, .int .i64 s, .int .u16 nn] 44) = w0 at S0 M0 HO hc hf ⊢; generalize w.heap.size = ob at HO NO ⊢; have ho := HO.out.2.1
 with_reducible refine (br_24_f S0.out (by omega) x z s nn).mono ?_
 rintro e w1 ⟨rfl, v1, s', m'⟩; replace HO := m'.two HO NO; clear ho NO; obtain ⟨HO, NO⟩ := HO; have ho := HO.out.2.1; have M1 := M0.tr m'; obtain ⟨y1, hy⟩ : ∃ q_, q_ = y := ⟨_, rfl⟩; rw [← hy] at s'; have Y1 := Lib.hid hy; clear hc hf; obtain ⟨hc, hf⟩ := s'.cp; have S1 := Lib.hid s'; clear s' m' hy; go_wp2
 first | go_end0 | refine bodyPost_ret (results_none rfl _ _ _) rfl ?_
 refine ⟨rfl, v1, ?_, M1.out⟩
 have q := S1.out; have e := Y1.out.symm; subst e
 exact q.mo
theorem perf_25_f (h0 : Sys procD ramC w P R M tb v y n) (hn : n < 950000) (x z s nn : Int) : Calls Tryz.prog 55 #[.pointer (some ⟨P, 0, none⟩), .agg #[.int .i64 25, .int .i64 x, .int .i64 z, .int .i64 s, .int .u16 nn], .bool false] w (PE procD ramC P R M tb v w (.tuple #[]) (y) (n + 0)) := by
 obtain ⟨S0, M0, HO, NO⟩ := h0.beg #[.int .i64 25, .int .i64 x, .int .i64 z, .int .i64 s, .int .u16 nn] 44; obtain ⟨hc, hf⟩ := S0.out.cp; clear h0; go_enter Tryz.func55, Tryz.ntmps55; go_wp2_with fail; generalize w.alloc (.cells #[.int .i64 25, .int .i64 x, .int .i64 z, .int .i64 s, .int .u16 nn] 44) = w0 at S0 M0 HO hc hf ⊢; generalize w.heap.size = ob at HO NO ⊢; have ho := HO.out.2.1
 with_reducible refine (br_25_f S0.out (by omega) x z s nn).mono ?_
 rintro e w1 ⟨rfl, v1, s', m'⟩; replace HO := m'.two HO NO; clear ho NO; obtain ⟨HO, NO⟩ := HO; have ho := HO.out.2.1; have M1 := M0.tr m'; obtain ⟨y1, hy⟩ : ∃ q_, q_ = y := ⟨_, rfl⟩; rw [← hy] at s'; have Y1 := Lib.hid hy; clear hc hf; obtain ⟨hc, hf⟩ := s'.cp; have S1 := Lib.hid s'; clear s' m' hy; go_wp2
 first | go_end0 | refine bodyPost_ret (results_none rfl _ _ _) rfl ?_
 refine ⟨rfl, v1, ?_, M1.out⟩
 have q := S1.out; have e := Y1.out.symm; subst e
 exact q.mo
theorem perf_26_t4 (h0 : Sys procD ramC w P R M tb v y n) (hn : n < 950000) (z s nn : Int) : Calls Tryz.prog 55 #[.pointer (some ⟨P, 0, none⟩), .agg #[.int .i64 26, .int .i64 4, .int .i64 z, .int .i64 s, .int .u16 nn], .bool true] w (PE procD ramC P R M tb v w (.tuple #[]) (leaveS y) (n + 3)) := by
 obtain ⟨S0, M0, HO, NO⟩ := h0.beg #[.int .i64 26, .int .i64 4, .int .i64 z, .int .i64 s, .int .u16 nn] 44; obtain ⟨hc, hf⟩ := S0.out.cp; clear h0; go_enter Tryz.func55, Tryz.ntmps55; go_wp2_with fail; generalize w.alloc (.cells #[.int .i64 26, .int .i64 4, .int .i64 z, .int .i64 s, .int .u16 nn] 44) = w0 at S0 M0 HO hc hf ⊢; generalize w.heap.size = ob at HO NO ⊢; have ho := HO.out.2.1
 with_reducible refine (br_26_t4 S0.out (by omega) z s nn).mono ?_
 rintro e w1 ⟨rfl, v1, s', m'⟩; replace HO := m'.two HO NO; clear ho NO; obtain ⟨HO, NO⟩ := HO; have ho := HO.out.2.1; have M1 := M0.tr m'; obtain ⟨y1, hy⟩ : ∃ q_, q_ = leaveS y := ⟨_, rfl⟩; rw [← hy] at s'; have Y1 := Lib.hid hy; clear hc hf; obtain ⟨hc, hf⟩ := s'.cp; have S1 := Lib.hid s'; clear s' m' hy; go_wp2
 first | go_end0 | refine bodyPost_ret (results_none rfl _ _ _) rfl ?_
 refine ⟨rfl, v1, ?_, M1.out⟩
 have q := S1.out; have e := Y1.out.symm; subst e
 exact q.mo
theorem perf_26_f4 (h0 : Sys procD ramC w P R M tb v y n) (hn : n < 950000) (z s nn : Int) : Calls Tryz.prog 55 #[.pointer (some ⟨P, 0, none⟩), .agg #[.int .i64 26, .int .i64 4, .int .i64 z, .int .i64 s, .int .u16 nn], .bool false] w (PE procD ramC P R M tb v w (.tuple #[]) (y) (n + 0)) := by
 obtain ⟨S0, M0, HO, NO⟩ := h0.beg #[.int .i64 26, .int .i64 4, .int .i64 z, .int .i64 s, .int .u16 nn] 44; obtain ⟨hc, hf⟩ := S0.out.cp; clear h0; go_enter Tryz.func55, Tryz.ntmps55; go_wp2_with fail; generalize w.alloc (.cells #[.int .i64 26, .int .i64 4, .int .i64 z, .int .i64 s, .int .u16 nn] 44) = w0 at S0 M0 HO hc hf ⊢; generalize w.heap.size = ob at HO NO ⊢; have ho := HO.out.2.1
 with_reducible refine (br_26_f4 S0.out (by omega) z s nn).mono ?_
 rintro e w1 ⟨rfl, v1, s', m'⟩; replace HO := m'.two HO NO; clear ho NO; obtain ⟨HO, NO⟩ := HO; have ho := HO.out.2.1; have M1 := M0.tr m'; obtain ⟨y1, hy⟩ : ∃ q_, q_ = y := ⟨_, rfl⟩; rw [← hy] at s'; have Y1 := Lib.hid hy; clear hc hf; obtain ⟨hc, hf⟩ := s'.cp; have S1 := Lib.hid s'; clear s' m' hy; go_wp2
 first | go_end0 | refine bodyPost_ret (results_none rfl _ _ _) rfl ?_
 refine ⟨rfl, v1, ?_, M1.out⟩
 have q := S1.out; have e := Y1.out.symm; subst e
 exact q.mo
theorem perf_26_t (h0 : Sys procD ramC w P R M tb v y n) (hn : n < 950000) (x z s nn : Int) (hx : x ≠ 4) : Calls Tryz.prog 55 #[.pointer (some ⟨P, 0, none⟩), .agg #[.int .i64 26, .int .i64 x, .int .i64 z, .int .i64 s, .int .u16 nn], .bool true] w (PE procD ramC P R M tb v w (.tuple #[]) (leaveS (idle y)) (n + 4)) := by
 obtain ⟨S0, M0, HO, NO⟩ := h0.beg #[.int .i64 26, .int .i64 x, .int .i64 z, .int .i64 s, .int .u16 nn] 44; obtain ⟨hc, hf⟩ := S0.out.cp; clear h0; go_enter Tryz.func55, Tryz.ntmps55; go_wp2_with fail; generalize w.alloc (.cells #[.int .i64 26, .int .i64 x, .int .i64 z, .int .i64 s, .int .u16 nn] 44) = w0 at S0 M0 HO hc hf ⊢; generalize w.heap.size = ob at HO NO ⊢; have ho := HO.out.2.1
 with_reducible refine (br_26_t S0.out (by omega) x z s nn hx).mono ?_
 rintro e w1 ⟨rfl, v1, s', m'⟩; replace HO := m'.two HO NO; clear ho NO; obtain ⟨HO, NO⟩ := HO; have ho := HO.out.2.1; have M1 := M0.tr m'; obtain ⟨y1, hy⟩ : ∃ q_, q_ = leaveS (idle y) := ⟨_, rfl⟩; rw [← hy] at s'; have Y1 := Lib.hid hy; clear hc hf; obtain ⟨hc, hf⟩ := s'.cp; have S1 := Lib.hid s'; clear s' m' hy; go_wp2
 first | go_end0 | refine bodyPost_ret (results_none rfl _ _ _) rfl ?_
 refine ⟨rfl, v1, ?_, M1.out⟩
 have q := S1.out; have e := Y1.out.symm; subst e
 exact q.mo
theorem perf_26_f (h0 : Sys procD ramC w P R M tb v y n) (hn : n < 950000) (x z s nn : Int) (hx : x ≠ 4) : Calls Tryz.prog 55 #[.pointer (some ⟨P, 0, none⟩), .agg #[.int .i64 26, .int .i64 x, .int .i64 z, .int .i64 s, .int .u16 nn], .bool false] w (PE procD ramC P R M tb v w (.tuple #[]) (idle y) (n + 1)) := by
 obtain ⟨S0, M0, HO, NO⟩ := h0.beg #[.int .i64 26, .int .i64 x, .int .i64 z, .int .i64 s, .int .u16 nn] 44; obtain ⟨hc, hf⟩ := S0.out.cp; clear h0; go_enter Tryz.func55, Tryz.ntmps55; go_wp2_with fail; generalize w.alloc (.cells #[.int .i64 26, .int .i64 x, .int .i64 z, .int .i64 s, .int .u16 nn] 44) = w0 at S0 M0 HO hc hf ⊢; generalize w.heap.size = ob at HO NO ⊢; have ho := HO.out.2.1
 with_reducible refine (br_26_f S0.out (by omega) x z s nn hx).mono ?_
 rintro e w1 ⟨rfl, v1, s', m'⟩; replace HO := m'.two HO NO; clear ho NO; obtain ⟨HO, NO⟩ := HO; have ho := HO.out.2.1; have M1 := M0.tr m'; obtain ⟨y1, hy⟩ : ∃ q_, q_ = idle y := ⟨_, rfl⟩; rw [← hy] at s'; have Y1 := Lib.hid hy; clear hc hf; obtain ⟨hc, hf⟩ := s'.cp; have S1 := Lib.hid s'; clear s' m' hy; go_wp2
 first | go_end0 | refine bodyPost_ret (results_none rfl _ _ _) rfl ?_
 refine ⟨rfl, v1, ?_, M1.out⟩
 have q := S1.out; have e := Y1.out.symm; subst e
 exact q.mo
end
end Go.Proofs.YtngdogldgcgnjaaGreat
