/-
  What holds, interrupt, standStill do: for every world; the processor is there.
-/
import Derived.Test.YtngdogldgcgnjaaGreatP4a
namespace Go.Proofs.YtngdogldgcgnjaaGreat
open Go.ChangeShapes Go.WideShapes Go.ChangeAt Go.RowKit
open Reg
set_option linter.unusedVariables false
set_option maxRecDepth 100000
section
variable {w : World} {P R M tb n : Nat} {v : Value} {y : Sy}
theorem tz8 (p : Int) (p0 : 0 ≤ p) (p1 : p < 32) (hp : p ≠ 0) (w : World) : Calls Tryz.prog 28 #[.int .u8 p] w fun e w' => e = .returned (.int .i64 (lowV p)) ∧ w = w' := by
 have hk : p = 1 ∨ p = 2 ∨ p = 3 ∨ p = 4 ∨ p = 5 ∨ p = 6 ∨ p = 7 ∨ p = 8 ∨ p = 9 ∨ p = 10 ∨ p = 11 ∨ p = 12 ∨ p = 13 ∨ p = 14 ∨ p = 15 ∨ p = 16 ∨ p = 17 ∨ p = 18 ∨ p = 19 ∨ p = 20 ∨ p = 21 ∨ p = 22 ∨ p = 23 ∨ p = 24 ∨ p = 25 ∨ p = 26 ∨ p = 27 ∨ p = 28 ∨ p = 29 ∨ p = 30 ∨ p = 31 := by omega
 clear p0 p1 hp
 rcases hk with rfl | rfl | rfl | rfl | rfl | rfl | rfl | rfl | rfl | rfl | rfl | rfl | rfl | rfl | rfl | rfl | rfl | rfl | rfl | rfl | rfl | rfl | rfl | rfl | rfl | rfl | rfl | rfl | rfl | rfl | rfl
 all_goals
  go_enter Tryz.func28, Tryz.ntmps28
  go_wp2
  go_ret
  exact ⟨by kernel_rfl, rfl⟩
theorem lowV_lt (p : Int) : lowV p < 5 := by unfold lowV; repeat (first | decide | split)
theorem v64 (k : Nat) (hk : k < 5) : IntKind.u16.wrap (64 + IntKind.u16.wrap (8 * IntKind.u16.wrap k)) = 64 + 8 * (k : Int) := by
 rw [IntKind.wrap_u16, IntKind.wrap_u16, IntKind.wrap_u16]; omega
set_option maxHeartbeats 2000000 in
theorem holds_23 (h0 : Sys procD ramC w P R M tb v y n) (hn : n < 900000) (x z s nn : Int) : Calls Tryz.prog 54 #[.pointer (some ⟨P, 0, none⟩), .agg #[.int .i64 23, .int .i64 x, .int .i64 z, .int .i64 s, .int .u16 nn]] w (PE procD ramC P R M tb v w (.bool (isV y.s.r x)) (y) (n + 0)) := by
 have fb := h0.fb
 have S0 := Lib.hid (h0.below (own1 w (.cells #[.int .i64 23, .int .i64 x, .int .i64 z, .int .i64 s, .int .u16 nn] 44)))
 have M0 := Lib.hid (show PM P R M tb v w v (w.alloc (.cells #[.int .i64 23, .int .i64 x, .int .i64 z, .int .i64 s, .int .u16 nn] 44)) from PM.of (own1 w (.cells #[.int .i64 23, .int .i64 x, .int .i64 z, .int .i64 s, .int .u16 nn] 44)))
 have HO := Lib.hid (Has.new w #[.int .i64 23, .int .i64 x, .int .i64 z, .int .i64 s, .int .u16 nn] 44)
 have NO := Lib.hid (h0.new (Nat.le_refl w.heap.size))
 obtain ⟨hc, hf⟩ := S0.out.cp
 clear h0
 go_enter Tryz.func54, Tryz.ntmps54
 go_wp2
 generalize w.alloc (.cells #[.int .i64 23, .int .i64 x, .int .i64 z, .int .i64 s, .int .u16 nn] 44) = w0 at S0 M0 HO hc hf ⊢
 generalize w.heap.size = ob at HO NO ⊢
 have ho := HO.out.2.1
 have S0' := Lib.hid S0.out.drew
 have M0' := Lib.hid (M0.out.trans (PM.drew P R M tb v w0))
 clear hc hf
 obtain ⟨hc, hf⟩ := S0'.out.cp
 have HO' := Lib.hid HO.out.drew
 clear ho HO
 have HO := HO'
 clear HO'
 have ho := HO.out.2.1
 go_still_tail 7, (by kernel_rfl)
 change wpList _ _ _ _ _ (World.drew w0)
 generalize World.drew w0 = u0 at hc hf S0' M0' HO ho ⊢
 clear S0 M0
 have S0 := S0'
 have M0 := M0'
 clear S0' M0'
 go_wp2_with fail
 with_reducible refine (is_c y.s.r x fb.1 fb.2 _).mono ?_
 rintro e w1 ⟨rfl, hb⟩
 have HB := Lib.hid hb
 clear hb
 go_wp2
 go_ret
 exact ⟨rfl, v, S0.out.below HB.out, M0.out.trans (PM.of HB.out)⟩
set_option maxHeartbeats 2000000 in
theorem holds_24 (h0 : Sys procD ramC w P R M tb v y n) (hn : n < 900000) (x z s nn : Int) : Calls Tryz.prog 54 #[.pointer (some ⟨P, 0, none⟩), .agg #[.int .i64 24, .int .i64 x, .int .i64 z, .int .i64 s, .int .u16 nn]] w (PE procD ramC P R M tb v w (.bool (isV y.s.r x)) (y) (n + 0)) := by
 have fb := h0.fb
 have S0 := Lib.hid (h0.below (own1 w (.cells #[.int .i64 24, .int .i64 x, .int .i64 z, .int .i64 s, .int .u16 nn] 44)))
 have M0 := Lib.hid (show PM P R M tb v w v (w.alloc (.cells #[.int .i64 24, .int .i64 x, .int .i64 z, .int .i64 s, .int .u16 nn] 44)) from PM.of (own1 w (.cells #[.int .i64 24, .int .i64 x, .int .i64 z, .int .i64 s, .int .u16 nn] 44)))
 have HO := Lib.hid (Has.new w #[.int .i64 24, .int .i64 x, .int .i64 z, .int .i64 s, .int .u16 nn] 44)
 have NO := Lib.hid (h0.new (Nat.le_refl w.heap.size))
 obtain ⟨hc, hf⟩ := S0.out.cp
 clear h0
 go_enter Tryz.func54, Tryz.ntmps54
 go_wp2
 generalize w.alloc (.cells #[.int .i64 24, .int .i64 x, .int .i64 z, .int .i64 s, .int .u16 nn] 44) = w0 at S0 M0 HO hc hf ⊢
 generalize w.heap.size = ob at HO NO ⊢
 have ho := HO.out.2.1
 have S0' := Lib.hid S0.out.drew
 have M0' := Lib.hid (M0.out.trans (PM.drew P R M tb v w0))
 clear hc hf
 obtain ⟨hc, hf⟩ := S0'.out.cp
 have HO' := Lib.hid HO.out.drew
 clear ho HO
 have HO := HO'
 clear HO'
 have ho := HO.out.2.1
 go_still_tail 7, (by kernel_rfl)
 change wpList _ _ _ _ _ (World.drew w0)
 generalize World.drew w0 = u0 at hc hf S0' M0' HO ho ⊢
 clear S0 M0
 have S0 := S0'
 have M0 := M0'
 clear S0' M0'
 go_wp2_with fail
 with_reducible refine (is_c y.s.r x fb.1 fb.2 _).mono ?_
 rintro e w1 ⟨rfl, hb⟩
 have HB := Lib.hid hb
 clear hb
 go_wp2
 go_ret
 exact ⟨rfl, v, S0.out.below HB.out, M0.out.trans (PM.of HB.out)⟩
set_option maxHeartbeats 2000000 in
theorem holds_25 (h0 : Sys procD ramC w P R M tb v y n) (hn : n < 900000) (x z s nn : Int) : Calls Tryz.prog 54 #[.pointer (some ⟨P, 0, none⟩), .agg #[.int .i64 25, .int .i64 x, .int .i64 z, .int .i64 s, .int .u16 nn]] w (PE procD ramC P R M tb v w (.bool (isV y.s.r x)) (y) (n + 0)) := by
 have fb := h0.fb
 have S0 := Lib.hid (h0.below (own1 w (.cells #[.int .i64 25, .int .i64 x, .int .i64 z, .int .i64 s, .int .u16 nn] 44)))
 have M0 := Lib.hid (show PM P R M tb v w v (w.alloc (.cells #[.int .i64 25, .int .i64 x, .int .i64 z, .int .i64 s, .int .u16 nn] 44)) from PM.of (own1 w (.cells #[.int .i64 25, .int .i64 x, .int .i64 z, .int .i64 s, .int .u16 nn] 44)))
 have HO := Lib.hid (Has.new w #[.int .i64 25, .int .i64 x, .int .i64 z, .int .i64 s, .int .u16 nn] 44)
 have NO := Lib.hid (h0.new (Nat.le_refl w.heap.size))
 obtain ⟨hc, hf⟩ := S0.out.cp
 clear h0
 go_enter Tryz.func54, Tryz.ntmps54
 go_wp2
 generalize w.alloc (.cells #[.int .i64 25, .int .i64 x, .int .i64 z, .int .i64 s, .int .u16 nn] 44) = w0 at S0 M0 HO hc hf ⊢
 generalize w.heap.size = ob at HO NO ⊢
 have ho := HO.out.2.1
 have S0' := Lib.hid S0.out.drew
 have M0' := Lib.hid (M0.out.trans (PM.drew P R M tb v w0))
 clear hc hf
 obtain ⟨hc, hf⟩ := S0'.out.cp
 have HO' := Lib.hid HO.out.drew
 clear ho HO
 have HO := HO'
 clear HO'
 have ho := HO.out.2.1
 go_still_tail 7, (by kernel_rfl)
 change wpList _ _ _ _ _ (World.drew w0)
 generalize World.drew w0 = u0 at hc hf S0' M0' HO ho ⊢
 clear S0 M0
 have S0 := S0'
 have M0 := M0'
 clear S0' M0'
 go_wp2_with fail
 with_reducible refine (is_c y.s.r x fb.1 fb.2 _).mono ?_
 rintro e w1 ⟨rfl, hb⟩
 have HB := Lib.hid hb
 clear hb
 go_wp2
 go_ret
 exact ⟨rfl, v, S0.out.below HB.out, M0.out.trans (PM.of HB.out)⟩
set_option maxHeartbeats 2000000 in
theorem holds_26 (h0 : Sys procD ramC w P R M tb v y n) (hn : n < 900000) (x z s nn : Int) : Calls Tryz.prog 54 #[.pointer (some ⟨P, 0, none⟩), .agg #[.int .i64 26, .int .i64 x, .int .i64 z, .int .i64 s, .int .u16 nn]] w (PE procD ramC P R M tb v w (.bool (isV y.s.r x)) (y) (n + 0)) := by
 have fb := h0.fb
 have S0 := Lib.hid (h0.below (own1 w (.cells #[.int .i64 26, .int .i64 x, .int .i64 z, .int .i64 s, .int .u16 nn] 44)))
 have M0 := Lib.hid (show PM P R M tb v w v (w.alloc (.cells #[.int .i64 26, .int .i64 x, .int .i64 z, .int .i64 s, .int .u16 nn] 44)) from PM.of (own1 w (.cells #[.int .i64 26, .int .i64 x, .int .i64 z, .int .i64 s, .int .u16 nn] 44)))
 have HO := Lib.hid (Has.new w #[.int .i64 26, .int .i64 x, .int .i64 z, .int .i64 s, .int .u16 nn] 44)
 have NO := Lib.hid (h0.new (Nat.le_refl w.heap.size))
 obtain ⟨hc, hf⟩ := S0.out.cp
 clear h0
 go_enter Tryz.func54, Tryz.ntmps54
 go_wp2
 generalize w.alloc (.cells #[.int .i64 26, .int .i64 x, .int .i64 z, .int .i64 s, .int .u16 nn] 44) = w0 at S0 M0 HO hc hf ⊢
 generalize w.heap.size = ob at HO NO ⊢
 have ho := HO.out.2.1
 have S0' := Lib.hid S0.out.drew
 have M0' := Lib.hid (M0.out.trans (PM.drew P R M tb v w0))
 clear hc hf
 obtain ⟨hc, hf⟩ := S0'.out.cp
 have HO' := Lib.hid HO.out.drew
 clear ho HO
 have HO := HO'
 clear HO'
 have ho := HO.out.2.1
 go_still_tail 7, (by kernel_rfl)
 change wpList _ _ _ _ _ (World.drew w0)
 generalize World.drew w0 = u0 at hc hf S0' M0' HO ho ⊢
 clear S0 M0
 have S0 := S0'
 have M0 := M0'
 clear S0' M0'
 go_wp2_with fail
 with_reducible refine (is_c y.s.r x fb.1 fb.2 _).mono ?_
 rintro e w1 ⟨rfl, hb⟩
 have HB := Lib.hid hb
 clear hb
 go_wp2
 go_ret
 exact ⟨rfl, v, S0.out.below HB.out, M0.out.trans (PM.of HB.out)⟩
set_option maxHeartbeats 2000000 in
theorem holds_n (h0 : Sys procD ramC w P R M tb v y n) (hn : n < 900000) (k x z s nn : Int) (a23 : k ≠ 23) (a24 : k ≠ 24) (a25 : k ≠ 25) (a26 : k ≠ 26) : Calls Tryz.prog 54 #[.pointer (some ⟨P, 0, none⟩), .agg #[.int .i64 k, .int .i64 x, .int .i64 z, .int .i64 s, .int .u16 nn]] w (PE procD ramC P R M tb v w (.bool true) (y) (n + 0)) := by
 have h23 : (k == 23) = false := by simpa using a23
 have h24 : (k == 24) = false := by simpa using a24
 have h25 : (k == 25) = false := by simpa using a25
 have h26 : (k == 26) = false := by simpa using a26
 have S0 := Lib.hid (h0.below (own1 w (.cells #[.int .i64 k, .int .i64 x, .int .i64 z, .int .i64 s, .int .u16 nn] 44)))
 have M0 := Lib.hid (show PM P R M tb v w v (w.alloc (.cells #[.int .i64 k, .int .i64 x, .int .i64 z, .int .i64 s, .int .u16 nn] 44)) from PM.of (own1 w (.cells #[.int .i64 k, .int .i64 x, .int .i64 z, .int .i64 s, .int .u16 nn] 44)))
 have HO := Lib.hid (Has.new w #[.int .i64 k, .int .i64 x, .int .i64 z, .int .i64 s, .int .u16 nn] 44)
 have NO := Lib.hid (h0.new (Nat.le_refl w.heap.size))
 obtain ⟨hc, hf⟩ := S0.out.cp
 clear h0
 go_enter Tryz.func54, Tryz.ntmps54
 go_wp2
 go_ret
 exact ⟨rfl, v, S0.out, M0.out⟩
theorem holds_p (h0 : Sys procD ramC w P R M tb v y n) (hn : n < 900000) (o : OpV) : Calls Tryz.prog 54 #[.pointer (some ⟨P, 0, none⟩), .agg #[.int .i64 o.k, .int .i64 o.x, .int .i64 o.y, .int .i64 o.s, .int .u16 o.n]] w (PE procD ramC P R M tb v w (.bool (takenV o y)) y (n + 0)) := by
 obtain ⟨k, x, z, s, nn⟩ := o
 by_cases h : k = 23 ∨ k = 24 ∨ k = 25 ∨ k = 26
 ·rcases h with rfl | rfl | rfl | rfl
  ·exact holds_23 h0 hn x z s nn
  ·exact holds_24 h0 hn x z s nn
  ·exact holds_25 h0 hn x z s nn
  ·exact holds_26 h0 hn x z s nn
 ·have e : takenV ⟨k, x, z, s, nn⟩ y = true := if_neg h
  rw [e]
  exact holds_n h0 hn k x z s nn (by omega) (by omega) (by omega) (by omega)
set_option maxHeartbeats 2000000 in
theorem inter_p (h0 : Sys procD ramC w P R M tb v y n) (hn : n < 900000) (k : Nat) (hk : k < 5) : Calls Tryz.prog 29 #[.pointer (some ⟨P, 0, none⟩), .int .i64 k] w (PE procD ramC P R M tb v w (.tuple #[]) (interS k y) (n + 5)) := by
 have hm := mI ⟨R, 0, none⟩
 have hma := mA ⟨R, 0, none⟩
 have hw := v64 k hk
 have S0 := Lib.hid h0
 have M0 := Lib.hid (PM.refl P R M tb v w)
 obtain ⟨hc, hf⟩ := h0.cp
 clear h0
 go_enter Tryz.func29, Tryz.ntmps29
 go_wp2_with fail
 with_reducible refine (idle_p S0.out (by omega)).mono ?_
 rintro e w1 ⟨rfl, v1, s', m'⟩
 have M1 := Lib.hid (M0.out.trans m')
 obtain ⟨y1, hy⟩ : ∃ q_, q_ = idle y := ⟨_, rfl⟩
 rw [← hy] at s'
 have Y1 := Lib.hid hy
 clear hc hf
 obtain ⟨hc, hf⟩ := s'.cp
 have S1 := Lib.hid s'
 clear s' m' hy
 go_wp2_with fail
 with_reducible refine (idle_p S1.out (by omega)).mono ?_
 rintro e w2 ⟨rfl, v2, s', m'⟩
 have M2 := Lib.hid (M1.out.trans m')
 obtain ⟨y2, hy⟩ : ∃ q_, q_ = idle y1 := ⟨_, rfl⟩
 rw [← hy] at s'
 have Y2 := Lib.hid hy
 clear hc hf
 obtain ⟨hc, hf⟩ := s'.cp
 have S2 := Lib.hid s'
 clear s' m' hy
 go_wp2_with fail
 with_reducible refine (store_p S2.out (by omega) y2.s.r.pc S2.out.pcb.1 S2.out.pcb.2).mono ?_
 rintro e w3 ⟨rfl, v3, s', m'⟩
 have M3 := Lib.hid (M2.out.trans m')
 obtain ⟨y3, hy⟩ : ∃ q_, q_ = storeS y2.s.r.pc y2 := ⟨_, rfl⟩
 rw [← hy] at s'
 have Y3 := Lib.hid hy
 clear hc hf
 obtain ⟨hc, hf⟩ := s'.cp
 have S3 := Lib.hid s'
 clear s' m' hy
 go_wp2_with fail
 with_reducible refine (ack_p S3.out k hk).mono ?_
 rintro e w4 ⟨rfl, v4, s', m'⟩
 have M4 := Lib.hid (M3.out.trans m')
 obtain ⟨y4, hy⟩ : ∃ q_, q_ = setM (ackM k y3.m) y3 := ⟨_, rfl⟩
 rw [← hy] at s'
 have Y4 := Lib.hid hy
 clear hc hf
 obtain ⟨hc, hf⟩ := s'.cp
 have S4 := Lib.hid s'
 clear s' m' hy
 go_wp2_with fail
 with_reducible refine (idle_p S4.out (by omega)).mono ?_
 rintro e w5 ⟨rfl, v5, s', m'⟩
 have M5 := Lib.hid (M4.out.trans m')
 obtain ⟨y5, hy⟩ : ∃ q_, q_ = idle y4 := ⟨_, rfl⟩
 rw [← hy] at s'
 have Y5 := Lib.hid hy
 clear hc hf
 obtain ⟨hc, hf⟩ := s'.cp
 have S5 := Lib.hid s'
 clear s' m' hy
 have Q1 := Lib.hid (S5.out.stIme false)
 have Q2 := Lib.hid (Q1.out.1.stSoon false)
 have Q3 := Lib.hid (Q2.out.1.stPC (64 + 8 * (k : Int)) (by omega) (by omega))
 go_wp2
 first | go_end0 | refine bodyPost_ret (results_none rfl _ _ _) rfl ?_
 refine ⟨rfl, v5, ?_, ((M5.out.trans Q1.out.2).trans Q2.out.2).trans Q3.out.2⟩
 have q := Q3.out.1
 have e1 : interS k y = setPC (64 + 8 * (k : Int)) (setSoon false (setIme false y5)) := by rw [Y5.out, Y4.out, Y3.out, Y2.out, Y1.out]; rfl
 rw [e1]
 exact Sys.mono (n' := n + 5) q (by omega)
theorem b16 (p : Int) (h1 : 0 ≤ p) (h2 : p < 256) : (bits .and .u8 p 16 != 0) = decide (p / 16 % 2 = 1) :=
 byte_all (P := fun p => (bits .and .u8 p 16 != 0) = decide (p / 16 % 2 = 1)) (by decide +kernel) p h1 h2
def standS (y : Sy) : Sy := if pend y.m / 16 % 2 = 1 then setStop false (idle y) else idle y
set_option maxHeartbeats 2000000 in
theorem stand_p (h0 : Sys procD ramC w P R M tb v y n) (hn : n < 900000) : Calls Tryz.prog 27 #[.pointer (some ⟨P, 0, none⟩)] w (PE procD ramC P R M tb v w (.tuple #[]) (standS y) (n + 1)) := by
 have hm := mI ⟨R, 0, none⟩
 have hmp := mP ⟨R, 0, none⟩
 have S0 := Lib.hid h0
 have M0 := Lib.hid (PM.refl P R M tb v w)
 obtain ⟨hc, hf⟩ := h0.cp
 clear h0
 go_enter Tryz.func27, Tryz.ntmps27
 go_wp2_with fail
 with_reducible refine (idle_p S0.out (by omega)).mono ?_
 rintro e w1 ⟨rfl, v1, s', m'⟩
 have M1 := Lib.hid (M0.out.trans m')
 obtain ⟨y1, hy⟩ : ∃ q_, q_ = idle y := ⟨_, rfl⟩
 rw [← hy] at s'
 have Y1 := Lib.hid hy
 clear hc hf
 obtain ⟨hc, hf⟩ := s'.cp
 have S1 := Lib.hid s'
 clear s' m' hy
 go_wp2_with fail
 with_reducible refine (pend_p S1.out).mono ?_
 rintro e w2 ⟨rfl, v2, s', m'⟩
 have M2 := Lib.hid (M1.out.trans m')
 obtain ⟨y2, hy⟩ : ∃ q_, q_ = y1 := ⟨_, rfl⟩
 rw [← hy] at s'
 have Y2 := Lib.hid hy
 clear hc hf
 obtain ⟨hc, hf⟩ := s'.cp
 have S2 := Lib.hid s'
 clear s' m' hy
 have pb := pend_bd y1.m (fun a => S1.out.okm a)
 have em : y1.m = y.m := by rw [Y1.out]; rfl
 have hb := b16 (pend y1.m) pb.1 (by omega)
 have EM := Lib.hid em
 clear em
 by_cases hp : pend y1.m / 16 % 2 = 1
 ·have hb2 : (bits .and .u8 (pend y1.m) 16 != 0) = true := by rw [hb]; exact decide_eq_true hp
  clear hb
  have Q := Lib.hid (S2.out.stStop false)
  go_wp2
  first | go_end0 | refine bodyPost_ret (results_none rfl _ _ _) rfl ?_
  refine ⟨rfl, v2, ?_, M2.out.trans Q.out.2⟩
  have q := Q.out.1
  have e1 : standS y = setStop false y2 := by unfold standS; rw [← EM.out, if_pos hp, Y2.out, Y1.out]
  rw [e1]
  exact Sys.mono (n' := n + 1) q (by omega)
 ·have hb2 : (bits .and .u8 (pend y1.m) 16 != 0) = false := by rw [hb]; exact decide_eq_false hp
  clear hb
  go_wp2
  first | go_end0 | refine bodyPost_ret (results_none rfl _ _ _) rfl ?_
  refine ⟨rfl, v2, ?_, M2.out⟩
  have q := S2.out
  have e1 : standS y = y2 := by unfold standS; rw [← EM.out, if_neg hp, Y2.out, Y1.out]
  rw [e1]
  exact Sys.mono (n' := n + 1) q (by omega)
end
end Go.Proofs.YtngdogldgcgnjaaGreat
