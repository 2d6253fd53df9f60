/-
  What sum does: for every world; the processor is there.
-/
import Derived.Test.YtngdogldgcgnjaaGreatP4a
namespace Go.Proofs.YtngdogldgcgnjaaGreat
open Go.ChangeShapes Go.WideShapes Go.ChangeAt Go.RowKit
open Reg
set_option linter.unusedVariables false
set_option maxRecDepth 100000
section
variable {w : World} {P R M tb n : Nat} {v : Value} {y : Sy}
theorem and16n (f : Int) (h1 : 0 ≤ f) (h2 : f < 256) : (bits .and .u8 f 16 != 0) = Alu.cf f := by
 rw [Alu.and16 f h1 h2]; cases Alu.cf f <;> rfl
set_option maxHeartbeats 2000000 in
theorem sum_0 (h0 : Sys procD ramC w P R M tb v y n) (hn : n < 980000) (x : Int) (x0 : 0 ≤ x) (x1 : x < 256) : Calls Tryz.prog 91 #[.pointer (some ⟨P, 0, none⟩), .int .i64 0, .int .u8 x] w (PE procD ramC P R M tb v w (.tuple #[]) (setF (Alu.addF y.s.r.a x false) (setA (Alu.addR y.s.r.a x false) y)) (n + 0)) := by
 have ab := h0.ab
 have fb := h0.fb
 have hk := and16n y.s.r.f fb.1 fb.2
 have S0 := Lib.hid h0
 have M0 := Lib.hid (PM.refl P R M tb v w)
 obtain ⟨hc, hf⟩ := h0.cp
 clear h0
 go_enter Tryz.func91, Tryz.ntmps91
 go_wp2_with fail
 with_reducible refine (kept_p S0.out (by omega) 16).mono ?_
 rintro e w1 ⟨rfl, v1, s', m'⟩
 have M1 := Lib.hid (M0.out.trans m')
 obtain ⟨y1, hy⟩ : ∃ q_, q_ = y := ⟨_, rfl⟩
 rw [← hy] at s'
 have Y1 := Lib.hid hy
 clear hc hf
 obtain ⟨hc, hf⟩ := s'.cp
 have S1 := Lib.hid s'
 clear s' m' hy
 have e := Y1.out.symm
 subst e
 have Q := Lib.hid (S1.out.stA (Alu.addR y.s.r.a x false) (Alu.addR_bd _ _ _).1 (Alu.addR_bd _ _ _).2)
 have Q2 := Lib.hid (Q.out.1.stF (Alu.addF y.s.r.a x false) (Alu.addF_bd _ _ _).1 (Alu.addF_bd _ _ _).2)
 go_wp2_with (go_at_call 108; (with_reducible refine (Alu.add_c _ _ _ (by omega) (by omega) (by omega) (by omega) _).mono ?_); rintro e w' ⟨rfl, rfl⟩)
 go_end0
 exact ⟨rfl, v1, Q2.out.1, (M1.out.trans Q.out.2).trans Q2.out.2⟩
set_option maxHeartbeats 2000000 in
theorem sum_1 (h0 : Sys procD ramC w P R M tb v y n) (hn : n < 980000) (x : Int) (x0 : 0 ≤ x) (x1 : x < 256) : Calls Tryz.prog 91 #[.pointer (some ⟨P, 0, none⟩), .int .i64 1, .int .u8 x] w (PE procD ramC P R M tb v w (.tuple #[]) (setF (Alu.addF y.s.r.a x (Alu.cf y.s.r.f)) (setA (Alu.addR y.s.r.a x (Alu.cf y.s.r.f)) y)) (n + 0)) := by
 have ab := h0.ab
 have fb := h0.fb
 have hk := and16n y.s.r.f fb.1 fb.2
 have S0 := Lib.hid h0
 have M0 := Lib.hid (PM.refl P R M tb v w)
 obtain ⟨hc, hf⟩ := h0.cp
 clear h0
 go_enter Tryz.func91, Tryz.ntmps91
 go_wp2_with fail
 with_reducible refine (kept_p S0.out (by omega) 16).mono ?_
 rintro e w1 ⟨rfl, v1, s', m'⟩
 have M1 := Lib.hid (M0.out.trans m')
 obtain ⟨y1, hy⟩ : ∃ q_, q_ = y := ⟨_, rfl⟩
 rw [← hy] at s'
 have Y1 := Lib.hid hy
 clear hc hf
 obtain ⟨hc, hf⟩ := s'.cp
 have S1 := Lib.hid s'
 clear s' m' hy
 have e := Y1.out.symm
 subst e
 have Q := Lib.hid (S1.out.stA (Alu.addR y.s.r.a x (Alu.cf y.s.r.f)) (Alu.addR_bd _ _ _).1 (Alu.addR_bd _ _ _).2)
 have Q2 := Lib.hid (Q.out.1.stF (Alu.addF y.s.r.a x (Alu.cf y.s.r.f)) (Alu.addF_bd _ _ _).1 (Alu.addF_bd _ _ _).2)
 go_wp2_with (go_at_call 108; (with_reducible refine (Alu.add_c _ _ _ (by omega) (by omega) (by omega) (by omega) _).mono ?_); rintro e w' ⟨rfl, rfl⟩)
 go_end0
 exact ⟨rfl, v1, Q2.out.1, (M1.out.trans Q.out.2).trans Q2.out.2⟩
set_option maxHeartbeats 2000000 in
theorem sum_2 (h0 : Sys procD ramC w P R M tb v y n) (hn : n < 980000) (x : Int) (x0 : 0 ≤ x) (x1 : x < 256) : Calls Tryz.prog 91 #[.pointer (some ⟨P, 0, none⟩), .int .i64 2, .int .u8 x] w (PE procD ramC P R M tb v w (.tuple #[]) (setF (Alu.subF y.s.r.a x false) (setA (Alu.subR y.s.r.a x false) y)) (n + 0)) := by
 have ab := h0.ab
 have fb := h0.fb
 have hk := and16n y.s.r.f fb.1 fb.2
 have S0 := Lib.hid h0
 have M0 := Lib.hid (PM.refl P R M tb v w)
 obtain ⟨hc, hf⟩ := h0.cp
 clear h0
 go_enter Tryz.func91, Tryz.ntmps91
 go_wp2_with fail
 with_reducible refine (kept_p S0.out (by omega) 16).mono ?_
 rintro e w1 ⟨rfl, v1, s', m'⟩
 have M1 := Lib.hid (M0.out.trans m')
 obtain ⟨y1, hy⟩ : ∃ q_, q_ = y := ⟨_, rfl⟩
 rw [← hy] at s'
 have Y1 := Lib.hid hy
 clear hc hf
 obtain ⟨hc, hf⟩ := s'.cp
 have S1 := Lib.hid s'
 clear s' m' hy
 have e := Y1.out.symm
 subst e
 have Q := Lib.hid (S1.out.stA (Alu.subR y.s.r.a x false) (Alu.subR_bd _ _ _).1 (Alu.subR_bd _ _ _).2)
 have Q2 := Lib.hid (Q.out.1.stF (Alu.subF y.s.r.a x false) (Alu.subF_bd _ _ _).1 (Alu.subF_bd _ _ _).2)
 go_wp2_with (go_at_call 109; (with_reducible refine (Alu.sub_c _ _ _ (by omega) (by omega) (by omega) (by omega) _).mono ?_); rintro e w' ⟨rfl, rfl⟩)
 go_end0
 exact ⟨rfl, v1, Q2.out.1, (M1.out.trans Q.out.2).trans Q2.out.2⟩
set_option maxHeartbeats 2000000 in
theorem sum_3 (h0 : Sys procD ramC w P R M tb v y n) (hn : n < 980000) (x : Int) (x0 : 0 ≤ x) (x1 : x < 256) : Calls Tryz.prog 91 #[.pointer (some ⟨P, 0, none⟩), .int .i64 3, .int .u8 x] w (PE procD ramC P R M tb v w (.tuple #[]) (setF (Alu.subF y.s.r.a x (Alu.cf y.s.r.f)) (setA (Alu.subR y.s.r.a x (Alu.cf y.s.r.f)) y)) (n + 0)) := by
 have ab := h0.ab
 have fb := h0.fb
 have hk := and16n y.s.r.f fb.1 fb.2
 have S0 := Lib.hid h0
 have M0 := Lib.hid (PM.refl P R M tb v w)
 obtain ⟨hc, hf⟩ := h0.cp
 clear h0
 go_enter Tryz.func91, Tryz.ntmps91
 go_wp2_with fail
 with_reducible refine (kept_p S0.out (by omega) 16).mono ?_
 rintro e w1 ⟨rfl, v1, s', m'⟩
 have M1 := Lib.hid (M0.out.trans m')
 obtain ⟨y1, hy⟩ : ∃ q_, q_ = y := ⟨_, rfl⟩
 rw [← hy] at s'
 have Y1 := Lib.hid hy
 clear hc hf
 obtain ⟨hc, hf⟩ := s'.cp
 have S1 := Lib.hid s'
 clear s' m' hy
 have e := Y1.out.symm
 subst e
 have Q := Lib.hid (S1.out.stA (Alu.subR y.s.r.a x (Alu.cf y.s.r.f)) (Alu.subR_bd _ _ _).1 (Alu.subR_bd _ _ _).2)
 have Q2 := Lib.hid (Q.out.1.stF (Alu.subF y.s.r.a x (Alu.cf y.s.r.f)) (Alu.subF_bd _ _ _).1 (Alu.subF_bd _ _ _).2)
 go_wp2_with (go_at_call 109; (with_reducible refine (Alu.sub_c _ _ _ (by omega) (by omega) (by omega) (by omega) _).mono ?_); rintro e w' ⟨rfl, rfl⟩)
 go_end0
 exact ⟨rfl, v1, Q2.out.1, (M1.out.trans Q.out.2).trans Q2.out.2⟩
set_option maxHeartbeats 2000000 in
theorem sum_4 (h0 : Sys procD ramC w P R M tb v y n) (hn : n < 980000) (x : Int) (x0 : 0 ≤ x) (x1 : x < 256) : Calls Tryz.prog 91 #[.pointer (some ⟨P, 0, none⟩), .int .i64 4, .int .u8 x] w (PE procD ramC P R M tb v w (.tuple #[]) (setF (Alu.FL (bits .and .u8 y.s.r.a x == 0) false true false) (setA (bits .and .u8 y.s.r.a x) y)) (n + 0)) := by
 have ab := h0.ab
 have fb := h0.fb
 have hk := and16n y.s.r.f fb.1 fb.2
 have S0 := Lib.hid h0
 have M0 := Lib.hid (PM.refl P R M tb v w)
 obtain ⟨hc, hf⟩ := h0.cp
 clear h0
 go_enter Tryz.func91, Tryz.ntmps91
 go_wp2_with fail
 with_reducible refine (kept_p S0.out (by omega) 16).mono ?_
 rintro e w1 ⟨rfl, v1, s', m'⟩
 have M1 := Lib.hid (M0.out.trans m')
 obtain ⟨y1, hy⟩ : ∃ q_, q_ = y := ⟨_, rfl⟩
 rw [← hy] at s'
 have Y1 := Lib.hid hy
 clear hc hf
 obtain ⟨hc, hf⟩ := s'.cp
 have S1 := Lib.hid s'
 clear s' m' hy
 have e := Y1.out.symm
 subst e
 have Q := Lib.hid (S1.out.stA (bits .and .u8 y.s.r.a x) (bits_b _ _ _).1 (bits_b _ _ _).2)
 have Q2 := Lib.hid (Q.out.1.stF (Alu.FL (bits .and .u8 y.s.r.a x == 0) false true false) (Alu.FL_b _ _ _ _).1 (Alu.FL_b _ _ _ _).2)
 go_wp2_with (go_at_call 110; (with_reducible refine (Alu.and_c _ _ _).mono ?_); rintro e w' ⟨rfl, rfl⟩)
 go_end0
 exact ⟨rfl, v1, Q2.out.1, (M1.out.trans Q.out.2).trans Q2.out.2⟩
set_option maxHeartbeats 2000000 in
theorem sum_5 (h0 : Sys procD ramC w P R M tb v y n) (hn : n < 980000) (x : Int) (x0 : 0 ≤ x) (x1 : x < 256) : Calls Tryz.prog 91 #[.pointer (some ⟨P, 0, none⟩), .int .i64 5, .int .u8 x] w (PE procD ramC P R M tb v w (.tuple #[]) (setF (Alu.FL (bits .xor .u8 y.s.r.a x == 0) false false false) (setA (bits .xor .u8 y.s.r.a x) y)) (n + 0)) := by
 have ab := h0.ab
 have fb := h0.fb
 have hk := and16n y.s.r.f fb.1 fb.2
 have S0 := Lib.hid h0
 have M0 := Lib.hid (PM.refl P R M tb v w)
 obtain ⟨hc, hf⟩ := h0.cp
 clear h0
 go_enter Tryz.func91, Tryz.ntmps91
 go_wp2_with fail
 with_reducible refine (kept_p S0.out (by omega) 16).mono ?_
 rintro e w1 ⟨rfl, v1, s', m'⟩
 have M1 := Lib.hid (M0.out.trans m')
 obtain ⟨y1, hy⟩ : ∃ q_, q_ = y := ⟨_, rfl⟩
 rw [← hy] at s'
 have Y1 := Lib.hid hy
 clear hc hf
 obtain ⟨hc, hf⟩ := s'.cp
 have S1 := Lib.hid s'
 clear s' m' hy
 have e := Y1.out.symm
 subst e
 have Q := Lib.hid (S1.out.stA (bits .xor .u8 y.s.r.a x) (bits_b _ _ _).1 (bits_b _ _ _).2)
 have Q2 := Lib.hid (Q.out.1.stF (Alu.FL (bits .xor .u8 y.s.r.a x == 0) false false false) (Alu.FL_b _ _ _ _).1 (Alu.FL_b _ _ _ _).2)
 go_wp2_with (go_at_call 111; (with_reducible refine (Alu.xor_c _ _ _).mono ?_); rintro e w' ⟨rfl, rfl⟩)
 go_end0
 exact ⟨rfl, v1, Q2.out.1, (M1.out.trans Q.out.2).trans Q2.out.2⟩
set_option maxHeartbeats 2000000 in
theorem sum_6 (h0 : Sys procD ramC w P R M tb v y n) (hn : n < 980000) (x : Int) (x0 : 0 ≤ x) (x1 : x < 256) : Calls Tryz.prog 91 #[.pointer (some ⟨P, 0, none⟩), .int .i64 6, .int .u8 x] w (PE procD ramC P R M tb v w (.tuple #[]) (setF (Alu.FL (bits .or .u8 y.s.r.a x == 0) false false false) (setA (bits .or .u8 y.s.r.a x) y)) (n + 0)) := by
 have ab := h0.ab
 have fb := h0.fb
 have hk := and16n y.s.r.f fb.1 fb.2
 have S0 := Lib.hid h0
 have M0 := Lib.hid (PM.refl P R M tb v w)
 obtain ⟨hc, hf⟩ := h0.cp
 clear h0
 go_enter Tryz.func91, Tryz.ntmps91
 go_wp2_with fail
 with_reducible refine (kept_p S0.out (by omega) 16).mono ?_
 rintro e w1 ⟨rfl, v1, s', m'⟩
 have M1 := Lib.hid (M0.out.trans m')
 obtain ⟨y1, hy⟩ : ∃ q_, q_ = y := ⟨_, rfl⟩
 rw [← hy] at s'
 have Y1 := Lib.hid hy
 clear hc hf
 obtain ⟨hc, hf⟩ := s'.cp
 have S1 := Lib.hid s'
 clear s' m' hy
 have e := Y1.out.symm
 subst e
 have Q := Lib.hid (S1.out.stA (bits .or .u8 y.s.r.a x) (bits_b _ _ _).1 (bits_b _ _ _).2)
 have Q2 := Lib.hid (Q.out.1.stF (Alu.FL (bits .or .u8 y.s.r.a x == 0) false false false) (Alu.FL_b _ _ _ _).1 (Alu.FL_b _ _ _ _).2)
 go_wp2_with (go_at_call 112; (with_reducible refine (Alu.or_c _ _ _).mono ?_); rintro e w' ⟨rfl, rfl⟩)
 go_end0
 exact ⟨rfl, v1, Q2.out.1, (M1.out.trans Q.out.2).trans Q2.out.2⟩
set_option maxHeartbeats 2000000 in
theorem sum_7 (h0 : Sys procD ramC w P R M tb v y n) (hn : n < 980000) (x : Int) (x0 : 0 ≤ x) (x1 : x < 256) : Calls Tryz.prog 91 #[.pointer (some ⟨P, 0, none⟩), .int .i64 7, .int .u8 x] w (PE procD ramC P R M tb v w (.tuple #[]) (setF (Alu.subF y.s.r.a x false) y) (n + 0)) := by
 have ab := h0.ab
 have fb := h0.fb
 have hk := and16n y.s.r.f fb.1 fb.2
 have S0 := Lib.hid h0
 have M0 := Lib.hid (PM.refl P R M tb v w)
 obtain ⟨hc, hf⟩ := h0.cp
 clear h0
 go_enter Tryz.func91, Tryz.ntmps91
 go_wp2_with fail
 with_reducible refine (kept_p S0.out (by omega) 16).mono ?_
 rintro e w1 ⟨rfl, v1, s', m'⟩
 have M1 := Lib.hid (M0.out.trans m')
 obtain ⟨y1, hy⟩ : ∃ q_, q_ = y := ⟨_, rfl⟩
 rw [← hy] at s'
 have Y1 := Lib.hid hy
 clear hc hf
 obtain ⟨hc, hf⟩ := s'.cp
 have S1 := Lib.hid s'
 clear s' m' hy
 have e := Y1.out.symm
 subst e
 have Q2 := Lib.hid (S1.out.stF (Alu.subF y.s.r.a x false) (Alu.subF_bd _ _ _).1 (Alu.subF_bd _ _ _).2)
 go_wp2_with (go_at_call 109; (with_reducible refine (Alu.sub_c _ _ _ (by omega) (by omega) (by omega) (by omega) _).mono ?_); rintro e w' ⟨rfl, rfl⟩)
 go_end0
 exact ⟨rfl, v1, Q2.out.1, M1.out.trans Q2.out.2⟩
theorem sum_p (h0 : Sys procD ramC w P R M tb v y n) (hn : n < 980000) (k x : Int) (k0 : 0 ≤ k) (k1 : k < 8) (x0 : 0 ≤ x) (x1 : x < 256) : Calls Tryz.prog 91 #[.pointer (some ⟨P, 0, none⟩), .int .i64 k, .int .u8 x] w (PE procD ramC P R M tb v w (.tuple #[]) (sumS k x y) (n + 0)) := by
 rcases (by omega : k = 0 ∨ k = 1 ∨ k = 2 ∨ k = 3 ∨ k = 4 ∨ k = 5 ∨ k = 6 ∨ k = 7) with rfl | rfl | rfl | rfl | rfl | rfl | rfl | rfl
 ·exact sum_0 h0 hn x x0 x1
 ·exact sum_1 h0 hn x x0 x1
 ·exact sum_2 h0 hn x x0 x1
 ·exact sum_3 h0 hn x x0 x1
 ·exact sum_4 h0 hn x x0 x1
 ·exact sum_5 h0 hn x x0 x1
 ·exact sum_6 h0 hn x x0 x1
 ·exact sum_7 h0 hn x x0 x1
end
end Go.Proofs.YtngdogldgcgnjaaGreat
