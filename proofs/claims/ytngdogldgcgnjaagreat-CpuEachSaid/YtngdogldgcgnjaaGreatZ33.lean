/-
  What the document's own processor does with A, and with bits: for every world; the processor is there.
-/
import Derived.Test.YtngdogldgcgnjaaGreatZ32
import Derived.Test.YtngdogldgcgnjaaGreatZ11
import Derived.Deep.Cut
import Derived.LoopN
set_option maxRecDepth 100000
set_option maxHeartbeats 8000000
namespace Go.Proofs.YtngdogldgcgnjaaGreat
open Go.ChangeShapes Go.WideShapes Go.ChangeAt Go.RowKit
open Reg
set_option linter.unusedVariables false
section
variable {w : World} {P R M tb n : Nat} {v : Value} {y : Sy}
theorem msum_0 (h0 : Sys noD memC w P R M tb v y n) (hn : n < 990000) (x : Int) (x0 : 0 ≤ x) (x1 : x < 256) : Calls Tryz.prog 39 #[.pointer (some ⟨P, 0, none⟩), .int .i64 0, .int .u8 x] w (PE noD memC P R M tb v w (.tuple #[]) (sumS 0 x y) (n + 0)) := by
 have f0 := h0.ok.2.1.1; have f1 := h0.ok.2.1.2; have a0 := h0.ok.1.1; have a1 := h0.ok.1.2; have S0 := Lib.hid h0; have M0 := Lib.hid (PM.refl P R M tb v w); obtain ⟨hc, hf⟩ := h0.cm; clear h0; go_enter Tryz.func39, Tryz.ntmps39; go_wp2_with fail
 with_reducible refine (Alu.c_r y.s.r.f f0 f1 _).mono ?_
 rintro e w_ ⟨rfl, rfl⟩; go_wp2_with fail
 with_reducible refine (Alu.add_r' y.s.r.a x false a0 a1 x0 x1 _).mono ?_
 rintro e w1 ⟨rfl, hb⟩; have s' := S0.out.below hb; have m' : PM P R M tb v w v w1 := PM.of hb; clear hb; have M1 := M0.tr m'; obtain ⟨y1, hy⟩ : ∃ q_, q_ = y := ⟨_, rfl⟩; rw [← hy] at s'; have Y1 := Lib.hid hy; clear hc hf; obtain ⟨hc, hf⟩ := s'.cm; have S1 := Lib.hid s'; clear s' m' hy; have Q0 := Lib.hid (S1.out.stA (Alu.addR y.s.r.a x false) (Alu.addR_bd _ _ _).1 (Alu.addR_bd _ _ _).2); have Q1 := Lib.hid (Q0.out.1.stF (Alu.addF y.s.r.a x false) (Alu.FL_b _ _ _ _).1 (Alu.FL_b _ _ _ _).2)
 (go_wp2; go_end0)
 refine ⟨rfl, v, ?_, ((M1.out.trans Q0.out.2).trans Q1.out.2)⟩
 have q := Q1.out.1; have e := Y1.out.symm; subst e
 exact q.mo
theorem msum_1 (h0 : Sys noD memC w P R M tb v y n) (hn : n < 990000) (x : Int) (x0 : 0 ≤ x) (x1 : x < 256) : Calls Tryz.prog 39 #[.pointer (some ⟨P, 0, none⟩), .int .i64 1, .int .u8 x] w (PE noD memC P R M tb v w (.tuple #[]) (sumS 1 x y) (n + 0)) := by
 have f0 := h0.ok.2.1.1; have f1 := h0.ok.2.1.2; have a0 := h0.ok.1.1; have a1 := h0.ok.1.2; have S0 := Lib.hid h0; have M0 := Lib.hid (PM.refl P R M tb v w); obtain ⟨hc, hf⟩ := h0.cm; clear h0; go_enter Tryz.func39, Tryz.ntmps39; go_wp2_with fail
 with_reducible refine (Alu.c_r y.s.r.f f0 f1 _).mono ?_
 rintro e w_ ⟨rfl, rfl⟩; go_wp2_with fail
 with_reducible refine (Alu.add_r' y.s.r.a x (Alu.cf y.s.r.f) a0 a1 x0 x1 _).mono ?_
 rintro e w1 ⟨rfl, hb⟩; have s' := S0.out.below hb; have m' : PM P R M tb v w v w1 := PM.of hb; clear hb; have M1 := M0.tr m'; obtain ⟨y1, hy⟩ : ∃ q_, q_ = y := ⟨_, rfl⟩; rw [← hy] at s'; have Y1 := Lib.hid hy; clear hc hf; obtain ⟨hc, hf⟩ := s'.cm; have S1 := Lib.hid s'; clear s' m' hy; have Q0 := Lib.hid (S1.out.stA (Alu.addR y.s.r.a x (Alu.cf y.s.r.f)) (Alu.addR_bd _ _ _).1 (Alu.addR_bd _ _ _).2); have Q1 := Lib.hid (Q0.out.1.stF (Alu.addF y.s.r.a x (Alu.cf y.s.r.f)) (Alu.FL_b _ _ _ _).1 (Alu.FL_b _ _ _ _).2)
 (go_wp2; go_end0)
 refine ⟨rfl, v, ?_, ((M1.out.trans Q0.out.2).trans Q1.out.2)⟩
 have q := Q1.out.1; have e := Y1.out.symm; subst e
 exact q.mo
theorem msum_2 (h0 : Sys noD memC w P R M tb v y n) (hn : n < 990000) (x : Int) (x0 : 0 ≤ x) (x1 : x < 256) : Calls Tryz.prog 39 #[.pointer (some ⟨P, 0, none⟩), .int .i64 2, .int .u8 x] w (PE noD memC P R M tb v w (.tuple #[]) (sumS 2 x y) (n + 0)) := by
 have f0 := h0.ok.2.1.1; have f1 := h0.ok.2.1.2; have a0 := h0.ok.1.1; have a1 := h0.ok.1.2; have S0 := Lib.hid h0; have M0 := Lib.hid (PM.refl P R M tb v w); obtain ⟨hc, hf⟩ := h0.cm; clear h0; go_enter Tryz.func39, Tryz.ntmps39; go_wp2_with fail
 with_reducible refine (Alu.c_r y.s.r.f f0 f1 _).mono ?_
 rintro e w_ ⟨rfl, rfl⟩; go_wp2_with fail
 with_reducible refine (Alu.sub_r' y.s.r.a x false a0 a1 x0 x1 _).mono ?_
 rintro e w1 ⟨rfl, hb⟩; have s' := S0.out.below hb; have m' : PM P R M tb v w v w1 := PM.of hb; clear hb; have M1 := M0.tr m'; obtain ⟨y1, hy⟩ : ∃ q_, q_ = y := ⟨_, rfl⟩; rw [← hy] at s'; have Y1 := Lib.hid hy; clear hc hf; obtain ⟨hc, hf⟩ := s'.cm; have S1 := Lib.hid s'; clear s' m' hy; have Q0 := Lib.hid (S1.out.stA (Alu.subR y.s.r.a x false) (Alu.subR_bd _ _ _).1 (Alu.subR_bd _ _ _).2); have Q1 := Lib.hid (Q0.out.1.stF (Alu.subF y.s.r.a x false) (Alu.FL_b _ _ _ _).1 (Alu.FL_b _ _ _ _).2)
 (go_wp2; go_end0)
 refine ⟨rfl, v, ?_, ((M1.out.trans Q0.out.2).trans Q1.out.2)⟩
 have q := Q1.out.1; have e := Y1.out.symm; subst e
 exact q.mo
theorem msum_3 (h0 : Sys noD memC w P R M tb v y n) (hn : n < 990000) (x : Int) (x0 : 0 ≤ x) (x1 : x < 256) : Calls Tryz.prog 39 #[.pointer (some ⟨P, 0, none⟩), .int .i64 3, .int .u8 x] w (PE noD memC P R M tb v w (.tuple #[]) (sumS 3 x y) (n + 0)) := by
 have f0 := h0.ok.2.1.1; have f1 := h0.ok.2.1.2; have a0 := h0.ok.1.1; have a1 := h0.ok.1.2; have S0 := Lib.hid h0; have M0 := Lib.hid (PM.refl P R M tb v w); obtain ⟨hc, hf⟩ := h0.cm; clear h0; go_enter Tryz.func39, Tryz.ntmps39; go_wp2_with fail
 with_reducible refine (Alu.c_r y.s.r.f f0 f1 _).mono ?_
 rintro e w_ ⟨rfl, rfl⟩; go_wp2_with fail
 with_reducible refine (Alu.sub_r' y.s.r.a x (Alu.cf y.s.r.f) a0 a1 x0 x1 _).mono ?_
 rintro e w1 ⟨rfl, hb⟩; have s' := S0.out.below hb; have m' : PM P R M tb v w v w1 := PM.of hb; clear hb; have M1 := M0.tr m'; obtain ⟨y1, hy⟩ : ∃ q_, q_ = y := ⟨_, rfl⟩; rw [← hy] at s'; have Y1 := Lib.hid hy; clear hc hf; obtain ⟨hc, hf⟩ := s'.cm; have S1 := Lib.hid s'; clear s' m' hy; have Q0 := Lib.hid (S1.out.stA (Alu.subR y.s.r.a x (Alu.cf y.s.r.f)) (Alu.subR_bd _ _ _).1 (Alu.subR_bd _ _ _).2); have Q1 := Lib.hid (Q0.out.1.stF (Alu.subF y.s.r.a x (Alu.cf y.s.r.f)) (Alu.FL_b _ _ _ _).1 (Alu.FL_b _ _ _ _).2)
 (go_wp2; go_end0)
 refine ⟨rfl, v, ?_, ((M1.out.trans Q0.out.2).trans Q1.out.2)⟩
 have q := Q1.out.1; have e := Y1.out.symm; subst e
 exact q.mo
theorem msum_4 (h0 : Sys noD memC w P R M tb v y n) (hn : n < 990000) (x : Int) (x0 : 0 ≤ x) (x1 : x < 256) : Calls Tryz.prog 39 #[.pointer (some ⟨P, 0, none⟩), .int .i64 4, .int .u8 x] w (PE noD memC P R M tb v w (.tuple #[]) (sumS 4 x y) (n + 0)) := by
 have f0 := h0.ok.2.1.1; have f1 := h0.ok.2.1.2; have a0 := h0.ok.1.1; have a1 := h0.ok.1.2; have S0 := Lib.hid h0; have M0 := Lib.hid (PM.refl P R M tb v w); obtain ⟨hc, hf⟩ := h0.cm; clear h0; go_enter Tryz.func39, Tryz.ntmps39; go_wp2_with fail
 with_reducible refine (Alu.c_r y.s.r.f f0 f1 _).mono ?_
 rintro e w_ ⟨rfl, rfl⟩; go_wp2_with fail
 with_reducible refine (Alu.and_r y.s.r.a x a0 a1 x0 x1 _).mono ?_
 rintro e w1 ⟨rfl, hb⟩; have s' := S0.out.below hb; have m' : PM P R M tb v w v w1 := PM.of hb; clear hb; have M1 := M0.tr m'; obtain ⟨y1, hy⟩ : ∃ q_, q_ = y := ⟨_, rfl⟩; rw [← hy] at s'; have Y1 := Lib.hid hy; clear hc hf; obtain ⟨hc, hf⟩ := s'.cm; have S1 := Lib.hid s'; clear s' m' hy; have Q0 := Lib.hid (S1.out.stA (bits .and .u8 y.s.r.a x) (bits_b _ _ _).1 (bits_b _ _ _).2); have Q1 := Lib.hid (Q0.out.1.stF (Alu.FL (bits .and .u8 y.s.r.a x == 0) false true false) (Alu.FL_b _ _ _ _).1 (Alu.FL_b _ _ _ _).2)
 (go_wp2; go_end0)
 refine ⟨rfl, v, ?_, ((M1.out.trans Q0.out.2).trans Q1.out.2)⟩
 have q := Q1.out.1; have e := Y1.out.symm; subst e
 exact q.mo
theorem msum_5 (h0 : Sys noD memC w P R M tb v y n) (hn : n < 990000) (x : Int) (x0 : 0 ≤ x) (x1 : x < 256) : Calls Tryz.prog 39 #[.pointer (some ⟨P, 0, none⟩), .int .i64 5, .int .u8 x] w (PE noD memC P R M tb v w (.tuple #[]) (sumS 5 x y) (n + 0)) := by
 have f0 := h0.ok.2.1.1; have f1 := h0.ok.2.1.2; have a0 := h0.ok.1.1; have a1 := h0.ok.1.2; have S0 := Lib.hid h0; have M0 := Lib.hid (PM.refl P R M tb v w); obtain ⟨hc, hf⟩ := h0.cm; clear h0; go_enter Tryz.func39, Tryz.ntmps39; go_wp2_with fail
 with_reducible refine (Alu.c_r y.s.r.f f0 f1 _).mono ?_
 rintro e w_ ⟨rfl, rfl⟩; go_wp2_with fail
 with_reducible refine (Alu.xor_r y.s.r.a x a0 a1 x0 x1 _).mono ?_
 rintro e w1 ⟨rfl, hb⟩; have s' := S0.out.below hb; have m' : PM P R M tb v w v w1 := PM.of hb; clear hb; have M1 := M0.tr m'; obtain ⟨y1, hy⟩ : ∃ q_, q_ = y := ⟨_, rfl⟩; rw [← hy] at s'; have Y1 := Lib.hid hy; clear hc hf; obtain ⟨hc, hf⟩ := s'.cm; have S1 := Lib.hid s'; clear s' m' hy; have Q0 := Lib.hid (S1.out.stA (bits .xor .u8 y.s.r.a x) (bits_b _ _ _).1 (bits_b _ _ _).2); have Q1 := Lib.hid (Q0.out.1.stF (Alu.FL (bits .xor .u8 y.s.r.a x == 0) false false false) (Alu.FL_b _ _ _ _).1 (Alu.FL_b _ _ _ _).2)
 (go_wp2; go_end0)
 refine ⟨rfl, v, ?_, ((M1.out.trans Q0.out.2).trans Q1.out.2)⟩
 have q := Q1.out.1; have e := Y1.out.symm; subst e
 exact q.mo
theorem msum_6 (h0 : Sys noD memC w P R M tb v y n) (hn : n < 990000) (x : Int) (x0 : 0 ≤ x) (x1 : x < 256) : Calls Tryz.prog 39 #[.pointer (some ⟨P, 0, none⟩), .int .i64 6, .int .u8 x] w (PE noD memC P R M tb v w (.tuple #[]) (sumS 6 x y) (n + 0)) := by
 have f0 := h0.ok.2.1.1; have f1 := h0.ok.2.1.2; have a0 := h0.ok.1.1; have a1 := h0.ok.1.2; have S0 := Lib.hid h0; have M0 := Lib.hid (PM.refl P R M tb v w); obtain ⟨hc, hf⟩ := h0.cm; clear h0; go_enter Tryz.func39, Tryz.ntmps39; go_wp2_with fail
 with_reducible refine (Alu.c_r y.s.r.f f0 f1 _).mono ?_
 rintro e w_ ⟨rfl, rfl⟩; go_wp2_with fail
 with_reducible refine (Alu.or_r y.s.r.a x a0 a1 x0 x1 _).mono ?_
 rintro e w1 ⟨rfl, hb⟩; have s' := S0.out.below hb; have m' : PM P R M tb v w v w1 := PM.of hb; clear hb; have M1 := M0.tr m'; obtain ⟨y1, hy⟩ : ∃ q_, q_ = y := ⟨_, rfl⟩; rw [← hy] at s'; have Y1 := Lib.hid hy; clear hc hf; obtain ⟨hc, hf⟩ := s'.cm; have S1 := Lib.hid s'; clear s' m' hy; have Q0 := Lib.hid (S1.out.stA (bits .or .u8 y.s.r.a x) (bits_b _ _ _).1 (bits_b _ _ _).2); have Q1 := Lib.hid (Q0.out.1.stF (Alu.FL (bits .or .u8 y.s.r.a x == 0) false false false) (Alu.FL_b _ _ _ _).1 (Alu.FL_b _ _ _ _).2)
 (go_wp2; go_end0)
 refine ⟨rfl, v, ?_, ((M1.out.trans Q0.out.2).trans Q1.out.2)⟩
 have q := Q1.out.1; have e := Y1.out.symm; subst e
 exact q.mo
theorem msum_7 (h0 : Sys noD memC w P R M tb v y n) (hn : n < 990000) (x : Int) (x0 : 0 ≤ x) (x1 : x < 256) : Calls Tryz.prog 39 #[.pointer (some ⟨P, 0, none⟩), .int .i64 7, .int .u8 x] w (PE noD memC P R M tb v w (.tuple #[]) (sumS 7 x y) (n + 0)) := by
 have f0 := h0.ok.2.1.1; have f1 := h0.ok.2.1.2; have a0 := h0.ok.1.1; have a1 := h0.ok.1.2; have S0 := Lib.hid h0; have M0 := Lib.hid (PM.refl P R M tb v w); obtain ⟨hc, hf⟩ := h0.cm; clear h0; go_enter Tryz.func39, Tryz.ntmps39; go_wp2_with fail
 with_reducible refine (Alu.c_r y.s.r.f f0 f1 _).mono ?_
 rintro e w_ ⟨rfl, rfl⟩; go_wp2_with fail
 with_reducible refine (Alu.sub_r' y.s.r.a x false a0 a1 x0 x1 _).mono ?_
 rintro e w1 ⟨rfl, hb⟩; have s' := S0.out.below hb; have m' : PM P R M tb v w v w1 := PM.of hb; clear hb; have M1 := M0.tr m'; obtain ⟨y1, hy⟩ : ∃ q_, q_ = y := ⟨_, rfl⟩; rw [← hy] at s'; have Y1 := Lib.hid hy; clear hc hf; obtain ⟨hc, hf⟩ := s'.cm; have S1 := Lib.hid s'; clear s' m' hy; have Q0 := Lib.hid (S1.out.stF (Alu.subF y.s.r.a x false) (Alu.FL_b _ _ _ _).1 (Alu.FL_b _ _ _ _).2)
 (go_wp2; go_end0)
 refine ⟨rfl, v, ?_, (M1.out.trans Q0.out.2)⟩
 have q := Q0.out.1; have e := Y1.out.symm; subst e
 exact q.mo
theorem ch_0_0_0 (b : Int) (b0 : 0 ≤ b) (b1 : b < 256) (g : b % 2 = 0) (w : World) : Calls Tryz.prog 51 #[.int .u8 b, .int .i64 0, .bool false] w fun e w' => e = .returned (.int .u8 b) ∧ w = w' := by
 go_enter Tryz.func51, Tryz.ntmps51; go_wp2
 refine wp_loop_rounds 9 ?_
 rw [rounds_succ]; go_wp2; go_wp2; go_ret
 exact ⟨rfl, rfl⟩
theorem ch_0_0_1 (b : Int) (b0 : 0 ≤ b) (b1 : b < 256) (g : b % 2 = 1) (z : Int) (hz : b - 1 = z) (z0 : 0 ≤ z) (z1 : z < 256) (w : World) : Calls Tryz.prog 51 #[.int .u8 b, .int .i64 0, .bool false] w fun e w' => e = .returned (.int .u8 z) ∧ w = w' := by
 go_enter Tryz.func51, Tryz.ntmps51; go_wp2
 refine wp_loop_rounds 9 ?_
 rw [rounds_succ]; go_wp2; go_wp2; go_ret
 exact ⟨rfl, rfl⟩
theorem ch_0_1_0 (b : Int) (b0 : 0 ≤ b) (b1 : b < 256) (g : b / 2 % 2 = 0) (w : World) : Calls Tryz.prog 51 #[.int .u8 b, .int .i64 1, .bool false] w fun e w' => e = .returned (.int .u8 b) ∧ w = w' := by
 go_enter Tryz.func51, Tryz.ntmps51; go_wp2
 refine wp_loop_rounds 9 ?_
 rw [rounds_succ]; go_wp2; rw [rounds_succ]; go_wp2; go_wp2; go_ret
 exact ⟨rfl, rfl⟩
theorem ch_0_1_1 (b : Int) (b0 : 0 ≤ b) (b1 : b < 256) (g : b / 2 % 2 = 1) (z : Int) (hz : b - 2 = z) (z0 : 0 ≤ z) (z1 : z < 256) (w : World) : Calls Tryz.prog 51 #[.int .u8 b, .int .i64 1, .bool false] w fun e w' => e = .returned (.int .u8 z) ∧ w = w' := by
 go_enter Tryz.func51, Tryz.ntmps51; go_wp2
 refine wp_loop_rounds 9 ?_
 rw [rounds_succ]; go_wp2; rw [rounds_succ]; go_wp2; go_wp2; go_ret
 exact ⟨rfl, rfl⟩
theorem ch_0_2_0 (b : Int) (b0 : 0 ≤ b) (b1 : b < 256) (g : b / 4 % 2 = 0) (w : World) : Calls Tryz.prog 51 #[.int .u8 b, .int .i64 2, .bool false] w fun e w' => e = .returned (.int .u8 b) ∧ w = w' := by
 go_enter Tryz.func51, Tryz.ntmps51; go_wp2
 refine wp_loop_rounds 9 ?_
 rw [rounds_succ]; go_wp2; rw [rounds_succ]; go_wp2; rw [rounds_succ]; go_wp2; go_wp2; go_ret
 exact ⟨rfl, rfl⟩
theorem ch_0_2_1 (b : Int) (b0 : 0 ≤ b) (b1 : b < 256) (g : b / 4 % 2 = 1) (z : Int) (hz : b - 4 = z) (z0 : 0 ≤ z) (z1 : z < 256) (w : World) : Calls Tryz.prog 51 #[.int .u8 b, .int .i64 2, .bool false] w fun e w' => e = .returned (.int .u8 z) ∧ w = w' := by
 go_enter Tryz.func51, Tryz.ntmps51; go_wp2
 refine wp_loop_rounds 9 ?_
 rw [rounds_succ]; go_wp2; rw [rounds_succ]; go_wp2; rw [rounds_succ]; go_wp2; go_wp2; go_ret
 exact ⟨rfl, rfl⟩
theorem ch_0_3_0 (b : Int) (b0 : 0 ≤ b) (b1 : b < 256) (g : b / 8 % 2 = 0) (w : World) : Calls Tryz.prog 51 #[.int .u8 b, .int .i64 3, .bool false] w fun e w' => e = .returned (.int .u8 b) ∧ w = w' := by
 go_enter Tryz.func51, Tryz.ntmps51; go_wp2
 refine wp_loop_rounds 9 ?_
 rw [rounds_succ]; go_wp2; rw [rounds_succ]; go_wp2; rw [rounds_succ]; go_wp2; rw [rounds_succ]; go_wp2; go_wp2; go_ret
 exact ⟨rfl, rfl⟩
theorem ch_0_3_1 (b : Int) (b0 : 0 ≤ b) (b1 : b < 256) (g : b / 8 % 2 = 1) (z : Int) (hz : b - 8 = z) (z0 : 0 ≤ z) (z1 : z < 256) (w : World) : Calls Tryz.prog 51 #[.int .u8 b, .int .i64 3, .bool false] w fun e w' => e = .returned (.int .u8 z) ∧ w = w' := by
 go_enter Tryz.func51, Tryz.ntmps51; go_wp2
 refine wp_loop_rounds 9 ?_
 rw [rounds_succ]; go_wp2; rw [rounds_succ]; go_wp2; rw [rounds_succ]; go_wp2; rw [rounds_succ]; go_wp2; go_wp2; go_ret
 exact ⟨rfl, rfl⟩
theorem ch_0_4_0 (b : Int) (b0 : 0 ≤ b) (b1 : b < 256) (g : b / 16 % 2 = 0) (w : World) : Calls Tryz.prog 51 #[.int .u8 b, .int .i64 4, .bool false] w fun e w' => e = .returned (.int .u8 b) ∧ w = w' := by
 go_enter Tryz.func51, Tryz.ntmps51; go_wp2
 refine wp_loop_rounds 9 ?_
 rw [rounds_succ]; go_wp2; rw [rounds_succ]; go_wp2; rw [rounds_succ]; go_wp2; rw [rounds_succ]; go_wp2; rw [rounds_succ]; go_wp2; go_wp2; go_ret
 exact ⟨rfl, rfl⟩
theorem ch_0_4_1 (b : Int) (b0 : 0 ≤ b) (b1 : b < 256) (g : b / 16 % 2 = 1) (z : Int) (hz : b - 16 = z) (z0 : 0 ≤ z) (z1 : z < 256) (w : World) : Calls Tryz.prog 51 #[.int .u8 b, .int .i64 4, .bool false] w fun e w' => e = .returned (.int .u8 z) ∧ w = w' := by
 go_enter Tryz.func51, Tryz.ntmps51; go_wp2
 refine wp_loop_rounds 9 ?_
 rw [rounds_succ]; go_wp2; rw [rounds_succ]; go_wp2; rw [rounds_succ]; go_wp2; rw [rounds_succ]; go_wp2; rw [rounds_succ]; go_wp2; go_wp2; go_ret
 exact ⟨rfl, rfl⟩
theorem ch_0_5_0 (b : Int) (b0 : 0 ≤ b) (b1 : b < 256) (g : b / 32 % 2 = 0) (w : World) : Calls Tryz.prog 51 #[.int .u8 b, .int .i64 5, .bool false] w fun e w' => e = .returned (.int .u8 b) ∧ w = w' := by
 go_enter Tryz.func51, Tryz.ntmps51; go_wp2
 refine wp_loop_rounds 9 ?_
 rw [rounds_succ]; go_wp2; rw [rounds_succ]; go_wp2; rw [rounds_succ]; go_wp2; rw [rounds_succ]; go_wp2; rw [rounds_succ]; go_wp2; rw [rounds_succ]; go_wp2; go_wp2; go_ret
 exact ⟨rfl, rfl⟩
theorem ch_0_5_1 (b : Int) (b0 : 0 ≤ b) (b1 : b < 256) (g : b / 32 % 2 = 1) (z : Int) (hz : b - 32 = z) (z0 : 0 ≤ z) (z1 : z < 256) (w : World) : Calls Tryz.prog 51 #[.int .u8 b, .int .i64 5, .bool false] w fun e w' => e = .returned (.int .u8 z) ∧ w = w' := by
 go_enter Tryz.func51, Tryz.ntmps51; go_wp2
 refine wp_loop_rounds 9 ?_
 rw [rounds_succ]; go_wp2; rw [rounds_succ]; go_wp2; rw [rounds_succ]; go_wp2; rw [rounds_succ]; go_wp2; rw [rounds_succ]; go_wp2; rw [rounds_succ]; go_wp2; go_wp2; go_ret
 exact ⟨rfl, rfl⟩
theorem ch_0_6_0 (b : Int) (b0 : 0 ≤ b) (b1 : b < 256) (g : b / 64 % 2 = 0) (w : World) : Calls Tryz.prog 51 #[.int .u8 b, .int .i64 6, .bool false] w fun e w' => e = .returned (.int .u8 b) ∧ w = w' := by
 go_enter Tryz.func51, Tryz.ntmps51; go_wp2
 refine wp_loop_rounds 9 ?_
 rw [rounds_succ]; go_wp2; rw [rounds_succ]; go_wp2; rw [rounds_succ]; go_wp2; rw [rounds_succ]; go_wp2; rw [rounds_succ]; go_wp2; rw [rounds_succ]; go_wp2; rw [rounds_succ]; go_wp2; go_wp2; go_ret
 exact ⟨rfl, rfl⟩
theorem ch_0_6_1 (b : Int) (b0 : 0 ≤ b) (b1 : b < 256) (g : b / 64 % 2 = 1) (z : Int) (hz : b - 64 = z) (z0 : 0 ≤ z) (z1 : z < 256) (w : World) : Calls Tryz.prog 51 #[.int .u8 b, .int .i64 6, .bool false] w fun e w' => e = .returned (.int .u8 z) ∧ w = w' := by
 go_enter Tryz.func51, Tryz.ntmps51; go_wp2
 refine wp_loop_rounds 9 ?_
 rw [rounds_succ]; go_wp2; rw [rounds_succ]; go_wp2; rw [rounds_succ]; go_wp2; rw [rounds_succ]; go_wp2; rw [rounds_succ]; go_wp2; rw [rounds_succ]; go_wp2; rw [rounds_succ]; go_wp2; go_wp2; go_ret
 exact ⟨rfl, rfl⟩
theorem ch_0_7_0 (b : Int) (b0 : 0 ≤ b) (b1 : b < 256) (g : b / 128 % 2 = 0) (w : World) : Calls Tryz.prog 51 #[.int .u8 b, .int .i64 7, .bool false] w fun e w' => e = .returned (.int .u8 b) ∧ w = w' := by
 go_enter Tryz.func51, Tryz.ntmps51; go_wp2
 refine wp_loop_rounds 9 ?_
 rw [rounds_succ]; go_wp2; rw [rounds_succ]; go_wp2; rw [rounds_succ]; go_wp2; rw [rounds_succ]; go_wp2; rw [rounds_succ]; go_wp2; rw [rounds_succ]; go_wp2; rw [rounds_succ]; go_wp2; rw [rounds_succ]; go_wp2; go_wp2; go_ret
 exact ⟨rfl, rfl⟩
theorem ch_0_7_1 (b : Int) (b0 : 0 ≤ b) (b1 : b < 256) (g : b / 128 % 2 = 1) (z : Int) (hz : b - 128 = z) (z0 : 0 ≤ z) (z1 : z < 256) (w : World) : Calls Tryz.prog 51 #[.int .u8 b, .int .i64 7, .bool false] w fun e w' => e = .returned (.int .u8 z) ∧ w = w' := by
 go_enter Tryz.func51, Tryz.ntmps51; go_wp2
 refine wp_loop_rounds 9 ?_
 rw [rounds_succ]; go_wp2; rw [rounds_succ]; go_wp2; rw [rounds_succ]; go_wp2; rw [rounds_succ]; go_wp2; rw [rounds_succ]; go_wp2; rw [rounds_succ]; go_wp2; rw [rounds_succ]; go_wp2; rw [rounds_succ]; go_wp2; go_wp2; go_ret
 exact ⟨rfl, rfl⟩
theorem ch_1_0_0 (b : Int) (b0 : 0 ≤ b) (b1 : b < 256) (g : b % 2 = 0) (z : Int) (hz : b + 1 = z) (z0 : 0 ≤ z) (z1 : z < 256) (w : World) : Calls Tryz.prog 51 #[.int .u8 b, .int .i64 0, .bool true] w fun e w' => e = .returned (.int .u8 z) ∧ w = w' := by
 go_enter Tryz.func51, Tryz.ntmps51; go_wp2
 refine wp_loop_rounds 9 ?_
 rw [rounds_succ]; go_wp2; go_wp2; go_ret
 exact ⟨rfl, rfl⟩
theorem ch_1_0_1 (b : Int) (b0 : 0 ≤ b) (b1 : b < 256) (g : b % 2 = 1) (w : World) : Calls Tryz.prog 51 #[.int .u8 b, .int .i64 0, .bool true] w fun e w' => e = .returned (.int .u8 b) ∧ w = w' := by
 go_enter Tryz.func51, Tryz.ntmps51; go_wp2
 refine wp_loop_rounds 9 ?_
 rw [rounds_succ]; go_wp2; go_wp2; go_ret
 exact ⟨rfl, rfl⟩
theorem ch_1_1_0 (b : Int) (b0 : 0 ≤ b) (b1 : b < 256) (g : b / 2 % 2 = 0) (z : Int) (hz : b + 2 = z) (z0 : 0 ≤ z) (z1 : z < 256) (w : World) : Calls Tryz.prog 51 #[.int .u8 b, .int .i64 1, .bool true] w fun e w' => e = .returned (.int .u8 z) ∧ w = w' := by
 go_enter Tryz.func51, Tryz.ntmps51; go_wp2
 refine wp_loop_rounds 9 ?_
 rw [rounds_succ]; go_wp2; rw [rounds_succ]; go_wp2; go_wp2; go_ret
 exact ⟨rfl, rfl⟩
theorem ch_1_1_1 (b : Int) (b0 : 0 ≤ b) (b1 : b < 256) (g : b / 2 % 2 = 1) (w : World) : Calls Tryz.prog 51 #[.int .u8 b, .int .i64 1, .bool true] w fun e w' => e = .returned (.int .u8 b) ∧ w = w' := by
 go_enter Tryz.func51, Tryz.ntmps51; go_wp2
 refine wp_loop_rounds 9 ?_
 rw [rounds_succ]; go_wp2; rw [rounds_succ]; go_wp2; go_wp2; go_ret
 exact ⟨rfl, rfl⟩
theorem ch_1_2_0 (b : Int) (b0 : 0 ≤ b) (b1 : b < 256) (g : b / 4 % 2 = 0) (z : Int) (hz : b + 4 = z) (z0 : 0 ≤ z) (z1 : z < 256) (w : World) : Calls Tryz.prog 51 #[.int .u8 b, .int .i64 2, .bool true] w fun e w' => e = .returned (.int .u8 z) ∧ w = w' := by
 go_enter Tryz.func51, Tryz.ntmps51; go_wp2
 refine wp_loop_rounds 9 ?_
 rw [rounds_succ]; go_wp2; rw [rounds_succ]; go_wp2; rw [rounds_succ]; go_wp2; go_wp2; go_ret
 exact ⟨rfl, rfl⟩
theorem ch_1_2_1 (b : Int) (b0 : 0 ≤ b) (b1 : b < 256) (g : b / 4 % 2 = 1) (w : World) : Calls Tryz.prog 51 #[.int .u8 b, .int .i64 2, .bool true] w fun e w' => e = .returned (.int .u8 b) ∧ w = w' := by
 go_enter Tryz.func51, Tryz.ntmps51; go_wp2
 refine wp_loop_rounds 9 ?_
 rw [rounds_succ]; go_wp2; rw [rounds_succ]; go_wp2; rw [rounds_succ]; go_wp2; go_wp2; go_ret
 exact ⟨rfl, rfl⟩
theorem ch_1_3_0 (b : Int) (b0 : 0 ≤ b) (b1 : b < 256) (g : b / 8 % 2 = 0) (z : Int) (hz : b + 8 = z) (z0 : 0 ≤ z) (z1 : z < 256) (w : World) : Calls Tryz.prog 51 #[.int .u8 b, .int .i64 3, .bool true] w fun e w' => e = .returned (.int .u8 z) ∧ w = w' := by
 go_enter Tryz.func51, Tryz.ntmps51; go_wp2
 refine wp_loop_rounds 9 ?_
 rw [rounds_succ]; go_wp2; rw [rounds_succ]; go_wp2; rw [rounds_succ]; go_wp2; rw [rounds_succ]; go_wp2; go_wp2; go_ret
 exact ⟨rfl, rfl⟩
theorem ch_1_3_1 (b : Int) (b0 : 0 ≤ b) (b1 : b < 256) (g : b / 8 % 2 = 1) (w : World) : Calls Tryz.prog 51 #[.int .u8 b, .int .i64 3, .bool true] w fun e w' => e = .returned (.int .u8 b) ∧ w = w' := by
 go_enter Tryz.func51, Tryz.ntmps51; go_wp2
 refine wp_loop_rounds 9 ?_
 rw [rounds_succ]; go_wp2; rw [rounds_succ]; go_wp2; rw [rounds_succ]; go_wp2; rw [rounds_succ]; go_wp2; go_wp2; go_ret
 exact ⟨rfl, rfl⟩
theorem ch_1_4_0 (b : Int) (b0 : 0 ≤ b) (b1 : b < 256) (g : b / 16 % 2 = 0) (z : Int) (hz : b + 16 = z) (z0 : 0 ≤ z) (z1 : z < 256) (w : World) : Calls Tryz.prog 51 #[.int .u8 b, .int .i64 4, .bool true] w fun e w' => e = .returned (.int .u8 z) ∧ w = w' := by
 go_enter Tryz.func51, Tryz.ntmps51; go_wp2
 refine wp_loop_rounds 9 ?_
 rw [rounds_succ]; go_wp2; rw [rounds_succ]; go_wp2; rw [rounds_succ]; go_wp2; rw [rounds_succ]; go_wp2; rw [rounds_succ]; go_wp2; go_wp2; go_ret
 exact ⟨rfl, rfl⟩
theorem ch_1_4_1 (b : Int) (b0 : 0 ≤ b) (b1 : b < 256) (g : b / 16 % 2 = 1) (w : World) : Calls Tryz.prog 51 #[.int .u8 b, .int .i64 4, .bool true] w fun e w' => e = .returned (.int .u8 b) ∧ w = w' := by
 go_enter Tryz.func51, Tryz.ntmps51; go_wp2
 refine wp_loop_rounds 9 ?_
 rw [rounds_succ]; go_wp2; rw [rounds_succ]; go_wp2; rw [rounds_succ]; go_wp2; rw [rounds_succ]; go_wp2; rw [rounds_succ]; go_wp2; go_wp2; go_ret
 exact ⟨rfl, rfl⟩
theorem ch_1_5_0 (b : Int) (b0 : 0 ≤ b) (b1 : b < 256) (g : b / 32 % 2 = 0) (z : Int) (hz : b + 32 = z) (z0 : 0 ≤ z) (z1 : z < 256) (w : World) : Calls Tryz.prog 51 #[.int .u8 b, .int .i64 5, .bool true] w fun e w' => e = .returned (.int .u8 z) ∧ w = w' := by
 go_enter Tryz.func51, Tryz.ntmps51; go_wp2
 refine wp_loop_rounds 9 ?_
 rw [rounds_succ]; go_wp2; rw [rounds_succ]; go_wp2; rw [rounds_succ]; go_wp2; rw [rounds_succ]; go_wp2; rw [rounds_succ]; go_wp2; rw [rounds_succ]; go_wp2; go_wp2; go_ret
 exact ⟨rfl, rfl⟩
theorem ch_1_5_1 (b : Int) (b0 : 0 ≤ b) (b1 : b < 256) (g : b / 32 % 2 = 1) (w : World) : Calls Tryz.prog 51 #[.int .u8 b, .int .i64 5, .bool true] w fun e w' => e = .returned (.int .u8 b) ∧ w = w' := by
 go_enter Tryz.func51, Tryz.ntmps51; go_wp2
 refine wp_loop_rounds 9 ?_
 rw [rounds_succ]; go_wp2; rw [rounds_succ]; go_wp2; rw [rounds_succ]; go_wp2; rw [rounds_succ]; go_wp2; rw [rounds_succ]; go_wp2; rw [rounds_succ]; go_wp2; go_wp2; go_ret
 exact ⟨rfl, rfl⟩
theorem ch_1_6_0 (b : Int) (b0 : 0 ≤ b) (b1 : b < 256) (g : b / 64 % 2 = 0) (z : Int) (hz : b + 64 = z) (z0 : 0 ≤ z) (z1 : z < 256) (w : World) : Calls Tryz.prog 51 #[.int .u8 b, .int .i64 6, .bool true] w fun e w' => e = .returned (.int .u8 z) ∧ w = w' := by
 go_enter Tryz.func51, Tryz.ntmps51; go_wp2
 refine wp_loop_rounds 9 ?_
 rw [rounds_succ]; go_wp2; rw [rounds_succ]; go_wp2; rw [rounds_succ]; go_wp2; rw [rounds_succ]; go_wp2; rw [rounds_succ]; go_wp2; rw [rounds_succ]; go_wp2; rw [rounds_succ]; go_wp2; go_wp2; go_ret
 exact ⟨rfl, rfl⟩
theorem ch_1_6_1 (b : Int) (b0 : 0 ≤ b) (b1 : b < 256) (g : b / 64 % 2 = 1) (w : World) : Calls Tryz.prog 51 #[.int .u8 b, .int .i64 6, .bool true] w fun e w' => e = .returned (.int .u8 b) ∧ w = w' := by
 go_enter Tryz.func51, Tryz.ntmps51; go_wp2
 refine wp_loop_rounds 9 ?_
 rw [rounds_succ]; go_wp2; rw [rounds_succ]; go_wp2; rw [rounds_succ]; go_wp2; rw [rounds_succ]; go_wp2; rw [rounds_succ]; go_wp2; rw [rounds_succ]; go_wp2; rw [rounds_succ]; go_wp2; go_wp2; go_ret
 exact ⟨rfl, rfl⟩
theorem ch_1_7_0 (b : Int) (b0 : 0 ≤ b) (b1 : b < 256) (g : b / 128 % 2 = 0) (z : Int) (hz : b + 128 = z) (z0 : 0 ≤ z) (z1 : z < 256) (w : World) : Calls Tryz.prog 51 #[.int .u8 b, .int .i64 7, .bool true] w fun e w' => e = .returned (.int .u8 z) ∧ w = w' := by
 go_enter Tryz.func51, Tryz.ntmps51; go_wp2
 refine wp_loop_rounds 9 ?_
 rw [rounds_succ]; go_wp2; rw [rounds_succ]; go_wp2; rw [rounds_succ]; go_wp2; rw [rounds_succ]; go_wp2; rw [rounds_succ]; go_wp2; rw [rounds_succ]; go_wp2; rw [rounds_succ]; go_wp2; rw [rounds_succ]; go_wp2; go_wp2; go_ret
 exact ⟨rfl, rfl⟩
theorem ch_1_7_1 (b : Int) (b0 : 0 ≤ b) (b1 : b < 256) (g : b / 128 % 2 = 1) (w : World) : Calls Tryz.prog 51 #[.int .u8 b, .int .i64 7, .bool true] w fun e w' => e = .returned (.int .u8 b) ∧ w = w' := by
 go_enter Tryz.func51, Tryz.ntmps51; go_wp2
 refine wp_loop_rounds 9 ?_
 rw [rounds_succ]; go_wp2; rw [rounds_succ]; go_wp2; rw [rounds_succ]; go_wp2; rw [rounds_succ]; go_wp2; rw [rounds_succ]; go_wp2; rw [rounds_succ]; go_wp2; rw [rounds_succ]; go_wp2; rw [rounds_succ]; go_wp2; go_wp2; go_ret
 exact ⟨rfl, rfl⟩
theorem msum_p (h0 : Sys noD memC w P R M tb v y n) (hn : n < 980000) (k x : Int) (k0 : 0 ≤ k) (k1 : k < 8) (x0 : 0 ≤ x) (x1 : x < 256) : Calls Tryz.prog 39 #[.pointer (some ⟨P, 0, none⟩), .int .i64 k, .int .u8 x] w (PE noD memC P R M tb v w (.tuple #[]) (sumS k x y) n) := by
 rcases (by omega : k = 0 ∨ k = 1 ∨ k = 2 ∨ k = 3 ∨ k = 4 ∨ k = 5 ∨ k = 6 ∨ k = 7) with rfl | rfl | rfl | rfl | rfl | rfl | rfl | rfl
 ·exact msum_0 h0 (by omega) x x0 x1
 ·exact msum_1 h0 (by omega) x x0 x1
 ·exact msum_2 h0 (by omega) x x0 x1
 ·exact msum_3 h0 (by omega) x x0 x1
 ·exact msum_4 h0 (by omega) x x0 x1
 ·exact msum_5 h0 (by omega) x x0 x1
 ·exact msum_6 h0 (by omega) x x0 x1
 ·exact msum_7 h0 (by omega) x x0 x1
theorem clr_r (b k : Int) (b0 : 0 ≤ b) (b1 : b < 256) (k0 : 0 ≤ k) (k1 : k < 8) (w : World) : Calls Tryz.prog 51 #[.int .u8 b, .int .i64 k, .bool false] w fun e w' => e = .returned (.int .u8 (clr b k.toNat)) ∧ w = w' := by
 rcases (by omega : k = 0 ∨ k = 1 ∨ k = 2 ∨ k = 3 ∨ k = 4 ∨ k = 5 ∨ k = 6 ∨ k = 7) with rfl | rfl | rfl | rfl | rfl | rfl | rfl | rfl
 ·rcases (by omega : b / 1 % 2 = 0 ∨ b / 1 % 2 = 1) with g | g
  ·rw [show clr b (Int.toNat 0) = b from by show clr b 0 = _; unfold clr; rw [if_neg (by show ¬ (b / (2 : Int) ^ 0 % 2 = 1); rw [show (2 : Int) ^ 0 = 1 from rfl]; omega)]]
   exact ch_0_0_0 b b0 b1 (by omega) w
  ·rw [show clr b (Int.toNat 0) = (b - 1) from by show clr b 0 = _; unfold clr; rw [if_pos (by show  b / (2 : Int) ^ 0 % 2 = 1; rw [show (2 : Int) ^ 0 = 1 from rfl]; omega)]; rfl]
   exact ch_0_0_1 b b0 b1 (by omega) _ rfl (by omega) (by omega) w
 ·rcases (by omega : b / 2 % 2 = 0 ∨ b / 2 % 2 = 1) with g | g
  ·rw [show clr b (Int.toNat 1) = b from by show clr b 1 = _; unfold clr; rw [if_neg (by show ¬ (b / (2 : Int) ^ 1 % 2 = 1); rw [show (2 : Int) ^ 1 = 2 from rfl]; omega)]]
   exact ch_0_1_0 b b0 b1 g w
  ·rw [show clr b (Int.toNat 1) = (b - 2) from by show clr b 1 = _; unfold clr; rw [if_pos (by show  b / (2 : Int) ^ 1 % 2 = 1; rw [show (2 : Int) ^ 1 = 2 from rfl]; omega)]; rfl]
   exact ch_0_1_1 b b0 b1 g _ rfl (by omega) (by omega) w
 ·rcases (by omega : b / 4 % 2 = 0 ∨ b / 4 % 2 = 1) with g | g
  ·rw [show clr b (Int.toNat 2) = b from by show clr b 2 = _; unfold clr; rw [if_neg (by show ¬ (b / (2 : Int) ^ 2 % 2 = 1); rw [show (2 : Int) ^ 2 = 4 from rfl]; omega)]]
   exact ch_0_2_0 b b0 b1 g w
  ·rw [show clr b (Int.toNat 2) = (b - 4) from by show clr b 2 = _; unfold clr; rw [if_pos (by show  b / (2 : Int) ^ 2 % 2 = 1; rw [show (2 : Int) ^ 2 = 4 from rfl]; omega)]; rfl]
   exact ch_0_2_1 b b0 b1 g _ rfl (by omega) (by omega) w
 ·rcases (by omega : b / 8 % 2 = 0 ∨ b / 8 % 2 = 1) with g | g
  ·rw [show clr b (Int.toNat 3) = b from by show clr b 3 = _; unfold clr; rw [if_neg (by show ¬ (b / (2 : Int) ^ 3 % 2 = 1); rw [show (2 : Int) ^ 3 = 8 from rfl]; omega)]]
   exact ch_0_3_0 b b0 b1 g w
  ·rw [show clr b (Int.toNat 3) = (b - 8) from by show clr b 3 = _; unfold clr; rw [if_pos (by show  b / (2 : Int) ^ 3 % 2 = 1; rw [show (2 : Int) ^ 3 = 8 from rfl]; omega)]; rfl]
   exact ch_0_3_1 b b0 b1 g _ rfl (by omega) (by omega) w
 ·rcases (by omega : b / 16 % 2 = 0 ∨ b / 16 % 2 = 1) with g | g
  ·rw [show clr b (Int.toNat 4) = b from by show clr b 4 = _; unfold clr; rw [if_neg (by show ¬ (b / (2 : Int) ^ 4 % 2 = 1); rw [show (2 : Int) ^ 4 = 16 from rfl]; omega)]]
   exact ch_0_4_0 b b0 b1 g w
  ·rw [show clr b (Int.toNat 4) = (b - 16) from by show clr b 4 = _; unfold clr; rw [if_pos (by show  b / (2 : Int) ^ 4 % 2 = 1; rw [show (2 : Int) ^ 4 = 16 from rfl]; omega)]; rfl]
   exact ch_0_4_1 b b0 b1 g _ rfl (by omega) (by omega) w
 ·rcases (by omega : b / 32 % 2 = 0 ∨ b / 32 % 2 = 1) with g | g
  ·rw [show clr b (Int.toNat 5) = b from by show clr b 5 = _; unfold clr; rw [if_neg (by show ¬ (b / (2 : Int) ^ 5 % 2 = 1); rw [show (2 : Int) ^ 5 = 32 from rfl]; omega)]]
   exact ch_0_5_0 b b0 b1 g w
  ·rw [show clr b (Int.toNat 5) = (b - 32) from by show clr b 5 = _; unfold clr; rw [if_pos (by show  b / (2 : Int) ^ 5 % 2 = 1; rw [show (2 : Int) ^ 5 = 32 from rfl]; omega)]; rfl]
   exact ch_0_5_1 b b0 b1 g _ rfl (by omega) (by omega) w
 ·rcases (by omega : b / 64 % 2 = 0 ∨ b / 64 % 2 = 1) with g | g
  ·rw [show clr b (Int.toNat 6) = b from by show clr b 6 = _; unfold clr; rw [if_neg (by show ¬ (b / (2 : Int) ^ 6 % 2 = 1); rw [show (2 : Int) ^ 6 = 64 from rfl]; omega)]]
   exact ch_0_6_0 b b0 b1 g w
  ·rw [show clr b (Int.toNat 6) = (b - 64) from by show clr b 6 = _; unfold clr; rw [if_pos (by show  b / (2 : Int) ^ 6 % 2 = 1; rw [show (2 : Int) ^ 6 = 64 from rfl]; omega)]; rfl]
   exact ch_0_6_1 b b0 b1 g _ rfl (by omega) (by omega) w
 ·rcases (by omega : b / 128 % 2 = 0 ∨ b / 128 % 2 = 1) with g | g
  ·rw [show clr b (Int.toNat 7) = b from by show clr b 7 = _; unfold clr; rw [if_neg (by show ¬ (b / (2 : Int) ^ 7 % 2 = 1); rw [show (2 : Int) ^ 7 = 128 from rfl]; omega)]]
   exact ch_0_7_0 b b0 b1 g w
  ·rw [show clr b (Int.toNat 7) = (b - 128) from by show clr b 7 = _; unfold clr; rw [if_pos (by show  b / (2 : Int) ^ 7 % 2 = 1; rw [show (2 : Int) ^ 7 = 128 from rfl]; omega)]; rfl]
   exact ch_0_7_1 b b0 b1 g _ rfl (by omega) (by omega) w
theorem put_r (b k : Int) (b0 : 0 ≤ b) (b1 : b < 256) (k0 : 0 ≤ k) (k1 : k < 8) (w : World) : Calls Tryz.prog 51 #[.int .u8 b, .int .i64 k, .bool true] w fun e w' => e = .returned (.int .u8 (Go.Proofs.YtngdogldgcgnjaaGreat.put b k.toNat)) ∧ w = w' := by
 rcases (by omega : k = 0 ∨ k = 1 ∨ k = 2 ∨ k = 3 ∨ k = 4 ∨ k = 5 ∨ k = 6 ∨ k = 7) with rfl | rfl | rfl | rfl | rfl | rfl | rfl | rfl
 ·rcases (by omega : b / 1 % 2 = 0 ∨ b / 1 % 2 = 1) with g | g
  ·rw [show Go.Proofs.YtngdogldgcgnjaaGreat.put b (Int.toNat 0) = (b + 1) from by show Go.Proofs.YtngdogldgcgnjaaGreat.put b 0 = _; unfold Go.Proofs.YtngdogldgcgnjaaGreat.put; rw [if_neg (by show ¬ (b / (2 : Int) ^ 0 % 2 = 1); rw [show (2 : Int) ^ 0 = 1 from rfl]; omega)]; rfl]
   exact ch_1_0_0 b b0 b1 (by omega) _ rfl (by omega) (by omega) w
  ·rw [show Go.Proofs.YtngdogldgcgnjaaGreat.put b (Int.toNat 0) = b from by show Go.Proofs.YtngdogldgcgnjaaGreat.put b 0 = _; unfold Go.Proofs.YtngdogldgcgnjaaGreat.put; rw [if_pos (by show  b / (2 : Int) ^ 0 % 2 = 1; rw [show (2 : Int) ^ 0 = 1 from rfl]; omega)]]
   exact ch_1_0_1 b b0 b1 (by omega) w
 ·rcases (by omega : b / 2 % 2 = 0 ∨ b / 2 % 2 = 1) with g | g
  ·rw [show Go.Proofs.YtngdogldgcgnjaaGreat.put b (Int.toNat 1) = (b + 2) from by show Go.Proofs.YtngdogldgcgnjaaGreat.put b 1 = _; unfold Go.Proofs.YtngdogldgcgnjaaGreat.put; rw [if_neg (by show ¬ (b / (2 : Int) ^ 1 % 2 = 1); rw [show (2 : Int) ^ 1 = 2 from rfl]; omega)]; rfl]
   exact ch_1_1_0 b b0 b1 g _ rfl (by omega) (by omega) w
  ·rw [show Go.Proofs.YtngdogldgcgnjaaGreat.put b (Int.toNat 1) = b from by show Go.Proofs.YtngdogldgcgnjaaGreat.put b 1 = _; unfold Go.Proofs.YtngdogldgcgnjaaGreat.put; rw [if_pos (by show  b / (2 : Int) ^ 1 % 2 = 1; rw [show (2 : Int) ^ 1 = 2 from rfl]; omega)]]
   exact ch_1_1_1 b b0 b1 g w
 ·rcases (by omega : b / 4 % 2 = 0 ∨ b / 4 % 2 = 1) with g | g
  ·rw [show Go.Proofs.YtngdogldgcgnjaaGreat.put b (Int.toNat 2) = (b + 4) from by show Go.Proofs.YtngdogldgcgnjaaGreat.put b 2 = _; unfold Go.Proofs.YtngdogldgcgnjaaGreat.put; rw [if_neg (by show ¬ (b / (2 : Int) ^ 2 % 2 = 1); rw [show (2 : Int) ^ 2 = 4 from rfl]; omega)]; rfl]
   exact ch_1_2_0 b b0 b1 g _ rfl (by omega) (by omega) w
  ·rw [show Go.Proofs.YtngdogldgcgnjaaGreat.put b (Int.toNat 2) = b from by show Go.Proofs.YtngdogldgcgnjaaGreat.put b 2 = _; unfold Go.Proofs.YtngdogldgcgnjaaGreat.put; rw [if_pos (by show  b / (2 : Int) ^ 2 % 2 = 1; rw [show (2 : Int) ^ 2 = 4 from rfl]; omega)]]
   exact ch_1_2_1 b b0 b1 g w
 ·rcases (by omega : b / 8 % 2 = 0 ∨ b / 8 % 2 = 1) with g | g
  ·rw [show Go.Proofs.YtngdogldgcgnjaaGreat.put b (Int.toNat 3) = (b + 8) from by show Go.Proofs.YtngdogldgcgnjaaGreat.put b 3 = _; unfold Go.Proofs.YtngdogldgcgnjaaGreat.put; rw [if_neg (by show ¬ (b / (2 : Int) ^ 3 % 2 = 1); rw [show (2 : Int) ^ 3 = 8 from rfl]; omega)]; rfl]
   exact ch_1_3_0 b b0 b1 g _ rfl (by omega) (by omega) w
  ·rw [show Go.Proofs.YtngdogldgcgnjaaGreat.put b (Int.toNat 3) = b from by show Go.Proofs.YtngdogldgcgnjaaGreat.put b 3 = _; unfold Go.Proofs.YtngdogldgcgnjaaGreat.put; rw [if_pos (by show  b / (2 : Int) ^ 3 % 2 = 1; rw [show (2 : Int) ^ 3 = 8 from rfl]; omega)]]
   exact ch_1_3_1 b b0 b1 g w
 ·rcases (by omega : b / 16 % 2 = 0 ∨ b / 16 % 2 = 1) with g | g
  ·rw [show Go.Proofs.YtngdogldgcgnjaaGreat.put b (Int.toNat 4) = (b + 16) from by show Go.Proofs.YtngdogldgcgnjaaGreat.put b 4 = _; unfold Go.Proofs.YtngdogldgcgnjaaGreat.put; rw [if_neg (by show ¬ (b / (2 : Int) ^ 4 % 2 = 1); rw [show (2 : Int) ^ 4 = 16 from rfl]; omega)]; rfl]
   exact ch_1_4_0 b b0 b1 g _ rfl (by omega) (by omega) w
  ·rw [show Go.Proofs.YtngdogldgcgnjaaGreat.put b (Int.toNat 4) = b from by show Go.Proofs.YtngdogldgcgnjaaGreat.put b 4 = _; unfold Go.Proofs.YtngdogldgcgnjaaGreat.put; rw [if_pos (by show  b / (2 : Int) ^ 4 % 2 = 1; rw [show (2 : Int) ^ 4 = 16 from rfl]; omega)]]
   exact ch_1_4_1 b b0 b1 g w
 ·rcases (by omega : b / 32 % 2 = 0 ∨ b / 32 % 2 = 1) with g | g
  ·rw [show Go.Proofs.YtngdogldgcgnjaaGreat.put b (Int.toNat 5) = (b + 32) from by show Go.Proofs.YtngdogldgcgnjaaGreat.put b 5 = _; unfold Go.Proofs.YtngdogldgcgnjaaGreat.put; rw [if_neg (by show ¬ (b / (2 : Int) ^ 5 % 2 = 1); rw [show (2 : Int) ^ 5 = 32 from rfl]; omega)]; rfl]
   exact ch_1_5_0 b b0 b1 g _ rfl (by omega) (by omega) w
  ·rw [show Go.Proofs.YtngdogldgcgnjaaGreat.put b (Int.toNat 5) = b from by show Go.Proofs.YtngdogldgcgnjaaGreat.put b 5 = _; unfold Go.Proofs.YtngdogldgcgnjaaGreat.put; rw [if_pos (by show  b / (2 : Int) ^ 5 % 2 = 1; rw [show (2 : Int) ^ 5 = 32 from rfl]; omega)]]
   exact ch_1_5_1 b b0 b1 g w
 ·rcases (by omega : b / 64 % 2 = 0 ∨ b / 64 % 2 = 1) with g | g
  ·rw [show Go.Proofs.YtngdogldgcgnjaaGreat.put b (Int.toNat 6) = (b + 64) from by show Go.Proofs.YtngdogldgcgnjaaGreat.put b 6 = _; unfold Go.Proofs.YtngdogldgcgnjaaGreat.put; rw [if_neg (by show ¬ (b / (2 : Int) ^ 6 % 2 = 1); rw [show (2 : Int) ^ 6 = 64 from rfl]; omega)]; rfl]
   exact ch_1_6_0 b b0 b1 g _ rfl (by omega) (by omega) w
  ·rw [show Go.Proofs.YtngdogldgcgnjaaGreat.put b (Int.toNat 6) = b from by show Go.Proofs.YtngdogldgcgnjaaGreat.put b 6 = _; unfold Go.Proofs.YtngdogldgcgnjaaGreat.put; rw [if_pos (by show  b / (2 : Int) ^ 6 % 2 = 1; rw [show (2 : Int) ^ 6 = 64 from rfl]; omega)]]
   exact ch_1_6_1 b b0 b1 g w
 ·rcases (by omega : b / 128 % 2 = 0 ∨ b / 128 % 2 = 1) with g | g
  ·rw [show Go.Proofs.YtngdogldgcgnjaaGreat.put b (Int.toNat 7) = (b + 128) from by show Go.Proofs.YtngdogldgcgnjaaGreat.put b 7 = _; unfold Go.Proofs.YtngdogldgcgnjaaGreat.put; rw [if_neg (by show ¬ (b / (2 : Int) ^ 7 % 2 = 1); rw [show (2 : Int) ^ 7 = 128 from rfl]; omega)]; rfl]
   exact ch_1_7_0 b b0 b1 g _ rfl (by omega) (by omega) w
  ·rw [show Go.Proofs.YtngdogldgcgnjaaGreat.put b (Int.toNat 7) = b from by show Go.Proofs.YtngdogldgcgnjaaGreat.put b 7 = _; unfold Go.Proofs.YtngdogldgcgnjaaGreat.put; rw [if_pos (by show  b / (2 : Int) ^ 7 % 2 = 1; rw [show (2 : Int) ^ 7 = 128 from rfl]; omega)]]
   exact ch_1_7_1 b b0 b1 g w
end
end Go.Proofs.YtngdogldgcgnjaaGreat
