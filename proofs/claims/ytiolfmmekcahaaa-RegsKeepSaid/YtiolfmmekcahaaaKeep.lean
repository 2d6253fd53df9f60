/-
  The walk through RegsKeep: for every set of registers, numbers and byte it returns true; no condition but that each argument fits its kind.
-/
import Derived.Test.YtiolfmmekcahaaaFrame
import Derived.Test.YtiolfmmekcahaaaRegs3
namespace Go.Proofs.Ytiolfmmekcahaaa.regsKeep
open Go.ChangeShapes Go.WideShapes Go.ChangeAt Go.RowKit

theorem set_t (r t : RR) (n x y : Int) (h : setR r n x = t) (hy : getE n = y) (w : World) :
    Calls Try.prog 16 #[.agg #[.int .u8 r.a, .int .u8 r.f, .int .u8 r.b, .int .u8 r.c, .int .u8 r.d, .int .u8 r.e, .int .u8 r.h, .int .u8 r.l, .int .u16 r.sp, .int .u16 r.pc], .int .i64 n, .int .u8 x] w fun e w' => e = .returned (.tuple #[.agg #[.int .u8 t.a, .int .u8 t.f, .int .u8 t.b, .int .u8 t.c, .int .u8 t.d, .int .u8 t.e, .int .u8 t.h, .int .u8 t.l, .int .u16 t.sp, .int .u16 t.pc], .int .i64 y]) ∧ Below w.heap.size w w' := by
  subst h; subst hy; exact set_c r n x w
theorem get_t (r : RR) (n v y : Int) (h : getV r n = v) (hy : getE n = y) (w : World) :
    Calls Try.prog 10 #[.agg #[.int .u8 r.a, .int .u8 r.f, .int .u8 r.b, .int .u8 r.c, .int .u8 r.d, .int .u8 r.e, .int .u8 r.h, .int .u8 r.l, .int .u16 r.sp, .int .u16 r.pc], .int .i64 n] w fun e w' => e = .returned (.tuple #[.int .u8 v, .int .i64 y]) ∧ Below w.heap.size w w' := by
  subst h; subst hy; exact get_c r n w

set_option maxHeartbeats 800000 in
set_option maxRecDepth 100000 in
theorem walk1 (r : RR) (n k x : Int) (_n1 : 0 ≤ n) (_n2 : n < 256) (_k1 : 0 ≤ k) (_k2 : k < 256) (t : RR) (i j tj rj y : Int) (hi : n % 8 = i) (hj : k % 8 = j) (h6 : (i == 6) = false)
    (ht : setR r i x = t) (h0 : getE i = 0) (ha : getV t i = x) (hb : getV t j = tj) (hc : getV r j = rj) (hy : getE j = y)
    (tf : (t.f == r.f) = true) (tsp : (t.sp == r.sp) = true) (tpc : (t.pc == r.pc) = true) (hd : (i == j) = true ∨ ((i == j) = false ∧ (tj == rj) = true)) (w : World) :
    Calls Try.prog 5 #[.agg #[.int .u8 r.a, .int .u8 r.f, .int .u8 r.b, .int .u8 r.c, .int .u8 r.d, .int .u8 r.e, .int .u8 r.h, .int .u8 r.l, .int .u16 r.sp, .int .u16 r.pc], .int .u8 n, .int .u8 k, .int .u8 x] w fun e w' => e = .returned (.bool true) ∧ Below w.heap.size w w' := by
  have HT := Lib.hid ht; have HA := Lib.hid ha; have HB := Lib.hid hb; have HC := Lib.hid hc; have H0 := Lib.hid h0; have HY := Lib.hid hy; have HD := Lib.hid hd
  clear ht ha hb hc h0 hy hd
  go_enter Try.func5, Try.ntmps5
  go_wp2_with fail
  with_reducible refine (awake_c _).mono ?_
  rintro e w1 ⟨rfl, hb1⟩
  have A1 := (Has.new w #[Value.int .u8 r.a, Value.int .u8 r.f, Value.int .u8 r.b, Value.int .u8 r.c, Value.int .u8 r.d, Value.int .u8 r.e, Value.int .u8 r.h, Value.int .u8 r.l, Value.int .u16 r.sp, Value.int .u16 r.pc] 24).below hb1
  have B1 := Lib.hid hb1; clear hb1
  obtain ⟨c1, f1⟩ := A1.out
  have K1 := Lib.hid A1; clear A1
  go_wp2_with fail
  with_reducible refine (set_t r t _ _ _ HT.out H0.out _).mono ?_
  rintro e w2 ⟨rfl, hb2⟩
  have A1 := K1.out.stepA hb2
  have A2 := Has.stepN hb2
  have z1 : w.heap.size < w1.heap.size := K1.out.1
  have z2 : w1.heap.size < w2.heap.size := A2.1
  have B2 := Lib.hid hb2; clear hb2 c1 f1
  obtain ⟨c1, f1⟩ := A1.out
  obtain ⟨c2, f2⟩ := A2.out
  clear K1
  have K1 := Lib.hid A1; have K2 := Lib.hid A2; clear A1 A2
  go_wp2_with fail
  with_reducible refine (get_t t _ _ _ HA.out H0.out _).mono ?_
  rintro e w3 ⟨rfl, hb3⟩
  have A1 := K1.out.stepA hb3
  have A2 := K2.out.stepA hb3
  have A3 := Has.stepN hb3
  have z3 : w2.heap.size < w3.heap.size := A3.1
  have B3 := Lib.hid hb3; clear hb3 c1 f1 c2 f2 K1 K2
  obtain ⟨c1, f1⟩ := A1.out
  obtain ⟨c2, f2⟩ := A2.out
  obtain ⟨c3, f3⟩ := A3.out
  have K1 := Lib.hid A1; have K2 := Lib.hid A2; have K3 := Lib.hid A3; clear A1 A2 A3
  go_wp2_with fail
  with_reducible refine (get_t t _ _ _ HB.out HY.out _).mono ?_
  rintro e w4 ⟨rfl, hb4⟩
  have A1 := K1.out.below hb4
  have A2 := K2.out.below hb4
  have A3 := K3.out.below hb4
  have B4 := Lib.hid hb4; clear hb4 c1 f1 c2 f2 c3 f3 K1 K2 K3
  obtain ⟨c1, f1⟩ := A1.out
  obtain ⟨c2, f2⟩ := A2.out
  obtain ⟨c3, f3⟩ := A3.out
  have K1 := Lib.hid A1; have K2 := Lib.hid A2; have K3 := Lib.hid A3; clear A1 A2 A3
  go_wp2_with fail
  with_reducible refine (get_t r _ _ _ HC.out HY.out _).mono ?_
  rintro e w5 ⟨rfl, hb5⟩
  have A1 := K1.out.below hb5
  have A2 := K2.out.below hb5
  have A3 := K3.out.below hb5
  have B5 := Lib.hid hb5; clear hb5 c1 f1 c2 f2 c3 f3 K1 K2 K3
  obtain ⟨c1, f1⟩ := A1.out
  obtain ⟨c2, f2⟩ := A2.out
  obtain ⟨c3, f3⟩ := A3.out
  clear A1 A2 A3
  rcases HD.out with hd | ⟨hd, hd'⟩
  all_goals
    go_wp2
    go_ret
    refine ⟨rfl, ?_⟩
    have b1 := (Below.refl w.heap.size w).stepA (Nat.le_refl _) B1.out
    have b2 := b1.stepA (Nat.le_of_lt z1) B2.out
    have b3 := b2.stepA (by omega) B3.out
    have b4 := b3.step (by omega) B4.out
    exact b4.step b4.size B5.out

theorem set_z (r : RR) (n x : Int) (h : n = 6) (w : World) :
    Calls Try.prog 16 #[.agg #[.int .u8 r.a, .int .u8 r.f, .int .u8 r.b, .int .u8 r.c, .int .u8 r.d, .int .u8 r.e, .int .u8 r.h, .int .u8 r.l, .int .u16 r.sp, .int .u16 r.pc], .int .i64 n, .int .u8 x] w fun e w' => e = .returned (.tuple #[.agg #[.int .u8 0, .int .u8 0, .int .u8 0, .int .u8 0, .int .u8 0, .int .u8 0, .int .u8 0, .int .u8 0, .int .u16 0, .int .u16 0], .int .i64 1]) ∧ Below w.heap.size w w' := by
  subst h; exact set_c r 6 x w

set_option maxHeartbeats 800000 in
set_option maxRecDepth 100000 in
theorem walk0 (r : RR) (n k x : Int) (_n1 : 0 ≤ n) (_n2 : n < 256) (_k1 : 0 ≤ k) (_k2 : k < 256) (i : Int) (hi : n % 8 = i) (h6 : i = 6) (w : World) :
    Calls Try.prog 5 #[.agg #[.int .u8 r.a, .int .u8 r.f, .int .u8 r.b, .int .u8 r.c, .int .u8 r.d, .int .u8 r.e, .int .u8 r.h, .int .u8 r.l, .int .u16 r.sp, .int .u16 r.pc], .int .u8 n, .int .u8 k, .int .u8 x] w fun e w' => e = .returned (.bool true) ∧ Below w.heap.size w w' := by
  have H6 := Lib.hid h6
  have h6' : (i == 6) = true := by simp [h6]
  clear h6
  go_enter Try.func5, Try.ntmps5
  go_wp2_with fail
  with_reducible refine (awake_c _).mono ?_
  rintro e w1 ⟨rfl, hb1⟩
  have A1 := (Has.new w #[Value.int .u8 r.a, Value.int .u8 r.f, Value.int .u8 r.b, Value.int .u8 r.c, Value.int .u8 r.d, Value.int .u8 r.e, Value.int .u8 r.h, Value.int .u8 r.l, Value.int .u16 r.sp, Value.int .u16 r.pc] 24).below hb1
  have B1 := Lib.hid hb1; clear hb1
  obtain ⟨c1, f1⟩ := A1.out
  have z1 : w.heap.size < w1.heap.size := A1.1
  clear A1
  go_wp2_with fail
  with_reducible refine (set_z r _ _ H6.out _).mono ?_
  rintro e w2 ⟨rfl, hb2⟩
  have B2 := Lib.hid hb2; clear hb2
  go_wp2
  go_ret
  refine ⟨rfl, ?_⟩
  have b1 := (Below.refl w.heap.size w).stepA (Nat.le_refl _) B1.out
  have b2 := b1.stepA (Nat.le_of_lt z1) B2.out
  exact b2.alloc (by have := b2.size; omega) _

theorem fits (r : RR) (i j x : Int) (h1 : 0 ≤ i) (h2 : i < 8) (h3 : 0 ≤ j) (h4 : j < 8) (h6 : i ≠ 6) :
    getE i = 0 ∧ getV (setR r i x) i = x ∧ ((setR r i x).f == r.f) = true ∧ ((setR r i x).sp == r.sp) = true ∧ ((setR r i x).pc == r.pc) = true ∧ ((i == j) = true ∨ ((i == j) = false ∧ (getV (setR r i x) j == getV r j) = true)) := by
  rcases (by omega : i = 0 ∨ i = 1 ∨ i = 2 ∨ i = 3 ∨ i = 4 ∨ i = 5 ∨ i = 7) with rfl | rfl | rfl | rfl | rfl | rfl | rfl
  all_goals
    rcases (by omega : j = 0 ∨ j = 1 ∨ j = 2 ∨ j = 3 ∨ j = 4 ∨ j = 5 ∨ j = 6 ∨ j = 7) with rfl | rfl | rfl | rfl | rfl | rfl | rfl | rfl
    all_goals simp [getE, getV, setR]

theorem walk (r : RR) (n k x : Int) (n1 : 0 ≤ n) (n2 : n < 256) (k1 : 0 ≤ k) (k2 : k < 256) (w : World) :
    Calls Try.prog 5 #[.agg #[.int .u8 r.a, .int .u8 r.f, .int .u8 r.b, .int .u8 r.c, .int .u8 r.d, .int .u8 r.e, .int .u8 r.h, .int .u8 r.l, .int .u16 r.sp, .int .u16 r.pc], .int .u8 n, .int .u8 k, .int .u8 x] w fun e w' => e = .returned (.bool true) ∧ Below w.heap.size w w' := by
  by_cases h6 : n % 8 = 6
  · exact walk0 r n k x n1 n2 k1 k2 _ rfl h6 w
  · obtain ⟨a, b, c, d, e, f⟩ := fits r (n % 8) (k % 8) x (by omega) (by omega) (by omega) (by omega) h6
    exact walk1 r n k x n1 n2 k1 k2 _ _ _ _ _ _ rfl rfl (by simpa using h6) rfl a b rfl rfl rfl c d e f w
end Go.Proofs.Ytiolfmmekcahaaa.regsKeep
