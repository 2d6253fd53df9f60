/-
  The walk through RegsPairs: for every set of registers, numbers and word it returns true; no condition but that each argument fits its kind.
-/
import Derived.Test.YtiolfmmekcahaaaFrame
import Derived.Test.YtiolfmmekcahaaaRegs3
namespace Go.Proofs.Ytiolfmmekcahaaa.regsPairs
open Go.ChangeShapes Go.WideShapes Go.ChangeAt Go.RowKit

theorem setP_t (r t : RR) (n x y : Int) (h1 : 0 ≤ x) (h2 : x < 65536) (h : setP r n x = t) (hy : pairE n = y) (w : World) :
    Calls Try.prog 18 #[.agg #[.int .u8 r.a, .int .u8 r.f, .int .u8 r.b, .int .u8 r.c, .int .u8 r.d, .int .u8 r.e, .int .u8 r.h, .int .u8 r.l, .int .u16 r.sp, .int .u16 r.pc], .int .i64 n, .int .u16 x] w fun e w' => e = .returned (.tuple #[.agg #[.int .u8 t.a, .int .u8 t.f, .int .u8 t.b, .int .u8 t.c, .int .u8 t.d, .int .u8 t.e, .int .u8 t.h, .int .u8 t.l, .int .u16 t.sp, .int .u16 t.pc], .int .i64 y]) ∧ Below w.heap.size w w' := by
  subst h; subst hy; exact setPair_c r n x h1 h2 w
theorem pair_t (r : RR) (n v y : Int) (ok : r.ok) (h : pairV r n = v) (hy : pairE n = y) (w : World) :
    Calls Try.prog 12 #[.agg #[.int .u8 r.a, .int .u8 r.f, .int .u8 r.b, .int .u8 r.c, .int .u8 r.d, .int .u8 r.e, .int .u8 r.h, .int .u8 r.l, .int .u16 r.sp, .int .u16 r.pc], .int .i64 n] w fun e w' => e = .returned (.tuple #[.int .u16 v, .int .i64 y]) ∧ Below w.heap.size w w' := by
  subst h; subst hy; exact pair_c r n ok w
theorem get_t (r : RR) (n v y : Int) (h : getV r n = v) (hy : getE n = y) (w : World) :
    Calls Try.prog 10 #[.agg #[.int .u8 r.a, .int .u8 r.f, .int .u8 r.b, .int .u8 r.c, .int .u8 r.d, .int .u8 r.e, .int .u8 r.h, .int .u8 r.l, .int .u16 r.sp, .int .u16 r.pc], .int .i64 n] w fun e w' => e = .returned (.tuple #[.int .u8 v, .int .i64 y]) ∧ Below w.heap.size w w' := by
  subst h; subst hy; exact get_c r n w

set_option maxHeartbeats 1000000 in
set_option maxRecDepth 100000 in
theorem walkL (r : RR) (n k x : Int) (ok : r.ok) (_n1 : 0 ≤ n) (_n2 : n < 256) (_k1 : 0 ≤ k) (_k2 : k < 256) (x1 : 0 ≤ x) (x2 : x < 65536) (t : RR) (okt : t.ok) (i j a b c y : Int) (i1 : 0 ≤ i) (i2 : i < 5) (hi : n % 5 = i) (hj : k % 5 = j)
    (ht : setP r i x = t) (h0 : pairE i = 0) (ha : pairV t i = a) (hb : pairV t j = b) (hc : pairV r j = c) (hy : pairE j = y)
    (tpc : (t.pc != r.pc) = false) (hd : (i != j) = false ∨ ((i != j) = true ∧ (b != c) = false)) (i4 : (i == 4) = false) (i3 : decide (i < 3) = true) (hav : (a != x) = false) (h l eh el : Int) (_l1 : 0 ≤ h) (_l2 : h < 256) (_l3 : 0 ≤ l) (_l4 : l < 256) (gh : getV t (2 * i) = h) (xh : getE (2 * i) = eh) (gl : getV t (2 * i + 1) = l) (xl : getE (2 * i + 1) = el) (hq : (bits .or .u16 (h * 256) l == x) = true) (w : World) :
    Calls Try.prog 6 #[.agg #[.int .u8 r.a, .int .u8 r.f, .int .u8 r.b, .int .u8 r.c, .int .u8 r.d, .int .u8 r.e, .int .u8 r.h, .int .u8 r.l, .int .u16 r.sp, .int .u16 r.pc], .int .u8 n, .int .u8 k, .int .u16 x] w fun e w' => e = .returned (.bool true) ∧ Below w.heap.size w w' := by
  have HT := Lib.hid ht; have HA := Lib.hid ha; have HB := Lib.hid hb; have HC := Lib.hid hc; have H0 := Lib.hid h0; have HY := Lib.hid hy; have HD := Lib.hid hd; have OK := Lib.hid ok; have OKT := Lib.hid okt
  clear ht ha hb hc h0 hy hd ok okt
  have HGH := Lib.hid gh; have HEH := Lib.hid xh; have HGL := Lib.hid gl; have HEL := Lib.hid xl
  clear gh xh gl xl
  rcases HD.out with hd | ⟨hd, hd'⟩
  all_goals
    go_enter Try.func6, Try.ntmps6
    go_wp2_with fail
    with_reducible refine (awake_c _).mono ?_
    rintro e w1 ⟨rfl, hb1⟩
    have A1 := Has.stepN hb1
    have z1 : w.heap.size < w1.heap.size := A1.1
    have B1 := Lib.hid hb1; clear hb1
    obtain ⟨c1, f1⟩ := A1.out
    have K1 := Lib.hid A1; clear A1
    go_wp2_with fail
    with_reducible refine (setP_t r t _ _ _ x1 x2 HT.out H0.out _).mono ?_
    rintro e w2 ⟨rfl, hb2⟩
    have A1 := K1.out.stepA hb2
    have A2 := Has.stepN hb2
    have z2 : w1.heap.size < w2.heap.size := A2.1
    have B2 := Lib.hid hb2; clear hb2
    clear c1 f1 K1
    obtain ⟨c1, f1⟩ := A1.out
    obtain ⟨c2, f2⟩ := A2.out
    have K1 := Lib.hid A1; clear A1
    have K2 := Lib.hid A2; clear A2
    go_wp2_with fail
    with_reducible refine (pair_t t _ _ _ OKT.out HA.out H0.out _).mono ?_
    rintro e w3 ⟨rfl, hb3⟩
    have A1 := K1.out.stepA hb3
    have A2 := K2.out.stepA hb3
    have A3 := Has.stepN hb3
    have z3 : w2.heap.size < w3.heap.size := A3.1
    have B3 := Lib.hid hb3; clear hb3
    clear c1 f1 K1 c2 f2 K2
    obtain ⟨c1, f1⟩ := A1.out
    obtain ⟨c2, f2⟩ := A2.out
    obtain ⟨c3, f3⟩ := A3.out
    have K1 := Lib.hid A1; clear A1
    have K2 := Lib.hid A2; clear A2
    have K3 := Lib.hid A3; clear A3
    go_wp2_with fail
    with_reducible refine (pair_t t _ _ _ OKT.out HB.out HY.out _).mono ?_
    rintro e w4 ⟨rfl, hb4⟩
    have A1 := K1.out.below hb4
    have A2 := K2.out.below hb4
    have A3 := K3.out.below hb4
    have z4 : w3.heap.size ≤ w4.heap.size := hb4.size
    have B4 := Lib.hid hb4; clear hb4
    clear c1 f1 K1 c2 f2 K2 c3 f3 K3
    obtain ⟨c1, f1⟩ := A1.out
    obtain ⟨c2, f2⟩ := A2.out
    obtain ⟨c3, f3⟩ := A3.out
    have K1 := Lib.hid A1; clear A1
    have K2 := Lib.hid A2; clear A2
    have K3 := Lib.hid A3; clear A3
    go_wp2_with fail
    with_reducible refine (pair_t r _ _ _ OK.out HC.out HY.out _).mono ?_
    rintro e w5 ⟨rfl, hb5⟩
    have A1 := K1.out.below hb5
    have A2 := K2.out.below hb5
    have A3 := K3.out.below hb5
    have z5 : w4.heap.size ≤ w5.heap.size := hb5.size
    have B5 := Lib.hid hb5; clear hb5
    clear c1 f1 K1 c2 f2 K2 c3 f3 K3
    obtain ⟨c1, f1⟩ := A1.out
    obtain ⟨c2, f2⟩ := A2.out
    obtain ⟨c3, f3⟩ := A3.out
    have K1 := Lib.hid A1; clear A1
    have K2 := Lib.hid A2; clear A2
    have K3 := Lib.hid A3; clear A3
    go_wp2_with fail
    with_reducible refine (get_t t _ _ _ HGH.out HEH.out _).mono ?_
    rintro e w6 ⟨rfl, hb6⟩
    have A1 := K1.out.below hb6
    have A2 := K2.out.below hb6
    have A3 := K3.out.below hb6
    have z6 : w5.heap.size ≤ w6.heap.size := hb6.size
    have B6 := Lib.hid hb6; clear hb6
    clear c1 f1 K1 c2 f2 K2 c3 f3 K3
    obtain ⟨c1, f1⟩ := A1.out
    obtain ⟨c2, f2⟩ := A2.out
    obtain ⟨c3, f3⟩ := A3.out
    have K1 := Lib.hid A1; clear A1
    have K2 := Lib.hid A2; clear A2
    have K3 := Lib.hid A3; clear A3
    go_wp2_with fail
    with_reducible refine (get_t t _ _ _ HGL.out HEL.out _).mono ?_
    rintro e w7 ⟨rfl, hb7⟩
    have A1 := K1.out.below hb7
    have A2 := K2.out.below hb7
    have A3 := K3.out.below hb7
    have z7 : w6.heap.size ≤ w7.heap.size := hb7.size
    have B7 := Lib.hid hb7; clear hb7
    clear c1 f1 K1 c2 f2 K2 c3 f3 K3
    obtain ⟨c1, f1⟩ := A1.out
    obtain ⟨c2, f2⟩ := A2.out
    obtain ⟨c3, f3⟩ := A3.out
    have K1 := Lib.hid A1; clear A1
    have K2 := Lib.hid A2; clear A2
    have K3 := Lib.hid A3; clear A3
    go_wp2
    go_ret
    refine ⟨rfl, ?_⟩
    have b1 := (Below.refl w.heap.size w).stepA (Nat.le_refl _) B1.out
    have b2 := b1.stepA (by omega) B2.out
    have b3 := b2.stepA (by omega) B3.out
    have b4 := b3.step (by omega) B4.out
    have b5 := b4.step (by omega) B5.out
    have b6 := b5.step (by omega) B6.out
    exact b6.step (by omega) B7.out

set_option maxHeartbeats 1000000 in
set_option maxRecDepth 100000 in
theorem walkS (r : RR) (n k x : Int) (ok : r.ok) (_n1 : 0 ≤ n) (_n2 : n < 256) (_k1 : 0 ≤ k) (_k2 : k < 256) (x1 : 0 ≤ x) (x2 : x < 65536) (t : RR) (okt : t.ok) (i j a b c y : Int) (i1 : 0 ≤ i) (i2 : i < 5) (hi : n % 5 = i) (hj : k % 5 = j)
    (ht : setP r i x = t) (h0 : pairE i = 0) (ha : pairV t i = a) (hb : pairV t j = b) (hc : pairV r j = c) (hy : pairE j = y)
    (tpc : (t.pc != r.pc) = false) (hd : (i != j) = false ∨ ((i != j) = true ∧ (b != c) = false)) (i4 : (i == 4) = false) (i3 : decide (i < 3) = false) (i3' : (i == 3) = true) (hav : (a != x) = false) (hsp : (t.sp == x) = true) (w : World) :
    Calls Try.prog 6 #[.agg #[.int .u8 r.a, .int .u8 r.f, .int .u8 r.b, .int .u8 r.c, .int .u8 r.d, .int .u8 r.e, .int .u8 r.h, .int .u8 r.l, .int .u16 r.sp, .int .u16 r.pc], .int .u8 n, .int .u8 k, .int .u16 x] w fun e w' => e = .returned (.bool true) ∧ Below w.heap.size w w' := by
  have HT := Lib.hid ht; have HA := Lib.hid ha; have HB := Lib.hid hb; have HC := Lib.hid hc; have H0 := Lib.hid h0; have HY := Lib.hid hy; have HD := Lib.hid hd; have OK := Lib.hid ok; have OKT := Lib.hid okt
  clear ht ha hb hc h0 hy hd ok okt
  skip
  rcases HD.out with hd | ⟨hd, hd'⟩
  all_goals
    go_enter Try.func6, Try.ntmps6
    go_wp2_with fail
    with_reducible refine (awake_c _).mono ?_
    rintro e w1 ⟨rfl, hb1⟩
    have A1 := Has.stepN hb1
    have z1 : w.heap.size < w1.heap.size := A1.1
    have B1 := Lib.hid hb1; clear hb1
    obtain ⟨c1, f1⟩ := A1.out
    have K1 := Lib.hid A1; clear A1
    go_wp2_with fail
    with_reducible refine (setP_t r t _ _ _ x1 x2 HT.out H0.out _).mono ?_
    rintro e w2 ⟨rfl, hb2⟩
    have A1 := K1.out.stepA hb2
    have A2 := Has.stepN hb2
    have z2 : w1.heap.size < w2.heap.size := A2.1
    have B2 := Lib.hid hb2; clear hb2
    clear c1 f1 K1
    obtain ⟨c1, f1⟩ := A1.out
    obtain ⟨c2, f2⟩ := A2.out
    have K1 := Lib.hid A1; clear A1
    have K2 := Lib.hid A2; clear A2
    go_wp2_with fail
    with_reducible refine (pair_t t _ _ _ OKT.out HA.out H0.out _).mono ?_
    rintro e w3 ⟨rfl, hb3⟩
    have A1 := K1.out.stepA hb3
    have A2 := K2.out.stepA hb3
    have A3 := Has.stepN hb3
    have z3 : w2.heap.size < w3.heap.size := A3.1
    have B3 := Lib.hid hb3; clear hb3
    clear c1 f1 K1 c2 f2 K2
    obtain ⟨c1, f1⟩ := A1.out
    obtain ⟨c2, f2⟩ := A2.out
    obtain ⟨c3, f3⟩ := A3.out
    have K1 := Lib.hid A1; clear A1
    have K2 := Lib.hid A2; clear A2
    have K3 := Lib.hid A3; clear A3
    go_wp2_with fail
    with_reducible refine (pair_t t _ _ _ OKT.out HB.out HY.out _).mono ?_
    rintro e w4 ⟨rfl, hb4⟩
    have A1 := K1.out.below hb4
    have A2 := K2.out.below hb4
    have A3 := K3.out.below hb4
    have z4 : w3.heap.size ≤ w4.heap.size := hb4.size
    have B4 := Lib.hid hb4; clear hb4
    clear c1 f1 K1 c2 f2 K2 c3 f3 K3
    obtain ⟨c1, f1⟩ := A1.out
    obtain ⟨c2, f2⟩ := A2.out
    obtain ⟨c3, f3⟩ := A3.out
    have K1 := Lib.hid A1; clear A1
    have K2 := Lib.hid A2; clear A2
    have K3 := Lib.hid A3; clear A3
    go_wp2_with fail
    with_reducible refine (pair_t r _ _ _ OK.out HC.out HY.out _).mono ?_
    rintro e w5 ⟨rfl, hb5⟩
    have A1 := K1.out.below hb5
    have A2 := K2.out.below hb5
    have A3 := K3.out.below hb5
    have z5 : w4.heap.size ≤ w5.heap.size := hb5.size
    have B5 := Lib.hid hb5; clear hb5
    clear c1 f1 K1 c2 f2 K2 c3 f3 K3
    obtain ⟨c1, f1⟩ := A1.out
    obtain ⟨c2, f2⟩ := A2.out
    obtain ⟨c3, f3⟩ := A3.out
    have K1 := Lib.hid A1; clear A1
    have K2 := Lib.hid A2; clear A2
    have K3 := Lib.hid A3; clear A3
    go_wp2
    go_ret
    refine ⟨rfl, ?_⟩
    have b1 := (Below.refl w.heap.size w).stepA (Nat.le_refl _) B1.out
    have b2 := b1.stepA (by omega) B2.out
    have b3 := b2.stepA (by omega) B3.out
    have b4 := b3.step (by omega) B4.out
    have b5 := b4.step (by omega) B5.out
    exact b5

set_option maxHeartbeats 1000000 in
set_option maxRecDepth 100000 in
theorem walkA (r : RR) (n k x : Int) (ok : r.ok) (_n1 : 0 ≤ n) (_n2 : n < 256) (_k1 : 0 ≤ k) (_k2 : k < 256) (x1 : 0 ≤ x) (x2 : x < 65536) (t : RR) (okt : t.ok) (i j a b c y : Int) (i1 : 0 ≤ i) (i2 : i < 5) (hi : n % 5 = i) (hj : k % 5 = j)
    (ht : setP r i x = t) (h0 : pairE i = 0) (ha : pairV t i = a) (hb : pairV t j = b) (hc : pairV r j = c) (hy : pairE j = y)
    (tpc : (t.pc != r.pc) = false) (hd : (i != j) = false ∨ ((i != j) = true ∧ (b != c) = false)) (i4 : (i == 4) = true) (i3 : decide (i < 3) = false) (i3' : (i == 3) = false) (hav : (a != bits .andNot .u16 x 15) = false) (hta : (t.a == x / 256) = true) (htf : (t.f == bits .andNot .u8 (x % 256) 15) = true) (w : World) :
    Calls Try.prog 6 #[.agg #[.int .u8 r.a, .int .u8 r.f, .int .u8 r.b, .int .u8 r.c, .int .u8 r.d, .int .u8 r.e, .int .u8 r.h, .int .u8 r.l, .int .u16 r.sp, .int .u16 r.pc], .int .u8 n, .int .u8 k, .int .u16 x] w fun e w' => e = .returned (.bool true) ∧ Below w.heap.size w w' := by
  have HT := Lib.hid ht; have HA := Lib.hid ha; have HB := Lib.hid hb; have HC := Lib.hid hc; have H0 := Lib.hid h0; have HY := Lib.hid hy; have HD := Lib.hid hd; have OK := Lib.hid ok; have OKT := Lib.hid okt
  clear ht ha hb hc h0 hy hd ok okt
  skip
  rcases HD.out with hd | ⟨hd, hd'⟩
  all_goals
    go_enter Try.func6, Try.ntmps6
    go_wp2_with fail
    with_reducible refine (awake_c _).mono ?_
    rintro e w1 ⟨rfl, hb1⟩
    have A1 := Has.stepN hb1
    have z1 : w.heap.size < w1.heap.size := A1.1
    have B1 := Lib.hid hb1; clear hb1
    obtain ⟨c1, f1⟩ := A1.out
    have K1 := Lib.hid A1; clear A1
    go_wp2_with fail
    with_reducible refine (setP_t r t _ _ _ x1 x2 HT.out H0.out _).mono ?_
    rintro e w2 ⟨rfl, hb2⟩
    have A1 := K1.out.stepA hb2
    have A2 := Has.stepN hb2
    have z2 : w1.heap.size < w2.heap.size := A2.1
    have B2 := Lib.hid hb2; clear hb2
    clear c1 f1 K1
    obtain ⟨c1, f1⟩ := A1.out
    obtain ⟨c2, f2⟩ := A2.out
    have K1 := Lib.hid A1; clear A1
    have K2 := Lib.hid A2; clear A2
    go_wp2_with fail
    with_reducible refine (pair_t t _ _ _ OKT.out HA.out H0.out _).mono ?_
    rintro e w3 ⟨rfl, hb3⟩
    have A1 := K1.out.stepA hb3
    have A2 := K2.out.stepA hb3
    have A3 := Has.stepN hb3
    have z3 : w2.heap.size < w3.heap.size := A3.1
    have B3 := Lib.hid hb3; clear hb3
    clear c1 f1 K1 c2 f2 K2
    obtain ⟨c1, f1⟩ := A1.out
    obtain ⟨c2, f2⟩ := A2.out
    obtain ⟨c3, f3⟩ := A3.out
    have K1 := Lib.hid A1; clear A1
    have K2 := Lib.hid A2; clear A2
    have K3 := Lib.hid A3; clear A3
    go_wp2_with fail
    with_reducible refine (pair_t t _ _ _ OKT.out HB.out HY.out _).mono ?_
    rintro e w4 ⟨rfl, hb4⟩
    have A1 := K1.out.below hb4
    have A2 := K2.out.below hb4
    have A3 := K3.out.below hb4
    have z4 : w3.heap.size ≤ w4.heap.size := hb4.size
    have B4 := Lib.hid hb4; clear hb4
    clear c1 f1 K1 c2 f2 K2 c3 f3 K3
    obtain ⟨c1, f1⟩ := A1.out
    obtain ⟨c2, f2⟩ := A2.out
    obtain ⟨c3, f3⟩ := A3.out
    have K1 := Lib.hid A1; clear A1
    have K2 := Lib.hid A2; clear A2
    have K3 := Lib.hid A3; clear A3
    go_wp2_with fail
    with_reducible refine (pair_t r _ _ _ OK.out HC.out HY.out _).mono ?_
    rintro e w5 ⟨rfl, hb5⟩
    have A1 := K1.out.below hb5
    have A2 := K2.out.below hb5
    have A3 := K3.out.below hb5
    have z5 : w4.heap.size ≤ w5.heap.size := hb5.size
    have B5 := Lib.hid hb5; clear hb5
    clear c1 f1 K1 c2 f2 K2 c3 f3 K3
    obtain ⟨c1, f1⟩ := A1.out
    obtain ⟨c2, f2⟩ := A2.out
    obtain ⟨c3, f3⟩ := A3.out
    have K1 := Lib.hid A1; clear A1
    have K2 := Lib.hid A2; clear A2
    have K3 := Lib.hid A3; clear A3
    go_wp2
    go_ret
    refine ⟨rfl, ?_⟩
    have b1 := (Below.refl w.heap.size w).stepA (Nat.le_refl _) B1.out
    have b2 := b1.stepA (by omega) B2.out
    have b3 := b2.stepA (by omega) B3.out
    have b4 := b3.step (by omega) B4.out
    have b5 := b4.step (by omega) B5.out
    exact b5
end Go.Proofs.Ytiolfmmekcahaaa.regsPairs
