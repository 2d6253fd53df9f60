/-
  The walk through RegsTell: for every set of registers, number, byte and word it returns true; no condition but that each argument fits its kind.
-/
import Derived.Test.YtiolfmmekcahaaaFrame
import Derived.Test.YtiolfmmekcahaaaRegs3
namespace Go.Proofs.Ytiolfmmekcahaaa.regsTell
open Go.ChangeShapes Go.WideShapes Go.ChangeAt Go.RowKit

theorem get_c1 (r : RR) (n v y : Int) (h : getV r n = v) (hy : getE n = y) (w : World) :
    Calls Try.prog 10 #[.agg #[.int .u8 r.a, .int .u8 r.f, .int .u8 r.b, .int .u8 r.c, .int .u8 r.d, .int .u8 r.e, .int .u8 r.h, .int .u8 r.l, .int .u16 r.sp, .int .u16 r.pc], .int .i64 n] w fun e w' => e = .returned (.tuple #[.int .u8 v, .int .i64 y]) ∧ Below w.heap.size w w' := by
  subst h; subst hy; exact get_c r n w
theorem pair_c1 (r : RR) (n v y : Int) (ok : r.ok) (h : pairV r n = v) (hy : pairE n = y) (w : World) :
    Calls Try.prog 12 #[.agg #[.int .u8 r.a, .int .u8 r.f, .int .u8 r.b, .int .u8 r.c, .int .u8 r.d, .int .u8 r.e, .int .u8 r.h, .int .u8 r.l, .int .u16 r.sp, .int .u16 r.pc], .int .i64 n] w fun e w' => e = .returned (.tuple #[.int .u16 v, .int .i64 y]) ∧ Below w.heap.size w w' := by
  subst h; subst hy; exact pair_c r n ok w
theorem is_c1 (r : RR) (n : Int) (v : Bool) (ok : r.ok) (h : isV r n = v) (w : World) :
    Calls Try.prog 14 #[.agg #[.int .u8 r.a, .int .u8 r.f, .int .u8 r.b, .int .u8 r.c, .int .u8 r.d, .int .u8 r.e, .int .u8 r.h, .int .u8 r.l, .int .u16 r.sp, .int .u16 r.pc], .int .i64 n] w fun e w' => e = .returned (.bool v) ∧ Below w.heap.size w w' := by
  subst h; exact is_c r n ok.2.1.1 ok.2.1.2 w
theorem set_c1 (r t : RR) (n x y : Int) (h : setR r n x = t) (hy : getE n = y) (w : World) :
    Calls Try.prog 16 #[.agg #[.int .u8 r.a, .int .u8 r.f, .int .u8 r.b, .int .u8 r.c, .int .u8 r.d, .int .u8 r.e, .int .u8 r.h, .int .u8 r.l, .int .u16 r.sp, .int .u16 r.pc], .int .i64 n, .int .u8 x] w fun e w' => e = .returned (.tuple #[.agg #[.int .u8 t.a, .int .u8 t.f, .int .u8 t.b, .int .u8 t.c, .int .u8 t.d, .int .u8 t.e, .int .u8 t.h, .int .u8 t.l, .int .u16 t.sp, .int .u16 t.pc], .int .i64 y]) ∧ Below w.heap.size w w' := by
  subst h; subst hy; exact set_c r n x w
theorem setP_c1 (r t : RR) (n x y : Int) (x1 : 0 ≤ x) (x2 : x < 65536) (h : setP r n x = t) (hy : pairE n = y) (w : World) :
    Calls Try.prog 18 #[.agg #[.int .u8 r.a, .int .u8 r.f, .int .u8 r.b, .int .u8 r.c, .int .u8 r.d, .int .u8 r.e, .int .u8 r.h, .int .u8 r.l, .int .u16 r.sp, .int .u16 r.pc], .int .i64 n, .int .u16 x] w fun e w' => e = .returned (.tuple #[.agg #[.int .u8 t.a, .int .u8 t.f, .int .u8 t.b, .int .u8 t.c, .int .u8 t.d, .int .u8 t.e, .int .u8 t.h, .int .u8 t.l, .int .u16 t.sp, .int .u16 t.pc], .int .i64 y]) ∧ Below w.heap.size w w' := by
  subst h; subst hy; exact setPair_c r n x x1 x2 w
theorem get_r1 (r : RR) (n v y : Int) (h : getV r n = v) (hy : getE n = y) (w : World) :
    Calls Try.prog 11 #[.agg #[.int .u8 r.a, .int .u8 r.f, .int .u8 r.b, .int .u8 r.c, .int .u8 r.d, .int .u8 r.e, .int .u8 r.h, .int .u8 r.l, .int .u16 r.sp, .int .u16 r.pc], .int .i64 n] w fun e w' => e = .returned (.tuple #[.int .u8 v, .int .i64 y]) ∧ Below w.heap.size w w' := by
  subst h; subst hy; exact get_r r n w
theorem pair_r1 (r : RR) (n v y : Int) (ok : r.ok) (h : pairV r n = v) (hy : pairE n = y) (w : World) :
    Calls Try.prog 13 #[.agg #[.int .u8 r.a, .int .u8 r.f, .int .u8 r.b, .int .u8 r.c, .int .u8 r.d, .int .u8 r.e, .int .u8 r.h, .int .u8 r.l, .int .u16 r.sp, .int .u16 r.pc], .int .i64 n] w fun e w' => e = .returned (.tuple #[.int .u16 v, .int .i64 y]) ∧ Below w.heap.size w w' := by
  subst h; subst hy; exact pair_r r n ok w
theorem is_r1 (r : RR) (n : Int) (v : Bool) (ok : r.ok) (h : isV r n = v) (w : World) :
    Calls Try.prog 15 #[.agg #[.int .u8 r.a, .int .u8 r.f, .int .u8 r.b, .int .u8 r.c, .int .u8 r.d, .int .u8 r.e, .int .u8 r.h, .int .u8 r.l, .int .u16 r.sp, .int .u16 r.pc], .int .i64 n] w fun e w' => e = .returned (.bool v) ∧ Below w.heap.size w w' := by
  subst h; exact is_r r n ok.2.1.1 ok.2.1.2 w
theorem set_r1 (r t : RR) (n x y : Int) (h : setR r n x = t) (hy : getE n = y) (w : World) :
    Calls Try.prog 17 #[.agg #[.int .u8 r.a, .int .u8 r.f, .int .u8 r.b, .int .u8 r.c, .int .u8 r.d, .int .u8 r.e, .int .u8 r.h, .int .u8 r.l, .int .u16 r.sp, .int .u16 r.pc], .int .i64 n, .int .u8 x] w fun e w' => e = .returned (.tuple #[.agg #[.int .u8 t.a, .int .u8 t.f, .int .u8 t.b, .int .u8 t.c, .int .u8 t.d, .int .u8 t.e, .int .u8 t.h, .int .u8 t.l, .int .u16 t.sp, .int .u16 t.pc], .int .i64 y]) ∧ Below w.heap.size w w' := by
  subst h; subst hy; exact set_r r n x w
theorem setP_r1 (r t : RR) (n x y : Int) (x1 : 0 ≤ x) (x2 : x < 65536) (h : setP r n x = t) (hy : pairE n = y) (w : World) :
    Calls Try.prog 19 #[.agg #[.int .u8 r.a, .int .u8 r.f, .int .u8 r.b, .int .u8 r.c, .int .u8 r.d, .int .u8 r.e, .int .u8 r.h, .int .u8 r.l, .int .u16 r.sp, .int .u16 r.pc], .int .i64 n, .int .u16 x] w fun e w' => e = .returned (.tuple #[.agg #[.int .u8 t.a, .int .u8 t.f, .int .u8 t.b, .int .u8 t.c, .int .u8 t.d, .int .u8 t.e, .int .u8 t.h, .int .u8 t.l, .int .u16 t.sp, .int .u16 t.pc], .int .i64 y]) ∧ Below w.heap.size w w' := by
  subst h; subst hy; exact setPair_r r n x x1 x2 w

def Two (w0 : World) (b1 b2 : Nat) (A1 A2 : Array Value) (w' : World) : Prop := Has w' b1 A1 ∧ Has w' b2 A2 ∧ Below w0.heap.size w0 w'
theorem Two.step {w0 W w2 : World} {b1 b2 : Nat} {A1 A2 : Array Value} (h : Two w0 b1 b2 A1 A2 W) (hb : Below W.heap.size W w2) :
    (∀ o, w2.cell? ⟨b1, o, none⟩ = A1[o]?) ∧ (∀ o, w2.cell? ⟨b2, o, none⟩ = A2[o]?) ∧ Two w0 b1 b2 A1 A2 w2 :=
  have a1 := h.1.below hb
  have a2 := h.2.1.below hb
  ⟨a1.2.1, a2.2.1, a1, a2, h.2.2.step h.2.2.size hb⟩
theorem Two.begin {w0 W : World} {b1 b2 : Nat} {A1 A2 : Array Value} (h1 : Has W b1 A1) (h2 : Has W b2 A2) (hb : Below w0.heap.size w0 W) :
    (∀ o, W.drew.cell? ⟨b1, o, none⟩ = A1[o]?) ∧ (∀ o, W.drew.cell? ⟨b2, o, none⟩ = A2[o]?) ∧ Two w0 b1 b2 A1 A2 W.drew :=
  ⟨h1.drew.2.1, h2.drew.2.1, h1.drew, h2.drew, hb.drew⟩

set_option maxHeartbeats 2000000 in
set_option maxRecDepth 100000 in
theorem walk1 (r : RR) (n x y : Int) (ok : r.ok) (y1 : 0 ≤ y) (y2 : y < 65536) (g ge p pe : Int) (is : Bool) (t u : RR)
    (hg : getV r n = g) (hge : getE n = ge) (hp : pairV r n = p) (hpe : pairE n = pe) (hi : isV r n = is) (ht : setR r n x = t) (hu : setP r n y = u) (w : World) :
    Calls Try.prog 3 #[.agg #[.int .u8 r.a, .int .u8 r.f, .int .u8 r.b, .int .u8 r.c, .int .u8 r.d, .int .u8 r.e, .int .u8 r.h, .int .u8 r.l, .int .u16 r.sp, .int .u16 r.pc], .int .i64 n, .int .u8 x, .int .u16 y] w fun e w' => e = .returned (.bool true) ∧ Below w.heap.size w w' := by
  have HG := Lib.hid hg; have HGE := Lib.hid hge; have HP := Lib.hid hp; have HPE := Lib.hid hpe; have HI := Lib.hid hi; have HT := Lib.hid ht; have HU := Lib.hid hu; have OK := Lib.hid ok
  clear hg hge hp hpe hi ht hu ok
  go_enter Try.func3, Try.ntmps3
  go_wp2_with fail
  with_reducible refine (awake_c _).mono ?_
  rintro e w1 ⟨rfl, hb1⟩
  have A1 := Has.stepN hb1
  have z1 : w.heap.size < w1.heap.size := A1.1
  have B1 := Lib.hid hb1; clear hb1
  obtain ⟨c1, f1⟩ := A1.out
  have K1 := Lib.hid A1; clear A1
  go_wp2_with fail
  with_reducible refine (get_c1 r _ _ _ HG.out HGE.out _).mono ?_
  rintro e w2 ⟨rfl, hb2⟩
  have A1 := K1.out.stepA hb2
  have A2 := Has.stepN hb2
  have y1_2 := A1.1
  have z2 : w1.heap.size < w2.heap.size := A2.1
  have B2 := Lib.hid hb2; clear hb2
  clear c1 f1 K1
  obtain ⟨c1, f1⟩ := A1.out
  obtain ⟨c2, f2⟩ := A2.out
  have K1 := Lib.hid A1; clear A1
  have K2 := Lib.hid A2; clear A2
  go_wp2_with fail
  with_reducible refine (get_r1 r _ _ _ HG.out HGE.out _).mono ?_
  rintro e w3 ⟨rfl, hb3⟩
  have A1 := K1.out.below hb3
  have A2 := K2.out.below hb3
  have y1_3 := A1.1
  have y2_3 := A2.1
  have z3 : w2.heap.size ≤ w3.heap.size := hb3.size
  have B3 := Lib.hid hb3; clear hb3
  clear c1 f1 K1 c2 f2 K2
  obtain ⟨c1, f1⟩ := A1.out
  obtain ⟨c2, f2⟩ := A2.out
  have K1 := Lib.hid A1; clear A1
  have K2 := Lib.hid A2; clear A2
  go_wp2_with fail
  with_reducible refine (pair_c1 r _ _ _ OK.out HP.out HPE.out _).mono ?_
  rintro e w4 ⟨rfl, hb4⟩
  have A1 := K1.out.below hb4
  have A2 := K2.out.below hb4
  have y1_4 := A1.1
  have y2_4 := A2.1
  have z4 : w3.heap.size ≤ w4.heap.size := hb4.size
  have B4 := Lib.hid hb4; clear hb4
  clear c1 f1 K1 c2 f2 K2
  obtain ⟨c1, f1⟩ := A1.out
  obtain ⟨c2, f2⟩ := A2.out
  have K1 := Lib.hid A1; clear A1
  have K2 := Lib.hid A2; clear A2
  go_wp2_with fail
  with_reducible refine (pair_r1 r _ _ _ OK.out HP.out HPE.out _).mono ?_
  rintro e w5 ⟨rfl, hb5⟩
  have A1 := K1.out.below hb5
  have A2 := K2.out.below hb5
  have y1_5 := A1.1
  have y2_5 := A2.1
  have z5 : w4.heap.size ≤ w5.heap.size := hb5.size
  have B5 := Lib.hid hb5; clear hb5
  clear c1 f1 K1 c2 f2 K2
  obtain ⟨c1, f1⟩ := A1.out
  obtain ⟨c2, f2⟩ := A2.out
  have K1 := Lib.hid A1; clear A1
  have K2 := Lib.hid A2; clear A2
  have b1 := (Below.refl w.heap.size w).stepA (Nat.le_refl _) B1.out
  have b2 := b1.stepA (by omega) B2.out
  have b3 := b2.step (by omega) B3.out
  have b4 := b3.step (by omega) B4.out
  have b5 := b4.step (by omega) B5.out
  have T0 := Lib.hid (Two.begin K1.out K2.out b5)
  clear b1 b2 b3 b4 b5 B1 B2 B3 B4 B5 K1 K2 z2 z3 z4 z5
  go_wp2
  refine wp_region_held_drew (S := (fun w' => (∀ o, w'.cell? ⟨w.heap.size, o, none⟩ = #[Value.int .u8 r.a, Value.int .u8 r.f, Value.int .u8 r.b, Value.int .u8 r.c, Value.int .u8 r.d, Value.int .u8 r.e, Value.int .u8 r.h, Value.int .u8 r.l, Value.int .u16 r.sp, Value.int .u16 r.pc][o]?) ∧ (∀ o, w'.cell? ⟨w1.heap.size, o, none⟩ = #[Value.int .u8 r.a, Value.int .u8 r.f, Value.int .u8 r.b, Value.int .u8 r.c, Value.int .u8 r.d, Value.int .u8 r.e, Value.int .u8 r.h, Value.int .u8 r.l, Value.int .u16 r.sp, Value.int .u16 r.pc][o]?) ∧ Two w w.heap.size w1.heap.size #[Value.int .u8 r.a, Value.int .u8 r.f, Value.int .u8 r.b, Value.int .u8 r.c, Value.int .u8 r.d, Value.int .u8 r.e, Value.int .u8 r.h, Value.int .u8 r.l, Value.int .u16 r.sp, Value.int .u16 r.pc] #[Value.int .u8 r.a, Value.int .u8 r.f, Value.int .u8 r.b, Value.int .u8 r.c, Value.int .u8 r.d, Value.int .u8 r.e, Value.int .u8 r.h, Value.int .u8 r.l, Value.int .u16 r.sp, Value.int .u16 r.pc] w')) (by kernel_rfl) T0.out (fun hHeld => ?_)
  clear c1 c2 f1 f2
  refine wpAnyH_take (i := 0) (oi := { dst := some 49, op := Go.Op.move (Go.Operand.tmp 10), type := 5, pos := "law.go:28", after := #[], guard := none }) (v := ?v0) rfl (by kernel_rfl) (by kernel_rfl) (by kernel_rfl) (fun _ _ _ h => h) (Or.inl ⟨by rfl, ?y0⟩) (by assumption) ?z0
  case y0 => (intro w hSw; (try dsimp only at hSw); go_simp) <;> with_reducible rfl
  try simp only [Act.put, List.setIfInBounds_toArray, List.set_cons_zero, List.set_cons_succ]
  refine wpAnyH_take (i := 1) (oi := { dst := some 50, op := Go.Op.move (Go.Operand.tmp 12), type := 5, pos := "law.go:28", after := #[], guard := none }) (v := ?v1) rfl (by kernel_rfl) (by kernel_rfl) (by kernel_rfl) (fun _ _ _ h => h) (Or.inl ⟨by rfl, ?y1⟩) (by assumption) ?z1
  case y1 => (intro w hSw; (try dsimp only at hSw); go_simp) <;> with_reducible rfl
  try simp only [Act.put, List.setIfInBounds_toArray, List.set_cons_zero, List.set_cons_succ]
  refine wpAnyH_take (i := 2) (oi := { dst := some 51, op := Go.Op.binOp Go.BinOp.neq 5 (Go.Operand.tmp 49) (Go.Operand.tmp 50) 5, type := 4, pos := "law.go:28", after := #[{ on := 0, ground := Go.Ground.data }, { on := 1, ground := Go.Ground.data }], guard := none }) (v := ?v2) rfl (by kernel_rfl) (by kernel_rfl) (by kernel_rfl) (fun _ _ _ h => h) (Or.inl ⟨by rfl, ?y2⟩) (by assumption) ?z2
  case y2 => (intro w hSw; (try dsimp only at hSw); go_simp) <;> with_reducible rfl
  try simp only [Act.put, List.setIfInBounds_toArray, List.set_cons_zero, List.set_cons_succ]
  refine wpAnyH_take (i := 3) (oi := { dst := some 52, op := Go.Op.move (Go.Operand.tmp 51), type := 4, pos := "law.go:28", after := #[{ on := 2, ground := Go.Ground.data }], guard := none }) (v := ?v3) rfl (by kernel_rfl) (by kernel_rfl) (by kernel_rfl) (fun _ _ _ h => h) (Or.inl ⟨by rfl, ?y3⟩) (by assumption) ?z3
  case y3 => (intro w hSw; (try dsimp only at hSw); go_simp) <;> with_reducible rfl
  try simp only [Act.put, List.setIfInBounds_toArray, List.set_cons_zero, List.set_cons_succ]
  refine wpAnyH_take (i := 4) (oi := { dst := some 53, op := Go.Op.move (Go.Operand.tmp 11), type := 27, pos := "law.go:28", after := #[{ on := 3, ground := Go.Ground.guard }], guard := some (3, false) }) (v := ?v4) rfl (by kernel_rfl) (by kernel_rfl) (by kernel_rfl) (fun _ _ _ h => h) (Or.inl ⟨by rfl, ?y4⟩) (by assumption) ?z4
  case y4 => (intro w hSw; (try dsimp only at hSw); go_simp) <;> with_reducible rfl
  try simp only [Act.put, List.setIfInBounds_toArray, List.set_cons_zero, List.set_cons_succ]
  refine wpAnyH_take (i := 5) (oi := { dst := some 54, op := Go.Op.move (Go.Operand.tmp 13), type := 3, pos := "law.go:28", after := #[{ on := 3, ground := Go.Ground.guard }], guard := some (3, false) }) (v := ?v5) rfl (by kernel_rfl) (by kernel_rfl) (by kernel_rfl) (fun _ _ _ h => h) (Or.inl ⟨by rfl, ?y5⟩) (by assumption) ?z5
  case y5 => (intro w hSw; (try dsimp only at hSw); go_simp) <;> with_reducible rfl
  try simp only [Act.put, List.setIfInBounds_toArray, List.set_cons_zero, List.set_cons_succ]
  refine wpAnyH_take (i := 6) (oi := { dst := some 55, op := Go.Op.binOp Go.BinOp.neq 3 (Go.Operand.tmp 53) (Go.Operand.tmp 54) 3, type := 4, pos := "law.go:28", after := #[{ on := 4, ground := Go.Ground.data }, { on := 5, ground := Go.Ground.data }, { on := 3, ground := Go.Ground.guard }], guard := some (3, false) }) (v := ?v6) rfl (by kernel_rfl) (by kernel_rfl) (by kernel_rfl) (fun _ _ _ h => h) (Or.inl ⟨by rfl, ?y6⟩) (by assumption) ?z6
  case y6 => (intro w hSw; (try dsimp only at hSw); go_simp) <;> with_reducible rfl
  try simp only [Act.put, List.setIfInBounds_toArray, List.set_cons_zero, List.set_cons_succ]
  refine wpAnyH_take (i := 7) (oi := { dst := some 56, op := Go.Op.pick (Go.Operand.tmp 52) (Go.Operand.const (Go.Value.bool true)) (Go.Operand.tmp 55), type := 4, pos := "law.go:28", after := #[{ on := 3, ground := Go.Ground.data }, { on := 6, ground := Go.Ground.data }], guard := none }) (v := ?v7) rfl (by kernel_rfl) (by kernel_rfl) (by kernel_rfl) (fun _ _ _ h => h) (Or.inl ⟨by rfl, ?y7⟩) (by assumption) ?z7
  case y7 => (intro w hSw; (try dsimp only at hSw); go_simp) <;> with_reducible rfl
  try simp only [Act.put, List.setIfInBounds_toArray, List.set_cons_zero, List.set_cons_succ]
  refine wpAnyH_take (i := 8) (oi := { dst := some 57, op := Go.Op.move (Go.Operand.tmp 56), type := 4, pos := "law.go:28", after := #[{ on := 7, ground := Go.Ground.data }, { on := 3, ground := Go.Ground.chain }], guard := none }) (v := ?v8) rfl (by kernel_rfl) (by kernel_rfl) (by kernel_rfl) (fun _ _ _ h => h) (Or.inl ⟨by rfl, ?y8⟩) (by assumption) ?z8
  case y8 => (intro w hSw; (try dsimp only at hSw); go_simp) <;> with_reducible rfl
  try simp only [Act.put, List.setIfInBounds_toArray, List.set_cons_zero, List.set_cons_succ]
  refine wpAnyH_take (i := 9) (oi := { dst := some 58, op := Go.Op.move (Go.Operand.tmp 14), type := 22, pos := "law.go:28", after := #[{ on := 8, ground := Go.Ground.guard }], guard := some (8, false) }) (v := ?v9) rfl (by kernel_rfl) (by kernel_rfl) (by kernel_rfl) (fun _ _ _ h => h) (Or.inl ⟨by rfl, ?y9⟩) (by assumption) ?z9
  case y9 => (intro w hSw; (try dsimp only at hSw); go_simp) <;> with_reducible rfl
  try simp only [Act.put, List.setIfInBounds_toArray, List.set_cons_zero, List.set_cons_succ]
  refine wpAnyH_take (i := 10) (oi := { dst := some 59, op := Go.Op.move (Go.Operand.tmp 16), type := 22, pos := "law.go:28", after := #[{ on := 8, ground := Go.Ground.guard }], guard := some (8, false) }) (v := ?v10) rfl (by kernel_rfl) (by kernel_rfl) (by kernel_rfl) (fun _ _ _ h => h) (Or.inl ⟨by rfl, ?y10⟩) (by assumption) ?z10
  case y10 => (intro w hSw; (try dsimp only at hSw); go_simp) <;> with_reducible rfl
  try simp only [Act.put, List.setIfInBounds_toArray, List.set_cons_zero, List.set_cons_succ]
  refine wpAnyH_take (i := 11) (oi := { dst := some 60, op := Go.Op.binOp Go.BinOp.neq 22 (Go.Operand.tmp 58) (Go.Operand.tmp 59) 22, type := 4, pos := "law.go:28", after := #[{ on := 9, ground := Go.Ground.data }, { on := 10, ground := Go.Ground.data }, { on := 8, ground := Go.Ground.guard }], guard := some (8, false) }) (v := ?v11) rfl (by kernel_rfl) (by kernel_rfl) (by kernel_rfl) (fun _ _ _ h => h) (Or.inl ⟨by rfl, ?y11⟩) (by assumption) ?z11
  case y11 => (intro w hSw; (try dsimp only at hSw); go_simp) <;> with_reducible rfl
  try simp only [Act.put, List.setIfInBounds_toArray, List.set_cons_zero, List.set_cons_succ]
  refine wpAnyH_take (i := 12) (oi := { dst := some 61, op := Go.Op.pick (Go.Operand.tmp 57) (Go.Operand.const (Go.Value.bool true)) (Go.Operand.tmp 60), type := 4, pos := "law.go:28", after := #[{ on := 8, ground := Go.Ground.data }, { on := 11, ground := Go.Ground.data }], guard := none }) (v := ?v12) rfl (by kernel_rfl) (by kernel_rfl) (by kernel_rfl) (fun _ _ _ h => h) (Or.inl ⟨by rfl, ?y12⟩) (by assumption) ?z12
  case y12 => (intro w hSw; (try dsimp only at hSw); go_simp) <;> with_reducible rfl
  try simp only [Act.put, List.setIfInBounds_toArray, List.set_cons_zero, List.set_cons_succ]
  refine wpAnyH_take (i := 13) (oi := { dst := some 62, op := Go.Op.move (Go.Operand.tmp 61), type := 4, pos := "law.go:28", after := #[{ on := 12, ground := Go.Ground.data }, { on := 8, ground := Go.Ground.chain }], guard := none }) (v := ?v13) rfl (by kernel_rfl) (by kernel_rfl) (by kernel_rfl) (fun _ _ _ h => h) (Or.inl ⟨by rfl, ?y13⟩) (by assumption) ?z13
  case y13 => (intro w hSw; (try dsimp only at hSw); go_simp) <;> with_reducible rfl
  try simp only [Act.put, List.setIfInBounds_toArray, List.set_cons_zero, List.set_cons_succ]
  refine wpAnyH_take (i := 14) (oi := { dst := some 63, op := Go.Op.move (Go.Operand.tmp 15), type := 27, pos := "law.go:28", after := #[{ on := 13, ground := Go.Ground.guard }], guard := some (13, false) }) (v := ?v14) rfl (by kernel_rfl) (by kernel_rfl) (by kernel_rfl) (fun _ _ _ h => h) (Or.inl ⟨by rfl, ?y14⟩) (by assumption) ?z14
  case y14 => (intro w hSw; (try dsimp only at hSw); go_simp) <;> with_reducible rfl
  try simp only [Act.put, List.setIfInBounds_toArray, List.set_cons_zero, List.set_cons_succ]
  refine wpAnyH_take (i := 15) (oi := { dst := some 64, op := Go.Op.move (Go.Operand.tmp 17), type := 3, pos := "law.go:28", after := #[{ on := 13, ground := Go.Ground.guard }], guard := some (13, false) }) (v := ?v15) rfl (by kernel_rfl) (by kernel_rfl) (by kernel_rfl) (fun _ _ _ h => h) (Or.inl ⟨by rfl, ?y15⟩) (by assumption) ?z15
  case y15 => (intro w hSw; (try dsimp only at hSw); go_simp) <;> with_reducible rfl
  try simp only [Act.put, List.setIfInBounds_toArray, List.set_cons_zero, List.set_cons_succ]
  refine wpAnyH_take (i := 16) (oi := { dst := some 65, op := Go.Op.binOp Go.BinOp.neq 3 (Go.Operand.tmp 63) (Go.Operand.tmp 64) 3, type := 4, pos := "law.go:28", after := #[{ on := 14, ground := Go.Ground.data }, { on := 15, ground := Go.Ground.data }, { on := 13, ground := Go.Ground.guard }], guard := some (13, false) }) (v := ?v16) rfl (by kernel_rfl) (by kernel_rfl) (by kernel_rfl) (fun _ _ _ h => h) (Or.inl ⟨by rfl, ?y16⟩) (by assumption) ?z16
  case y16 => (intro w hSw; (try dsimp only at hSw); go_simp) <;> with_reducible rfl
  try simp only [Act.put, List.setIfInBounds_toArray, List.set_cons_zero, List.set_cons_succ]
  refine wpAnyH_take (i := 17) (oi := { dst := some 66, op := Go.Op.pick (Go.Operand.tmp 62) (Go.Operand.const (Go.Value.bool true)) (Go.Operand.tmp 65), type := 4, pos := "law.go:28", after := #[{ on := 13, ground := Go.Ground.data }, { on := 16, ground := Go.Ground.data }], guard := none }) (v := ?v17) rfl (by kernel_rfl) (by kernel_rfl) (by kernel_rfl) (fun _ _ _ h => h) (Or.inl ⟨by rfl, ?y17⟩) (by assumption) ?z17
  case y17 => (intro w hSw; (try dsimp only at hSw); go_simp) <;> with_reducible rfl
  try simp only [Act.put, List.setIfInBounds_toArray, List.set_cons_zero, List.set_cons_succ]
  refine wpAnyH_take (i := 18) (oi := { dst := some 67, op := Go.Op.move (Go.Operand.tmp 66), type := 4, pos := "law.go:28", after := #[{ on := 17, ground := Go.Ground.data }, { on := 13, ground := Go.Ground.chain }], guard := none }) (v := ?v18) rfl (by kernel_rfl) (by kernel_rfl) (by kernel_rfl) (fun _ _ _ h => h) (Or.inl ⟨by rfl, ?y18⟩) (by assumption) ?z18
  case y18 => (intro w hSw; (try dsimp only at hSw); go_simp) <;> with_reducible rfl
  try simp only [Act.put, List.setIfInBounds_toArray, List.set_cons_zero, List.set_cons_succ]
  refine wpAnyH_take (i := 19) (oi := { dst := some 68, op := Go.Op.load 26 (Go.Operand.tmp 9), type := 26, pos := "law.go:28", after := #[{ on := 18, ground := Go.Ground.guard }], guard := some (18, false) }) (v := ?v19) rfl (by kernel_rfl) (by kernel_rfl) (by kernel_rfl) (fun _ _ _ h => h) (Or.inl ⟨by rfl, ?y19⟩) (by assumption) ?z19
  case y19 => (intro w hSw; (try dsimp only at hSw); go_simp) <;> with_reducible rfl
  try simp only [Act.put, List.setIfInBounds_toArray, List.set_cons_zero, List.set_cons_succ]
  refine wpAnyH_take (i := 20) (oi := { dst := some 69, op := Go.Op.move (Go.Operand.tmp 1), type := 3, pos := "law.go:28", after := #[{ on := 18, ground := Go.Ground.guard }], guard := some (18, false) }) (v := ?v20) rfl (by kernel_rfl) (by kernel_rfl) (by kernel_rfl) (fun _ _ _ h => h) (Or.inl ⟨by rfl, ?y20⟩) (by assumption) ?z20
  case y20 => (intro w hSw; (try dsimp only at hSw); go_simp) <;> with_reducible rfl
  try simp only [Act.put, List.setIfInBounds_toArray, List.set_cons_zero, List.set_cons_succ]
  refine wpAnyH_take (i := 22) (oi := { dst := some 71, op := Go.Op.load 24 (Go.Operand.tmp 4), type := 24, pos := "law.go:28", after := #[{ on := 18, ground := Go.Ground.guard }], guard := some (18, false) }) (v := ?v22) rfl (by kernel_rfl) (by kernel_rfl) (by kernel_rfl) (fun _ _ _ h => h) (Or.inl ⟨by rfl, ?y22⟩) (by assumption) ?z22
  case y22 => (intro w hSw; (try dsimp only at hSw); go_simp) <;> with_reducible rfl
  try simp only [Act.put, List.setIfInBounds_toArray, List.set_cons_zero, List.set_cons_succ]
  refine wpAnyH_take (i := 23) (oi := { dst := some 72, op := Go.Op.move (Go.Operand.tmp 1), type := 3, pos := "law.go:28", after := #[{ on := 18, ground := Go.Ground.guard }], guard := some (18, false) }) (v := ?v23) rfl (by kernel_rfl) (by kernel_rfl) (by kernel_rfl) (fun _ _ _ h => h) (Or.inl ⟨by rfl, ?y23⟩) (by assumption) ?z23
  case y23 => (intro w hSw; (try dsimp only at hSw); go_simp) <;> with_reducible rfl
  try simp only [Act.put, List.setIfInBounds_toArray, List.set_cons_zero, List.set_cons_succ]
  refine wpAnyH_ready (rs := [21]) (by kernel_rfl) (by simp) ?_
  refine AllReadyH.cons (o := { dst := some 70, op := Go.Op.call { callee := Go.Callee.value (Go.Operand.func 14), args := #[Go.Operand.tmp 68, Go.Operand.tmp 69], argTypes := #[26, 3] }, type := 4, pos := "law.go:28", after := #[{ on := 19, ground := Go.Ground.data }, { on := 20, ground := Go.Ground.data }, { on := 18, ground := Go.Ground.chain }, { on := 18, ground := Go.Ground.guard }], guard := some (18, false) }) rfl (fun K hK => ?_) AllReadyH.nil
  go_simp
  go_wp2_with (first | (go_at_call 14; (with_reducible refine (is_c1 r _ _ OK.out HI.out _).mono ?_); rintro e w6 ⟨rfl, hb⟩) | (go_at_call 15; (with_reducible refine (is_r1 r _ _ OK.out HI.out _).mono ?_); rintro e w6 ⟨rfl, hb⟩))
  refine hK.out _ _ ?s21 (fun hHeld => ?r21)
  case s21 => exact Two.step hHeld.2.2 hb
  clear hK K
  refine wpAnyH_ready (rs := [24]) (by kernel_rfl) (by simp) ?_
  refine AllReadyH.cons (o := { dst := some 73, op := Go.Op.call { callee := Go.Callee.value (Go.Operand.func 15), args := #[Go.Operand.tmp 71, Go.Operand.tmp 72], argTypes := #[24, 3] }, type := 4, pos := "law.go:28", after := #[{ on := 22, ground := Go.Ground.data }, { on := 23, ground := Go.Ground.data }, { on := 21, ground := Go.Ground.chain }, { on := 18, ground := Go.Ground.guard }], guard := some (18, false) }) rfl (fun K hK => ?_) AllReadyH.nil
  go_simp
  go_wp2_with (first | (go_at_call 14; (with_reducible refine (is_c1 r _ _ OK.out HI.out _).mono ?_); rintro e w6 ⟨rfl, hb⟩) | (go_at_call 15; (with_reducible refine (is_r1 r _ _ OK.out HI.out _).mono ?_); rintro e w6 ⟨rfl, hb⟩))
  refine hK.out _ _ ?s24 (fun hHeld => ?r24)
  case s24 => exact Two.step hHeld.2.2 hb
  clear hK K
  refine wpAnyH_take (i := 25) (oi := { dst := some 74, op := Go.Op.binOp Go.BinOp.neq 4 (Go.Operand.tmp 70) (Go.Operand.tmp 73) 4, type := 4, pos := "law.go:28", after := #[{ on := 21, ground := Go.Ground.data }, { on := 24, ground := Go.Ground.data }, { on := 18, ground := Go.Ground.guard }], guard := some (18, false) }) (v := ?v25) rfl (by kernel_rfl) (by kernel_rfl) (by kernel_rfl) (fun _ _ _ h => h) (Or.inl ⟨by rfl, ?y25⟩) (by assumption) ?z25
  case y25 => (intro w hSw; (try dsimp only at hSw); go_simp) <;> with_reducible rfl
  try simp only [Act.put, List.setIfInBounds_toArray, List.set_cons_zero, List.set_cons_succ]
  refine wpAnyH_take (i := 26) (oi := { dst := some 75, op := Go.Op.pick (Go.Operand.tmp 67) (Go.Operand.const (Go.Value.bool true)) (Go.Operand.tmp 74), type := 4, pos := "law.go:28", after := #[{ on := 18, ground := Go.Ground.data }, { on := 25, ground := Go.Ground.data }], guard := none }) (v := ?v26) rfl (by kernel_rfl) (by kernel_rfl) (by kernel_rfl) (fun _ _ _ h => h) (Or.inl ⟨by rfl, ?y26⟩) (by assumption) ?z26
  case y26 => (intro w hSw; (try dsimp only at hSw); go_simp) <;> with_reducible rfl
  try simp only [Act.put, List.setIfInBounds_toArray, List.set_cons_zero, List.set_cons_succ]
  refine wpAnyH_done (by kernel_rfl) ?_ _
  obtain ⟨c1, c2, hT⟩ := hHeld
  have K1 := Lib.hid hT.1; have K2 := Lib.hid hT.2.1; have BB := Lib.hid hT.2.2
  have z6 : w1.heap.size < w6.heap.size := hT.2.1.1
  clear hT
  go_wp2_with fail
  with_reducible refine (set_c1 r t _ _ _ HT.out HGE.out _).mono ?_
  rintro e w7 ⟨rfl, hb7⟩
  have A1 := K1.out.below hb7
  have A2 := K2.out.below hb7
  have y1_7 := A1.1
  have y2_7 := A2.1
  have z7 : w6.heap.size ≤ w7.heap.size := hb7.size
  have B7 := Lib.hid hb7; clear hb7
  clear c1 K1 c2 K2
  obtain ⟨c1, f1⟩ := A1.out
  obtain ⟨c2, f2⟩ := A2.out
  have K1 := Lib.hid A1; clear A1
  have K2 := Lib.hid A2; clear A2
  go_wp2_with fail
  with_reducible refine (set_r1 r t _ _ _ HT.out HGE.out _).mono ?_
  rintro e w8 ⟨rfl, hb8⟩
  have A1 := K1.out.stepA hb8
  have A2 := K2.out.stepA hb8
  have A3 := Has.stepN hb8
  have y1_8 := A1.1
  have y2_8 := A2.1
  have z8 : w7.heap.size < w8.heap.size := A3.1
  have B8 := Lib.hid hb8; clear hb8
  clear c1 f1 K1 c2 f2 K2
  obtain ⟨c1, f1⟩ := A1.out
  obtain ⟨c2, f2⟩ := A2.out
  obtain ⟨c3, f3⟩ := A3.out
  have K1 := Lib.hid A1; clear A1
  have K2 := Lib.hid A2; clear A2
  have K3 := Lib.hid A3; clear A3
  go_wp2_with fail
  with_reducible refine (setP_c1 r u _ _ _ y1 y2 HU.out HPE.out _).mono ?_
  rintro e w9 ⟨rfl, hb9⟩
  have A1 := K1.out.stepA hb9
  have A2 := K2.out.stepA hb9
  have A3 := K3.out.stepA hb9
  have A4 := Has.stepN hb9
  have y1_9 := A1.1
  have y2_9 := A2.1
  have y3_9 := A3.1
  have z9 : w8.heap.size < w9.heap.size := A4.1
  have B9 := Lib.hid hb9; clear hb9
  clear c1 f1 K1 c2 f2 K2 c3 f3 K3
  obtain ⟨c1, f1⟩ := A1.out
  obtain ⟨c2, f2⟩ := A2.out
  obtain ⟨c3, f3⟩ := A3.out
  obtain ⟨c4, f4⟩ := A4.out
  have K1 := Lib.hid A1; clear A1
  have K2 := Lib.hid A2; clear A2
  have K3 := Lib.hid A3; clear A3
  have K4 := Lib.hid A4; clear A4
  go_wp2_with fail
  with_reducible refine (setP_r1 r u _ _ _ y1 y2 HU.out HPE.out _).mono ?_
  rintro e w10 ⟨rfl, hb10⟩
  have A1 := K1.out.stepA hb10
  have A2 := K2.out.stepA hb10
  have A3 := K3.out.stepA hb10
  have A4 := K4.out.stepA hb10
  have A5 := Has.stepN hb10
  have y1_10 := A1.1
  have y2_10 := A2.1
  have y3_10 := A3.1
  have y4_10 := A4.1
  have z10 : w9.heap.size < w10.heap.size := A5.1
  have B10 := Lib.hid hb10; clear hb10
  clear c1 f1 K1 c2 f2 K2 c3 f3 K3 c4 f4 K4
  obtain ⟨c1, f1⟩ := A1.out
  obtain ⟨c2, f2⟩ := A2.out
  obtain ⟨c3, f3⟩ := A3.out
  obtain ⟨c4, f4⟩ := A4.out
  obtain ⟨c5, f5⟩ := A5.out
  have K1 := Lib.hid A1; clear A1
  have K2 := Lib.hid A2; clear A2
  have K3 := Lib.hid A3; clear A3
  have K4 := Lib.hid A4; clear A4
  have K5 := Lib.hid A5; clear A5
  go_wp2
  go_ret
  refine ⟨rfl, ?_⟩
  have b6 := BB.out
  have b7 := b6.step (by omega) B7.out
  have b8 := b7.stepA (by omega) B8.out
  have b9 := b8.stepA (by omega) B9.out
  have b10 := b9.stepA (by omega) B10.out
  exact b10.alloc (by omega) _

theorem walk (r : RR) (n x y : Int) (ok : r.ok) (y1 : 0 ≤ y) (y2 : y < 65536) (w : World) :
    Calls Try.prog 3 #[.agg #[.int .u8 r.a, .int .u8 r.f, .int .u8 r.b, .int .u8 r.c, .int .u8 r.d, .int .u8 r.e, .int .u8 r.h, .int .u8 r.l, .int .u16 r.sp, .int .u16 r.pc], .int .i64 n, .int .u8 x, .int .u16 y] w fun e w' => e = .returned (.bool true) ∧ Below w.heap.size w w' :=
  walk1 r n x y ok y1 y2 _ _ _ _ _ _ _ rfl rfl rfl rfl rfl rfl rfl w
end Go.Proofs.Ytiolfmmekcahaaa.regsTell
