/-
  The walk through ClockAny: for every clock and call; no condition but that each number fits.
-/
import Derived.Test.YtkpjoongbckhcaaOpn
import Derived.Deep.Cut
import Derived.Laws.StructEq
import Derived.Laws.Tables
import Derived.Laws.Cover2
namespace Go.Proofs.Ytkpjoongbckhcaa
open Go.ChangeShapes Go.WideShapes Go.ChangeAt Go.RowKit
set_option linter.unusedVariables false
set_option linter.unusedSimpArgs false
set_option maxRecDepth 100000
set_option maxHeartbeats 2000000 in
theorem any_b0 (c : CV) (k n x : Int) (g0 : c.sub < 0) (w : World) : Calls Try.prog 4 #[.agg #[.int .u8 c.s, .int .u8 c.m, .int .u8 c.h, .int .i64 c.day, .int .i64 c.sub, .bool c.halt, .bool c.carry, .int .u8 c.a, .int .u8 c.b, .int .u8 c.c, .int .u8 c.d, .int .u8 c.e], .agg #[.int .i64 k, .int .i64 n, .int .u8 x]] w fun q_ w' => q_ = .returned (.bool true) ∧ Below w.heap.size w w' := by
  suffices hall : ∀ (n_ : Nat) (W0 : World), n_ ≤ W0.heap.size → Below n_ W0 w → Calls Try.prog 4 #[.agg #[.int .u8 c.s, .int .u8 c.m, .int .u8 c.h, .int .i64 c.day, .int .i64 c.sub, .bool c.halt, .bool c.carry, .int .u8 c.a, .int .u8 c.b, .int .u8 c.c, .int .u8 c.d, .int .u8 c.e], .agg #[.int .i64 k, .int .i64 n, .int .u8 x]] w fun q_ w' => q_ = .returned (.bool true) ∧ Below n_ W0 w' from hall _ _ (Nat.le_refl _) (Below.refl _ _)
  intro n_ W0 hn hB
  have HN := Lib.hid hn
  have BB := Lib.hid hB
  clear hn hB
  have AW := Lib.hid awake_c
  have hnot : ∀ (x : Bool) (w : World), (Op.unary .not (.bool x)).run Try.prog w = .ok (.bool (!x)) w := fun _ _ => rfl
  go_enter Try.func4, Try.ntmps4
  have Q_ := own2 w (.cells #[.int .u8 c.s, .int .u8 c.m, .int .u8 c.h, .int .i64 c.day, .int .i64 c.sub, .bool c.halt, .bool c.carry, .int .u8 c.a, .int .u8 c.b, .int .u8 c.c, .int .u8 c.d, .int .u8 c.e] 27) (.cells #[.int .i64 k, .int .i64 n, .int .u8 x] 30)
  have B0 := Lib.hid (vian HN.out BB.out Q_)
  have P0 := Lib.hid ((Has.new w #[.int .u8 c.s, .int .u8 c.m, .int .u8 c.h, .int .i64 c.day, .int .i64 c.sub, .bool c.halt, .bool c.carry, .int .u8 c.a, .int .u8 c.b, .int .u8 c.c, .int .u8 c.d, .int .u8 c.e] 27).alloc (.cells #[.int .i64 k, .int .i64 n, .int .u8 x] 30))
  have O0 := Lib.hid (show Has ((w.alloc (.cells #[.int .u8 c.s, .int .u8 c.m, .int .u8 c.h, .int .i64 c.day, .int .i64 c.sub, .bool c.halt, .bool c.carry, .int .u8 c.a, .int .u8 c.b, .int .u8 c.c, .int .u8 c.d, .int .u8 c.e] 27)).alloc (.cells #[.int .i64 k, .int .i64 n, .int .u8 x] 30)) (w.heap.size + 1) #[.int .i64 k, .int .i64 n, .int .u8 x] by simpa using Has.new (w.alloc (.cells #[.int .u8 c.s, .int .u8 c.m, .int .u8 c.h, .int .i64 c.day, .int .i64 c.sub, .bool c.halt, .bool c.carry, .int .u8 c.a, .int .u8 c.b, .int .u8 c.c, .int .u8 c.d, .int .u8 c.e] 27)) #[.int .i64 k, .int .i64 n, .int .u8 x] 30)
  clear Q_
  go_upto_region 1 with (fail)
  generalize (w.alloc (.cells #[.int .u8 c.s, .int .u8 c.m, .int .u8 c.h, .int .i64 c.day, .int .i64 c.sub, .bool c.halt, .bool c.carry, .int .u8 c.a, .int .u8 c.b, .int .u8 c.c, .int .u8 c.d, .int .u8 c.e] 27)).alloc (.cells #[.int .i64 k, .int .i64 n, .int .u8 x] 30) = w0 at B0 P0 O0 ⊢
  generalize w.heap.size + 1 = ob at O0 ⊢
  generalize w.heap.size = pb at P0 ⊢
  go_wp2_with fail
  with_reducible refine (AW.out _).mono ?_
  rintro q_ w1 ⟨rfl, hb⟩
  have B1 := Lib.hid (vian HN.out B0.out hb)
  have P1 := Lib.hid (P0.out.below hb)
  clear hb
  obtain ⟨hc, hf⟩ := P1.out.out
  go_wp2_with fail
  with_reducible refine (AW.out _).mono ?_
  rintro q_ w2 ⟨rfl, hb⟩
  have B2 := Lib.hid (vian HN.out B1.out hb)
  clear hb hc hf
  go_wp2
  go_ret
  exact ⟨rfl, B2.out⟩
set_option maxHeartbeats 2000000 in
theorem any_b1 (c : CV) (k n x : Int) (g0 : ¬ c.sub < 0) (g1 : 1048576 < c.sub) (w : World) : Calls Try.prog 4 #[.agg #[.int .u8 c.s, .int .u8 c.m, .int .u8 c.h, .int .i64 c.day, .int .i64 c.sub, .bool c.halt, .bool c.carry, .int .u8 c.a, .int .u8 c.b, .int .u8 c.c, .int .u8 c.d, .int .u8 c.e], .agg #[.int .i64 k, .int .i64 n, .int .u8 x]] w fun q_ w' => q_ = .returned (.bool true) ∧ Below w.heap.size w w' := by
  suffices hall : ∀ (n_ : Nat) (W0 : World), n_ ≤ W0.heap.size → Below n_ W0 w → Calls Try.prog 4 #[.agg #[.int .u8 c.s, .int .u8 c.m, .int .u8 c.h, .int .i64 c.day, .int .i64 c.sub, .bool c.halt, .bool c.carry, .int .u8 c.a, .int .u8 c.b, .int .u8 c.c, .int .u8 c.d, .int .u8 c.e], .agg #[.int .i64 k, .int .i64 n, .int .u8 x]] w fun q_ w' => q_ = .returned (.bool true) ∧ Below n_ W0 w' from hall _ _ (Nat.le_refl _) (Below.refl _ _)
  intro n_ W0 hn hB
  have HN := Lib.hid hn
  have BB := Lib.hid hB
  clear hn hB
  have AW := Lib.hid awake_c
  have hnot : ∀ (x : Bool) (w : World), (Op.unary .not (.bool x)).run Try.prog w = .ok (.bool (!x)) w := fun _ _ => rfl
  go_enter Try.func4, Try.ntmps4
  have Q_ := own2 w (.cells #[.int .u8 c.s, .int .u8 c.m, .int .u8 c.h, .int .i64 c.day, .int .i64 c.sub, .bool c.halt, .bool c.carry, .int .u8 c.a, .int .u8 c.b, .int .u8 c.c, .int .u8 c.d, .int .u8 c.e] 27) (.cells #[.int .i64 k, .int .i64 n, .int .u8 x] 30)
  have B0 := Lib.hid (vian HN.out BB.out Q_)
  have P0 := Lib.hid ((Has.new w #[.int .u8 c.s, .int .u8 c.m, .int .u8 c.h, .int .i64 c.day, .int .i64 c.sub, .bool c.halt, .bool c.carry, .int .u8 c.a, .int .u8 c.b, .int .u8 c.c, .int .u8 c.d, .int .u8 c.e] 27).alloc (.cells #[.int .i64 k, .int .i64 n, .int .u8 x] 30))
  have O0 := Lib.hid (show Has ((w.alloc (.cells #[.int .u8 c.s, .int .u8 c.m, .int .u8 c.h, .int .i64 c.day, .int .i64 c.sub, .bool c.halt, .bool c.carry, .int .u8 c.a, .int .u8 c.b, .int .u8 c.c, .int .u8 c.d, .int .u8 c.e] 27)).alloc (.cells #[.int .i64 k, .int .i64 n, .int .u8 x] 30)) (w.heap.size + 1) #[.int .i64 k, .int .i64 n, .int .u8 x] by simpa using Has.new (w.alloc (.cells #[.int .u8 c.s, .int .u8 c.m, .int .u8 c.h, .int .i64 c.day, .int .i64 c.sub, .bool c.halt, .bool c.carry, .int .u8 c.a, .int .u8 c.b, .int .u8 c.c, .int .u8 c.d, .int .u8 c.e] 27)) #[.int .i64 k, .int .i64 n, .int .u8 x] 30)
  clear Q_
  go_upto_region 1 with (fail)
  generalize (w.alloc (.cells #[.int .u8 c.s, .int .u8 c.m, .int .u8 c.h, .int .i64 c.day, .int .i64 c.sub, .bool c.halt, .bool c.carry, .int .u8 c.a, .int .u8 c.b, .int .u8 c.c, .int .u8 c.d, .int .u8 c.e] 27)).alloc (.cells #[.int .i64 k, .int .i64 n, .int .u8 x] 30) = w0 at B0 P0 O0 ⊢
  generalize w.heap.size + 1 = ob at O0 ⊢
  generalize w.heap.size = pb at P0 ⊢
  go_wp2_with fail
  with_reducible refine (AW.out _).mono ?_
  rintro q_ w1 ⟨rfl, hb⟩
  have B1 := Lib.hid (vian HN.out B0.out hb)
  have P1 := Lib.hid (P0.out.below hb)
  clear hb
  obtain ⟨hc, hf⟩ := P1.out.out
  go_wp2_with fail
  with_reducible refine (AW.out _).mono ?_
  rintro q_ w2 ⟨rfl, hb⟩
  have B2 := Lib.hid (vian HN.out B1.out hb)
  clear hb hc hf
  go_wp2
  go_ret
  exact ⟨rfl, B2.out⟩
set_option maxHeartbeats 2000000 in
theorem any_b2 (c : CV) (k n x : Int) (g0 : ¬ c.sub < 0) (g1 : ¬ 1048576 < c.sub) (g2 : c.day < 0) (w : World) : Calls Try.prog 4 #[.agg #[.int .u8 c.s, .int .u8 c.m, .int .u8 c.h, .int .i64 c.day, .int .i64 c.sub, .bool c.halt, .bool c.carry, .int .u8 c.a, .int .u8 c.b, .int .u8 c.c, .int .u8 c.d, .int .u8 c.e], .agg #[.int .i64 k, .int .i64 n, .int .u8 x]] w fun q_ w' => q_ = .returned (.bool true) ∧ Below w.heap.size w w' := by
  suffices hall : ∀ (n_ : Nat) (W0 : World), n_ ≤ W0.heap.size → Below n_ W0 w → Calls Try.prog 4 #[.agg #[.int .u8 c.s, .int .u8 c.m, .int .u8 c.h, .int .i64 c.day, .int .i64 c.sub, .bool c.halt, .bool c.carry, .int .u8 c.a, .int .u8 c.b, .int .u8 c.c, .int .u8 c.d, .int .u8 c.e], .agg #[.int .i64 k, .int .i64 n, .int .u8 x]] w fun q_ w' => q_ = .returned (.bool true) ∧ Below n_ W0 w' from hall _ _ (Nat.le_refl _) (Below.refl _ _)
  intro n_ W0 hn hB
  have HN := Lib.hid hn
  have BB := Lib.hid hB
  clear hn hB
  have AW := Lib.hid awake_c
  have hnot : ∀ (x : Bool) (w : World), (Op.unary .not (.bool x)).run Try.prog w = .ok (.bool (!x)) w := fun _ _ => rfl
  go_enter Try.func4, Try.ntmps4
  have Q_ := own2 w (.cells #[.int .u8 c.s, .int .u8 c.m, .int .u8 c.h, .int .i64 c.day, .int .i64 c.sub, .bool c.halt, .bool c.carry, .int .u8 c.a, .int .u8 c.b, .int .u8 c.c, .int .u8 c.d, .int .u8 c.e] 27) (.cells #[.int .i64 k, .int .i64 n, .int .u8 x] 30)
  have B0 := Lib.hid (vian HN.out BB.out Q_)
  have P0 := Lib.hid ((Has.new w #[.int .u8 c.s, .int .u8 c.m, .int .u8 c.h, .int .i64 c.day, .int .i64 c.sub, .bool c.halt, .bool c.carry, .int .u8 c.a, .int .u8 c.b, .int .u8 c.c, .int .u8 c.d, .int .u8 c.e] 27).alloc (.cells #[.int .i64 k, .int .i64 n, .int .u8 x] 30))
  have O0 := Lib.hid (show Has ((w.alloc (.cells #[.int .u8 c.s, .int .u8 c.m, .int .u8 c.h, .int .i64 c.day, .int .i64 c.sub, .bool c.halt, .bool c.carry, .int .u8 c.a, .int .u8 c.b, .int .u8 c.c, .int .u8 c.d, .int .u8 c.e] 27)).alloc (.cells #[.int .i64 k, .int .i64 n, .int .u8 x] 30)) (w.heap.size + 1) #[.int .i64 k, .int .i64 n, .int .u8 x] by simpa using Has.new (w.alloc (.cells #[.int .u8 c.s, .int .u8 c.m, .int .u8 c.h, .int .i64 c.day, .int .i64 c.sub, .bool c.halt, .bool c.carry, .int .u8 c.a, .int .u8 c.b, .int .u8 c.c, .int .u8 c.d, .int .u8 c.e] 27)) #[.int .i64 k, .int .i64 n, .int .u8 x] 30)
  clear Q_
  go_upto_region 1 with (fail)
  generalize (w.alloc (.cells #[.int .u8 c.s, .int .u8 c.m, .int .u8 c.h, .int .i64 c.day, .int .i64 c.sub, .bool c.halt, .bool c.carry, .int .u8 c.a, .int .u8 c.b, .int .u8 c.c, .int .u8 c.d, .int .u8 c.e] 27)).alloc (.cells #[.int .i64 k, .int .i64 n, .int .u8 x] 30) = w0 at B0 P0 O0 ⊢
  generalize w.heap.size + 1 = ob at O0 ⊢
  generalize w.heap.size = pb at P0 ⊢
  go_wp2_with fail
  with_reducible refine (AW.out _).mono ?_
  rintro q_ w1 ⟨rfl, hb⟩
  have B1 := Lib.hid (vian HN.out B0.out hb)
  have P1 := Lib.hid (P0.out.below hb)
  clear hb
  obtain ⟨hc, hf⟩ := P1.out.out
  go_wp2_with fail
  with_reducible refine (AW.out _).mono ?_
  rintro q_ w2 ⟨rfl, hb⟩
  have B2 := Lib.hid (vian HN.out B1.out hb)
  clear hb hc hf
  go_wp2
  go_ret
  exact ⟨rfl, B2.out⟩
set_option maxHeartbeats 2000000 in
theorem any_b3 (c : CV) (k n x : Int) (g0 : ¬ c.sub < 0) (g1 : ¬ 1048576 < c.sub) (g2 : ¬ c.day < 0) (g3 : 511 < c.day) (w : World) : Calls Try.prog 4 #[.agg #[.int .u8 c.s, .int .u8 c.m, .int .u8 c.h, .int .i64 c.day, .int .i64 c.sub, .bool c.halt, .bool c.carry, .int .u8 c.a, .int .u8 c.b, .int .u8 c.c, .int .u8 c.d, .int .u8 c.e], .agg #[.int .i64 k, .int .i64 n, .int .u8 x]] w fun q_ w' => q_ = .returned (.bool true) ∧ Below w.heap.size w w' := by
  suffices hall : ∀ (n_ : Nat) (W0 : World), n_ ≤ W0.heap.size → Below n_ W0 w → Calls Try.prog 4 #[.agg #[.int .u8 c.s, .int .u8 c.m, .int .u8 c.h, .int .i64 c.day, .int .i64 c.sub, .bool c.halt, .bool c.carry, .int .u8 c.a, .int .u8 c.b, .int .u8 c.c, .int .u8 c.d, .int .u8 c.e], .agg #[.int .i64 k, .int .i64 n, .int .u8 x]] w fun q_ w' => q_ = .returned (.bool true) ∧ Below n_ W0 w' from hall _ _ (Nat.le_refl _) (Below.refl _ _)
  intro n_ W0 hn hB
  have HN := Lib.hid hn
  have BB := Lib.hid hB
  clear hn hB
  have AW := Lib.hid awake_c
  have hnot : ∀ (x : Bool) (w : World), (Op.unary .not (.bool x)).run Try.prog w = .ok (.bool (!x)) w := fun _ _ => rfl
  go_enter Try.func4, Try.ntmps4
  have Q_ := own2 w (.cells #[.int .u8 c.s, .int .u8 c.m, .int .u8 c.h, .int .i64 c.day, .int .i64 c.sub, .bool c.halt, .bool c.carry, .int .u8 c.a, .int .u8 c.b, .int .u8 c.c, .int .u8 c.d, .int .u8 c.e] 27) (.cells #[.int .i64 k, .int .i64 n, .int .u8 x] 30)
  have B0 := Lib.hid (vian HN.out BB.out Q_)
  have P0 := Lib.hid ((Has.new w #[.int .u8 c.s, .int .u8 c.m, .int .u8 c.h, .int .i64 c.day, .int .i64 c.sub, .bool c.halt, .bool c.carry, .int .u8 c.a, .int .u8 c.b, .int .u8 c.c, .int .u8 c.d, .int .u8 c.e] 27).alloc (.cells #[.int .i64 k, .int .i64 n, .int .u8 x] 30))
  have O0 := Lib.hid (show Has ((w.alloc (.cells #[.int .u8 c.s, .int .u8 c.m, .int .u8 c.h, .int .i64 c.day, .int .i64 c.sub, .bool c.halt, .bool c.carry, .int .u8 c.a, .int .u8 c.b, .int .u8 c.c, .int .u8 c.d, .int .u8 c.e] 27)).alloc (.cells #[.int .i64 k, .int .i64 n, .int .u8 x] 30)) (w.heap.size + 1) #[.int .i64 k, .int .i64 n, .int .u8 x] by simpa using Has.new (w.alloc (.cells #[.int .u8 c.s, .int .u8 c.m, .int .u8 c.h, .int .i64 c.day, .int .i64 c.sub, .bool c.halt, .bool c.carry, .int .u8 c.a, .int .u8 c.b, .int .u8 c.c, .int .u8 c.d, .int .u8 c.e] 27)) #[.int .i64 k, .int .i64 n, .int .u8 x] 30)
  clear Q_
  go_upto_region 1 with (fail)
  generalize (w.alloc (.cells #[.int .u8 c.s, .int .u8 c.m, .int .u8 c.h, .int .i64 c.day, .int .i64 c.sub, .bool c.halt, .bool c.carry, .int .u8 c.a, .int .u8 c.b, .int .u8 c.c, .int .u8 c.d, .int .u8 c.e] 27)).alloc (.cells #[.int .i64 k, .int .i64 n, .int .u8 x] 30) = w0 at B0 P0 O0 ⊢
  generalize w.heap.size + 1 = ob at O0 ⊢
  generalize w.heap.size = pb at P0 ⊢
  go_wp2_with fail
  with_reducible refine (AW.out _).mono ?_
  rintro q_ w1 ⟨rfl, hb⟩
  have B1 := Lib.hid (vian HN.out B0.out hb)
  have P1 := Lib.hid (P0.out.below hb)
  clear hb
  obtain ⟨hc, hf⟩ := P1.out.out
  go_wp2_with fail
  with_reducible refine (AW.out _).mono ?_
  rintro q_ w2 ⟨rfl, hb⟩
  have B2 := Lib.hid (vian HN.out B1.out hb)
  clear hb hc hf
  go_wp2
  go_ret
  exact ⟨rfl, B2.out⟩
set_option maxHeartbeats 4000000 in
theorem any_g (c R : CV) (k n x y : Int) (g0 : ¬ c.sub < 0) (g1 : ¬ 1048576 < c.sub) (g2 : ¬ c.day < 0) (g3 : ¬ 511 < c.day) (C1 : ∀ W, Calls Try.prog 10 #[.agg #[.int .u8 c.s, .int .u8 c.m, .int .u8 c.h, .int .i64 c.day, .int .i64 c.sub, .bool c.halt, .bool c.carry, .int .u8 c.a, .int .u8 c.b, .int .u8 c.c, .int .u8 c.d, .int .u8 c.e], .agg #[.int .i64 k, .int .i64 n, .int .u8 x]] W fun q_ w' => q_ = .returned (.agg #[.int .u8 R.s, .int .u8 R.m, .int .u8 R.h, .int .i64 R.day, .int .i64 R.sub, .bool R.halt, .bool R.carry, .int .u8 R.a, .int .u8 R.b, .int .u8 R.c, .int .u8 R.d, .int .u8 R.e]) ∧ Below W.heap.size W w') (C2 : ∀ W, Calls Try.prog 11 #[.agg #[.int .u8 c.s, .int .u8 c.m, .int .u8 c.h, .int .i64 c.day, .int .i64 c.sub, .bool c.halt, .bool c.carry, .int .u8 c.a, .int .u8 c.b, .int .u8 c.c, .int .u8 c.d, .int .u8 c.e], .agg #[.int .i64 k, .int .i64 n, .int .u8 x]] W fun q_ w' => q_ = .returned (.agg #[.int .u8 R.s, .int .u8 R.m, .int .u8 R.h, .int .i64 R.day, .int .i64 R.sub, .bool R.halt, .bool R.carry, .int .u8 R.a, .int .u8 R.b, .int .u8 R.c, .int .u8 R.d, .int .u8 R.e]) ∧ Below W.heap.size W w') (C3 : ∀ W, Calls Try.prog 12 #[.agg #[.int .u8 c.s, .int .u8 c.m, .int .u8 c.h, .int .i64 c.day, .int .i64 c.sub, .bool c.halt, .bool c.carry, .int .u8 c.a, .int .u8 c.b, .int .u8 c.c, .int .u8 c.d, .int .u8 c.e], .int .i64 n] W fun q_ w' => q_ = .returned (.int .u8 y) ∧ Below W.heap.size W w') (C4 : ∀ W, Calls Try.prog 13 #[.agg #[.int .u8 c.s, .int .u8 c.m, .int .u8 c.h, .int .i64 c.day, .int .i64 c.sub, .bool c.halt, .bool c.carry, .int .u8 c.a, .int .u8 c.b, .int .u8 c.c, .int .u8 c.d, .int .u8 c.e], .int .i64 n] W fun q_ w' => q_ = .returned (.int .u8 y) ∧ Below W.heap.size W w') (w : World) : Calls Try.prog 4 #[.agg #[.int .u8 c.s, .int .u8 c.m, .int .u8 c.h, .int .i64 c.day, .int .i64 c.sub, .bool c.halt, .bool c.carry, .int .u8 c.a, .int .u8 c.b, .int .u8 c.c, .int .u8 c.d, .int .u8 c.e], .agg #[.int .i64 k, .int .i64 n, .int .u8 x]] w fun q_ w' => q_ = .returned (.bool true) ∧ Below w.heap.size w w' := by
  suffices hall : ∀ (n_ : Nat) (W0 : World), n_ ≤ W0.heap.size → Below n_ W0 w → Calls Try.prog 4 #[.agg #[.int .u8 c.s, .int .u8 c.m, .int .u8 c.h, .int .i64 c.day, .int .i64 c.sub, .bool c.halt, .bool c.carry, .int .u8 c.a, .int .u8 c.b, .int .u8 c.c, .int .u8 c.d, .int .u8 c.e], .agg #[.int .i64 k, .int .i64 n, .int .u8 x]] w fun q_ w' => q_ = .returned (.bool true) ∧ Below n_ W0 w' from hall _ _ (Nat.le_refl _) (Below.refl _ _)
  intro n_ W0 hn hB
  have HN := Lib.hid hn
  have BB := Lib.hid hB
  clear hn hB
  have H1 := Lib.hid C1
  have H2 := Lib.hid C2
  have H3 := Lib.hid C3
  have H4 := Lib.hid C4
  clear C1 C2 C3 C4
  have AW := Lib.hid awake_c
  have heq := eq_held R.a R.b R.c R.d R.e
  have hnot : ∀ (x : Bool) (w : World), (Op.unary .not (.bool x)).run Try.prog w = .ok (.bool (!x)) w := fun _ _ => rfl
  go_enter Try.func4, Try.ntmps4
  have Q_ := own2 w (.cells #[.int .u8 c.s, .int .u8 c.m, .int .u8 c.h, .int .i64 c.day, .int .i64 c.sub, .bool c.halt, .bool c.carry, .int .u8 c.a, .int .u8 c.b, .int .u8 c.c, .int .u8 c.d, .int .u8 c.e] 27) (.cells #[.int .i64 k, .int .i64 n, .int .u8 x] 30)
  have B0 := Lib.hid (vian HN.out BB.out Q_)
  have P0 := Lib.hid ((Has.new w #[.int .u8 c.s, .int .u8 c.m, .int .u8 c.h, .int .i64 c.day, .int .i64 c.sub, .bool c.halt, .bool c.carry, .int .u8 c.a, .int .u8 c.b, .int .u8 c.c, .int .u8 c.d, .int .u8 c.e] 27).alloc (.cells #[.int .i64 k, .int .i64 n, .int .u8 x] 30))
  have O0 := Lib.hid (show Has ((w.alloc (.cells #[.int .u8 c.s, .int .u8 c.m, .int .u8 c.h, .int .i64 c.day, .int .i64 c.sub, .bool c.halt, .bool c.carry, .int .u8 c.a, .int .u8 c.b, .int .u8 c.c, .int .u8 c.d, .int .u8 c.e] 27)).alloc (.cells #[.int .i64 k, .int .i64 n, .int .u8 x] 30)) (w.heap.size + 1) #[.int .i64 k, .int .i64 n, .int .u8 x] by simpa using Has.new (w.alloc (.cells #[.int .u8 c.s, .int .u8 c.m, .int .u8 c.h, .int .i64 c.day, .int .i64 c.sub, .bool c.halt, .bool c.carry, .int .u8 c.a, .int .u8 c.b, .int .u8 c.c, .int .u8 c.d, .int .u8 c.e] 27)) #[.int .i64 k, .int .i64 n, .int .u8 x] 30)
  clear Q_
  go_upto_region 1 with (fail)
  generalize (w.alloc (.cells #[.int .u8 c.s, .int .u8 c.m, .int .u8 c.h, .int .i64 c.day, .int .i64 c.sub, .bool c.halt, .bool c.carry, .int .u8 c.a, .int .u8 c.b, .int .u8 c.c, .int .u8 c.d, .int .u8 c.e] 27)).alloc (.cells #[.int .i64 k, .int .i64 n, .int .u8 x] 30) = w0 at B0 P0 O0 ⊢
  generalize w.heap.size + 1 = ob at O0 ⊢
  generalize w.heap.size = pb at P0 ⊢
  go_wp2_with fail
  with_reducible refine (AW.out _).mono ?_
  rintro q_ w1 ⟨rfl, hb⟩
  have B1 := Lib.hid (vian HN.out B0.out hb)
  have P1 := Lib.hid (P0.out.below hb)
  have O1 := Lib.hid (O0.out.below hb)
  clear hb
  obtain ⟨hc, hf⟩ := P1.out.out
  have Q_ := own1 w1 (.cells #[.int .u8 c.s, .int .u8 c.m, .int .u8 c.h, .int .i64 c.day, .int .i64 c.sub, .bool c.halt, .bool c.carry, .int .u8 c.a, .int .u8 c.b, .int .u8 c.c, .int .u8 c.d, .int .u8 c.e] 26)
  have B2 := Lib.hid (vian HN.out B1.out Q_).drew
  have P2 := Lib.hid (P1.out.below Q_).drew
  have O2 := Lib.hid (O1.out.below Q_).drew
  have K2 := Lib.hid (Has.new w1 #[.int .u8 c.s, .int .u8 c.m, .int .u8 c.h, .int .i64 c.day, .int .i64 c.sub, .bool c.halt, .bool c.carry, .int .u8 c.a, .int .u8 c.b, .int .u8 c.c, .int .u8 c.d, .int .u8 c.e] 26).drew
  clear Q_
  go_upto_region 4 with (fail)
  clear hc hf
  generalize w1.alloc (.cells #[.int .u8 c.s, .int .u8 c.m, .int .u8 c.h, .int .i64 c.day, .int .i64 c.sub, .bool c.halt, .bool c.carry, .int .u8 c.a, .int .u8 c.b, .int .u8 c.c, .int .u8 c.d, .int .u8 c.e] 26) = w2 at B2 P2 O2 K2 ⊢
  generalize w1.heap.size = kb at K2 ⊢
  refine wp_region_held_drew (S := (fun w' => (∀ o, w'.cell? ⟨pb, o, none⟩ = #[.int .u8 c.s, .int .u8 c.m, .int .u8 c.h, .int .i64 c.day, .int .i64 c.sub, .bool c.halt, .bool c.carry, .int .u8 c.a, .int .u8 c.b, .int .u8 c.c, .int .u8 c.d, .int .u8 c.e][o]?) ∧ (∀ o, w'.cell? ⟨ob, o, none⟩ = #[.int .i64 k, .int .i64 n, .int .u8 x][o]?) ∧ (∀ o, w'.cell? ⟨kb, o, none⟩ = #[.int .u8 c.s, .int .u8 c.m, .int .u8 c.h, .int .i64 c.day, .int .i64 c.sub, .bool c.halt, .bool c.carry, .int .u8 c.a, .int .u8 c.b, .int .u8 c.c, .int .u8 c.d, .int .u8 c.e][o]?))) (by kernel_rfl) ⟨P2.out.2.1, O2.out.2.1, K2.out.2.1⟩ (fun hHeld => ?_)
  generalize World.drew w2 = u2 at hHeld B2 P2 O2 K2 ⊢
  refine wpAnyH_take (i := 0) (oi := { dst := some 30, op := Go.Op.load 26 (Go.Operand.tmp 5), type := 26, pos := "law.go:70", after := #[], guard := none }) (v := ?v1) rfl (by kernel_rfl) (by kernel_rfl) (by kernel_rfl) (fun _ _ _ h => h) (Or.inl ⟨by rfl, ?y1⟩) (by assumption) ?z1
  case y1 => (intro w hSw; (try dsimp only at hSw); go_simp) <;> with_reducible rfl
  try simp only [Act.put, List.setIfInBounds_toArray, List.set_cons_zero, List.set_cons_succ]
  refine wpAnyH_take (i := 1) (oi := { dst := some 31, op := Go.Op.load 30 (Go.Operand.tmp 3), type := 30, pos := "law.go:70", after := #[], guard := none }) (v := ?v2) rfl (by kernel_rfl) (by kernel_rfl) (by kernel_rfl) (fun _ _ _ h => h) (Or.inl ⟨by rfl, ?y2⟩) (by assumption) ?z2
  case y2 => (intro w hSw; (try dsimp only at hSw); go_simp) <;> with_reducible rfl
  try simp only [Act.put, List.setIfInBounds_toArray, List.set_cons_zero, List.set_cons_succ]
  refine wpAnyH_take (i := 3) (oi := { dst := some 33, op := Go.Op.load 27 (Go.Operand.tmp 2), type := 27, pos := "law.go:70", after := #[], guard := none }) (v := ?v3) rfl (by kernel_rfl) (by kernel_rfl) (by kernel_rfl) (fun _ _ _ h => h) (Or.inl ⟨by rfl, ?y3⟩) (by assumption) ?z3
  case y3 => (intro w hSw; (try dsimp only at hSw); go_simp) <;> with_reducible rfl
  try simp only [Act.put, List.setIfInBounds_toArray, List.set_cons_zero, List.set_cons_succ]
  refine wpAnyH_take (i := 4) (oi := { dst := some 34, op := Go.Op.load 30 (Go.Operand.tmp 3), type := 30, pos := "law.go:70", after := #[], guard := none }) (v := ?v4) rfl (by kernel_rfl) (by kernel_rfl) (by kernel_rfl) (fun _ _ _ h => h) (Or.inl ⟨by rfl, ?y4⟩) (by assumption) ?z4
  case y4 => (intro w hSw; (try dsimp only at hSw); go_simp) <;> with_reducible rfl
  try simp only [Act.put, List.setIfInBounds_toArray, List.set_cons_zero, List.set_cons_succ]
  refine wpAnyH_ready (rs := [2]) (by kernel_rfl) (by simp) ?_
  refine (AllReadyH.cons (o := { dst := some 32, op := Go.Op.call { callee := Go.Callee.value (Go.Operand.func 10), args := #[Go.Operand.tmp 30, Go.Operand.tmp 31], argTypes := #[26, 30] }, type := 26, pos := "law.go:70", after := #[{ on := 0, ground := Go.Ground.data }, { on := 1, ground := Go.Ground.data }], guard := none }) rfl (fun K hK => ?_) AllReadyH.nil)
  · skip
    go_simp
    with_reducible refine (H1.out _).mono ?_
    rintro q_ u3 ⟨rfl, hb⟩
    have B3 := Lib.hid (vian HN.out B2.out hb)
    have P3 := Lib.hid (P2.out.below hb)
    have O3 := Lib.hid (O2.out.below hb)
    have K3 := Lib.hid (K2.out.below hb)
    clear hb B2 P2 O2 K2
    refine hK.out _ _ ?s5 (fun hNew => ?r5)
    case s5 => exact ⟨P3.out.2.1, O3.out.2.1, K3.out.2.1⟩
    clear hK K hHeld
    have hHeld := hNew
    clear hNew
    refine wpAnyH_ready (rs := [5]) (by kernel_rfl) (by simp) ?_
    refine (AllReadyH.cons (o := { dst := some 35, op := Go.Op.call { callee := Go.Callee.value (Go.Operand.func 11), args := #[Go.Operand.tmp 33, Go.Operand.tmp 34], argTypes := #[27, 30] }, type := 27, pos := "law.go:70", after := #[{ on := 3, ground := Go.Ground.data }, { on := 4, ground := Go.Ground.data }, { on := 2, ground := Go.Ground.chain }], guard := none }) rfl (fun K hK => ?_) AllReadyH.nil)
    · skip
      go_simp
      with_reducible refine (H2.out _).mono ?_
      rintro q_ u4 ⟨rfl, hb⟩
      have B4 := Lib.hid (vian HN.out B3.out hb)
      have P4 := Lib.hid (P3.out.below hb)
      have O4 := Lib.hid (O3.out.below hb)
      have K4 := Lib.hid (K3.out.below hb)
      clear hb B3 P3 O3 K3
      refine hK.out _ _ ?s6 (fun hNew => ?r6)
      case s6 => exact ⟨P4.out.2.1, O4.out.2.1, K4.out.2.1⟩
      clear hK K hHeld
      have hHeld := hNew
      clear hNew
      refine wpAnyH_take (i := 6) (oi := { dst := some 36, op := Go.Op.binOp Go.BinOp.eql 27 (Go.Operand.tmp 32) (Go.Operand.tmp 35) 27, type := 4, pos := "law.go:70", after := #[{ on := 2, ground := Go.Ground.data }, { on := 5, ground := Go.Ground.data }], guard := none }) (v := ?v7) rfl (by kernel_rfl) (by kernel_rfl) (by kernel_rfl) (fun _ _ _ h => h) (Or.inl ⟨by rfl, ?y7⟩) (by assumption) ?z7
      case y7 => (intro w hSw; (try dsimp only at hSw); go_simp) <;> with_reducible rfl
      try simp only [Act.put, List.setIfInBounds_toArray, List.set_cons_zero, List.set_cons_succ]
      refine wpAnyH_take (i := 7) (oi := { dst := some 37, op := Go.Op.move (Go.Operand.tmp 36), type := 4, pos := "law.go:70", after := #[{ on := 6, ground := Go.Ground.data }, { on := 5, ground := Go.Ground.chain }], guard := none }) (v := ?v8) rfl (by kernel_rfl) (by kernel_rfl) (by kernel_rfl) (fun _ _ _ h => h) (Or.inl ⟨by rfl, ?y8⟩) (by assumption) ?z8
      case y8 => (intro w hSw; (try dsimp only at hSw); go_simp) <;> with_reducible rfl
      try simp only [Act.put, List.setIfInBounds_toArray, List.set_cons_zero, List.set_cons_succ]
      refine wpAnyH_take (i := 8) (oi := { dst := some 38, op := Go.Op.load 26 (Go.Operand.tmp 5), type := 26, pos := "law.go:70", after := #[{ on := 7, ground := Go.Ground.guard }], guard := some (7, true) }) (v := ?v9) rfl (by kernel_rfl) (by kernel_rfl) (by kernel_rfl) (fun _ _ _ h => h) (Or.inl ⟨by rfl, ?y9⟩) (by assumption) ?z9
      case y9 => (intro w hSw; (try dsimp only at hSw); go_simp) <;> with_reducible rfl
      try simp only [Act.put, List.setIfInBounds_toArray, List.set_cons_zero, List.set_cons_succ]
      refine wpAnyH_take (i := 9) (oi := { dst := some 39, op := Go.Op.fieldAddr 30 (Go.Operand.tmp 3) 1, type := 0, pos := "law.go:70", after := #[{ on := 7, ground := Go.Ground.guard }], guard := some (7, true) }) (v := ?v10) rfl (by kernel_rfl) (by kernel_rfl) (by kernel_rfl) (fun _ _ _ h => h) (Or.inl ⟨by rfl, ?y10⟩) (by assumption) ?z10
      case y10 => (intro w hSw; (try dsimp only at hSw); go_simp) <;> with_reducible rfl
      try simp only [Act.put, List.setIfInBounds_toArray, List.set_cons_zero, List.set_cons_succ]
      refine wpAnyH_take (i := 10) (oi := { dst := some 40, op := Go.Op.load 3 (Go.Operand.tmp 39), type := 3, pos := "law.go:70", after := #[{ on := 9, ground := Go.Ground.data }, { on := 7, ground := Go.Ground.guard }], guard := some (7, true) }) (v := ?v11) rfl (by kernel_rfl) (by kernel_rfl) (by kernel_rfl) (fun _ _ _ h => h) (Or.inl ⟨by rfl, ?y11⟩) (by assumption) ?z11
      case y11 => (intro w hSw; (try dsimp only at hSw); go_simp) <;> with_reducible rfl
      try simp only [Act.put, List.setIfInBounds_toArray, List.set_cons_zero, List.set_cons_succ]
      refine wpAnyH_take (i := 12) (oi := { dst := some 42, op := Go.Op.load 27 (Go.Operand.tmp 2), type := 27, pos := "law.go:70", after := #[{ on := 7, ground := Go.Ground.guard }], guard := some (7, true) }) (v := ?v12) rfl (by kernel_rfl) (by kernel_rfl) (by kernel_rfl) (fun _ _ _ h => h) (Or.inl ⟨by rfl, ?y12⟩) (by assumption) ?z12
      case y12 => (intro w hSw; (try dsimp only at hSw); go_simp) <;> with_reducible rfl
      try simp only [Act.put, List.setIfInBounds_toArray, List.set_cons_zero, List.set_cons_succ]
      refine wpAnyH_take (i := 13) (oi := { dst := some 43, op := Go.Op.fieldAddr 30 (Go.Operand.tmp 3) 1, type := 0, pos := "law.go:70", after := #[{ on := 7, ground := Go.Ground.guard }], guard := some (7, true) }) (v := ?v13) rfl (by kernel_rfl) (by kernel_rfl) (by kernel_rfl) (fun _ _ _ h => h) (Or.inl ⟨by rfl, ?y13⟩) (by assumption) ?z13
      case y13 => (intro w hSw; (try dsimp only at hSw); go_simp) <;> with_reducible rfl
      try simp only [Act.put, List.setIfInBounds_toArray, List.set_cons_zero, List.set_cons_succ]
      refine wpAnyH_take (i := 14) (oi := { dst := some 44, op := Go.Op.load 3 (Go.Operand.tmp 43), type := 3, pos := "law.go:70", after := #[{ on := 13, ground := Go.Ground.data }, { on := 7, ground := Go.Ground.guard }], guard := some (7, true) }) (v := ?v14) rfl (by kernel_rfl) (by kernel_rfl) (by kernel_rfl) (fun _ _ _ h => h) (Or.inl ⟨by rfl, ?y14⟩) (by assumption) ?z14
      case y14 => (intro w hSw; (try dsimp only at hSw); go_simp) <;> with_reducible rfl
      try simp only [Act.put, List.setIfInBounds_toArray, List.set_cons_zero, List.set_cons_succ]
      refine wpAnyH_ready (rs := [11]) (by kernel_rfl) (by simp) ?_
      refine (AllReadyH.cons (o := { dst := some 41, op := Go.Op.call { callee := Go.Callee.value (Go.Operand.func 12), args := #[Go.Operand.tmp 38, Go.Operand.tmp 40], argTypes := #[26, 3] }, type := 5, pos := "law.go:70", after := #[{ on := 8, ground := Go.Ground.data }, { on := 10, ground := Go.Ground.data }, { on := 7, ground := Go.Ground.chain }, { on := 7, ground := Go.Ground.guard }], guard := some (7, true) }) rfl (fun K hK => ?_) AllReadyH.nil)
      · skip
        go_simp
        with_reducible refine (H3.out _).mono ?_
        rintro q_ u5 ⟨rfl, hb⟩
        have B5 := Lib.hid (vian HN.out B4.out hb)
        have P5 := Lib.hid (P4.out.below hb)
        have O5 := Lib.hid (O4.out.below hb)
        have K5 := Lib.hid (K4.out.below hb)
        clear hb B4 P4 O4 K4
        refine hK.out _ _ ?s15 (fun hNew => ?r15)
        case s15 => exact ⟨P5.out.2.1, O5.out.2.1, K5.out.2.1⟩
        clear hK K hHeld
        have hHeld := hNew
        clear hNew
        refine wpAnyH_ready (rs := [15]) (by kernel_rfl) (by simp) ?_
        refine (AllReadyH.cons (o := { dst := some 45, op := Go.Op.call { callee := Go.Callee.value (Go.Operand.func 13), args := #[Go.Operand.tmp 42, Go.Operand.tmp 44], argTypes := #[27, 3] }, type := 5, pos := "law.go:70", after := #[{ on := 12, ground := Go.Ground.data }, { on := 14, ground := Go.Ground.data }, { on := 11, ground := Go.Ground.chain }, { on := 7, ground := Go.Ground.guard }], guard := some (7, true) }) rfl (fun K hK => ?_) AllReadyH.nil)
        · skip
          go_simp
          with_reducible refine (H4.out _).mono ?_
          rintro q_ u6 ⟨rfl, hb⟩
          have B6 := Lib.hid (vian HN.out B5.out hb)
          have P6 := Lib.hid (P5.out.below hb)
          have O6 := Lib.hid (O5.out.below hb)
          have K6 := Lib.hid (K5.out.below hb)
          clear hb B5 P5 O5 K5
          refine hK.out _ _ ?s16 (fun hNew => ?r16)
          case s16 => exact ⟨P6.out.2.1, O6.out.2.1, K6.out.2.1⟩
          clear hK K hHeld
          have hHeld := hNew
          clear hNew
          refine wpAnyH_take (i := 16) (oi := { dst := some 46, op := Go.Op.binOp Go.BinOp.eql 5 (Go.Operand.tmp 41) (Go.Operand.tmp 45) 5, type := 4, pos := "law.go:70", after := #[{ on := 11, ground := Go.Ground.data }, { on := 15, ground := Go.Ground.data }, { on := 7, ground := Go.Ground.guard }], guard := some (7, true) }) (v := ?v17) rfl (by kernel_rfl) (by kernel_rfl) (by kernel_rfl) (fun _ _ _ h => h) (Or.inl ⟨by rfl, ?y17⟩) (by assumption) ?z17
          case y17 => (intro w hSw; (try dsimp only at hSw); go_simp) <;> with_reducible rfl
          try simp only [Act.put, List.setIfInBounds_toArray, List.set_cons_zero, List.set_cons_succ]
          refine wpAnyH_take (i := 17) (oi := { dst := some 47, op := Go.Op.pick (Go.Operand.tmp 37) (Go.Operand.tmp 46) (Go.Operand.const (Go.Value.bool false)), type := 4, pos := "law.go:70", after := #[{ on := 7, ground := Go.Ground.data }, { on := 16, ground := Go.Ground.data }], guard := none }) (v := ?v18) rfl (by kernel_rfl) (by kernel_rfl) (by kernel_rfl) (fun _ _ _ h => h) (Or.inl ⟨by rfl, ?y18⟩) (by assumption) ?z18
          case y18 => (intro w hSw; (try dsimp only at hSw); go_simp) <;> with_reducible rfl
          try simp only [Act.put, List.setIfInBounds_toArray, List.set_cons_zero, List.set_cons_succ]
          refine wpAnyH_take (i := 18) (oi := { dst := some 4, op := Go.Op.assign (Go.Operand.tmp 47), type := 4, pos := "law.go:70", after := #[{ on := 17, ground := Go.Ground.data }, { on := 15, ground := Go.Ground.chain }, { on := 0, ground := Go.Ground.phase }, { on := 1, ground := Go.Ground.phase }, { on := 2, ground := Go.Ground.phase }, { on := 3, ground := Go.Ground.phase }, { on := 4, ground := Go.Ground.phase }, { on := 5, ground := Go.Ground.phase }, { on := 6, ground := Go.Ground.phase }, { on := 7, ground := Go.Ground.phase }, { on := 8, ground := Go.Ground.phase }, { on := 9, ground := Go.Ground.phase }, { on := 10, ground := Go.Ground.phase }, { on := 11, ground := Go.Ground.phase }, { on := 12, ground := Go.Ground.phase }, { on := 13, ground := Go.Ground.phase }, { on := 14, ground := Go.Ground.phase }, { on := 15, ground := Go.Ground.phase }, { on := 16, ground := Go.Ground.phase }, { on := 17, ground := Go.Ground.phase }], guard := none }) (v := ?v19) rfl (by kernel_rfl) (by kernel_rfl) (by kernel_rfl) (fun _ _ _ h => h) (Or.inl ⟨by rfl, ?y19⟩) (by assumption) ?z19
          case y19 => (intro w hSw; (try dsimp only at hSw); go_simp) <;> with_reducible rfl
          try simp only [Act.put, List.setIfInBounds_toArray, List.set_cons_zero, List.set_cons_succ]
          refine wpAnyH_done (by kernel_rfl) ?_ _
          clear hHeld
          go_wp2
          go_ret
          exact ⟨rfl, B6.out⟩
theorem any_walk (c : CV) (k n x : Int) (hs : 0 ≤ c.s ∧ c.s < 256) (hm : 0 ≤ c.m ∧ c.m < 256) (hh : 0 ≤ c.h ∧ c.h < 256) (x0 : 0 ≤ x) (x1 : x < 256) (w : World) : Calls Try.prog 4 #[.agg #[.int .u8 c.s, .int .u8 c.m, .int .u8 c.h, .int .i64 c.day, .int .i64 c.sub, .bool c.halt, .bool c.carry, .int .u8 c.a, .int .u8 c.b, .int .u8 c.c, .int .u8 c.d, .int .u8 c.e], .agg #[.int .i64 k, .int .i64 n, .int .u8 x]] w fun e w' => e = .returned (.bool true) ∧ Below w.heap.size w w' := by
  by_cases g0 : c.sub < 0
  · exact any_b0 c k n x g0 w
  by_cases g1 : 1048576 < c.sub
  · exact any_b1 c k n x g0 g1 w
  by_cases g2 : c.day < 0
  · exact any_b2 c k n x g0 g1 g2 w
  by_cases g3 : 511 < c.day
  · exact any_b3 c k n x g0 g1 g2 g3 w
  have ok : c.ok := ⟨hs, hm, hh, by omega, by omega⟩
  exact any_g c _ k n x _ g0 g1 g2 g3 (fun W => do_c c _ k n x ok x0 x1 rfl W) (fun W => doc_c c _ k n x ok x0 x1 rfl W) (fun W => read_c c n _ rfl W) (fun W => rread_c c n _ rfl W) w
end Go.Proofs.Ytkpjoongbckhcaa
