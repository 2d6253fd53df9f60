/-
  A call of a clock, of the program and of the document: for every clock and call; no condition but that each number fits.
-/
import Derived.Test.YtkpjoongbckhcaaTk
import Derived.Test.YtkpjoongbckhcaaHk
import Derived.Deep.Cut
import Derived.Laws.StructEq
import Derived.Laws.Tables
import Derived.Laws.Cover2
import Derived.KernelRfl
namespace Go.Proofs.Ytkpjoongbckhcaa
open Go.ChangeShapes Go.WideShapes Go.ChangeAt Go.RowKit
set_option linter.unusedVariables false
set_option linter.unusedSimpArgs false
set_option maxRecDepth 100000
set_option maxHeartbeats 2000000 in
theorem do_1 (c R : CV) (n x : Int) (C1 : ∀ W, Calls Try.prog 14 #[.agg #[.int .u8 c.s, .int .u8 c.m, .int .u8 c.h, .int .i64 c.day, .int .i64 c.sub, .bool c.halt, .bool c.carry, .int .u8 c.a, .int .u8 c.b, .int .u8 c.c, .int .u8 c.d, .int .u8 c.e], .int .i64 n] W fun q_ w' => q_ = .returned (.agg #[.int .u8 R.s, .int .u8 R.m, .int .u8 R.h, .int .i64 R.day, .int .i64 R.sub, .bool R.halt, .bool R.carry, .int .u8 R.a, .int .u8 R.b, .int .u8 R.c, .int .u8 R.d, .int .u8 R.e]) ∧ Below W.heap.size W w') (w : World) : Calls Try.prog 10 #[.agg #[.int .u8 c.s, .int .u8 c.m, .int .u8 c.h, .int .i64 c.day, .int .i64 c.sub, .bool c.halt, .bool c.carry, .int .u8 c.a, .int .u8 c.b, .int .u8 c.c, .int .u8 c.d, .int .u8 c.e], .agg #[.int .i64 1, .int .i64 n, .int .u8 x]] w fun q_ w' => q_ = .returned (.agg #[.int .u8 R.s, .int .u8 R.m, .int .u8 R.h, .int .i64 R.day, .int .i64 R.sub, .bool R.halt, .bool R.carry, .int .u8 R.a, .int .u8 R.b, .int .u8 R.c, .int .u8 R.d, .int .u8 R.e]) ∧ Below w.heap.size w w' := by
  suffices hall : ∀ (n_ : Nat) (W0 : World), n_ ≤ W0.heap.size → Below n_ W0 w → Calls Try.prog 10 #[.agg #[.int .u8 c.s, .int .u8 c.m, .int .u8 c.h, .int .i64 c.day, .int .i64 c.sub, .bool c.halt, .bool c.carry, .int .u8 c.a, .int .u8 c.b, .int .u8 c.c, .int .u8 c.d, .int .u8 c.e], .agg #[.int .i64 1, .int .i64 n, .int .u8 x]] w fun q_ w' => q_ = .returned (.agg #[.int .u8 R.s, .int .u8 R.m, .int .u8 R.h, .int .i64 R.day, .int .i64 R.sub, .bool R.halt, .bool R.carry, .int .u8 R.a, .int .u8 R.b, .int .u8 R.c, .int .u8 R.d, .int .u8 R.e]) ∧ Below n_ W0 w' from hall _ _ (Nat.le_refl _) (Below.refl _ _)
  intro n_ W0 hn hB
  have HN := Lib.hid hn
  have BB := Lib.hid hB
  clear hn hB
  have H1 := Lib.hid C1
  clear C1
  go_enter Try.func10, Try.ntmps10
  have Q_ := own3 w (.cells #[.int .u8 c.s, .int .u8 c.m, .int .u8 c.h, .int .i64 c.day, .int .i64 c.sub, .bool c.halt, .bool c.carry, .int .u8 c.a, .int .u8 c.b, .int .u8 c.c, .int .u8 c.d, .int .u8 c.e] 26) (.cells #[.int .i64 1, .int .i64 n, .int .u8 x] 30) (.cells #[.int .u8 0, .int .u8 0, .int .u8 0, .int .i64 0, .int .i64 0, .bool false, .bool false, .int .u8 0, .int .u8 0, .int .u8 0, .int .u8 0, .int .u8 0] 26)
  have B0 := Lib.hid (vian HN.out BB.out Q_)
  have R0 := Lib.hid (show Has (((w.alloc (.cells #[.int .u8 c.s, .int .u8 c.m, .int .u8 c.h, .int .i64 c.day, .int .i64 c.sub, .bool c.halt, .bool c.carry, .int .u8 c.a, .int .u8 c.b, .int .u8 c.c, .int .u8 c.d, .int .u8 c.e] 26)).alloc (.cells #[.int .i64 1, .int .i64 n, .int .u8 x] 30)).alloc (.cells #[.int .u8 0, .int .u8 0, .int .u8 0, .int .i64 0, .int .i64 0, .bool false, .bool false, .int .u8 0, .int .u8 0, .int .u8 0, .int .u8 0, .int .u8 0] 26)) (w.heap.size + 2) #[.int .u8 0, .int .u8 0, .int .u8 0, .int .i64 0, .int .i64 0, .bool false, .bool false, .int .u8 0, .int .u8 0, .int .u8 0, .int .u8 0, .int .u8 0] by simpa using Has.new ((w.alloc (.cells #[.int .u8 c.s, .int .u8 c.m, .int .u8 c.h, .int .i64 c.day, .int .i64 c.sub, .bool c.halt, .bool c.carry, .int .u8 c.a, .int .u8 c.b, .int .u8 c.c, .int .u8 c.d, .int .u8 c.e] 26)).alloc (.cells #[.int .i64 1, .int .i64 n, .int .u8 x] 30)) #[.int .u8 0, .int .u8 0, .int .u8 0, .int .i64 0, .int .i64 0, .bool false, .bool false, .int .u8 0, .int .u8 0, .int .u8 0, .int .u8 0, .int .u8 0] 26)
  have P0 := Lib.hid (((Has.new w #[.int .u8 c.s, .int .u8 c.m, .int .u8 c.h, .int .i64 c.day, .int .i64 c.sub, .bool c.halt, .bool c.carry, .int .u8 c.a, .int .u8 c.b, .int .u8 c.c, .int .u8 c.d, .int .u8 c.e] 26).alloc (.cells #[.int .i64 1, .int .i64 n, .int .u8 x] 30)).alloc (.cells #[.int .u8 0, .int .u8 0, .int .u8 0, .int .i64 0, .int .i64 0, .bool false, .bool false, .int .u8 0, .int .u8 0, .int .u8 0, .int .u8 0, .int .u8 0] 26))
  have O0 := Lib.hid (show Has (((w.alloc (.cells #[.int .u8 c.s, .int .u8 c.m, .int .u8 c.h, .int .i64 c.day, .int .i64 c.sub, .bool c.halt, .bool c.carry, .int .u8 c.a, .int .u8 c.b, .int .u8 c.c, .int .u8 c.d, .int .u8 c.e] 26)).alloc (.cells #[.int .i64 1, .int .i64 n, .int .u8 x] 30)).alloc (.cells #[.int .u8 0, .int .u8 0, .int .u8 0, .int .i64 0, .int .i64 0, .bool false, .bool false, .int .u8 0, .int .u8 0, .int .u8 0, .int .u8 0, .int .u8 0] 26)) (w.heap.size + 1) #[.int .i64 1, .int .i64 n, .int .u8 x] by simpa using (Has.new (w.alloc (.cells #[.int .u8 c.s, .int .u8 c.m, .int .u8 c.h, .int .i64 c.day, .int .i64 c.sub, .bool c.halt, .bool c.carry, .int .u8 c.a, .int .u8 c.b, .int .u8 c.c, .int .u8 c.d, .int .u8 c.e] 26)) #[.int .i64 1, .int .i64 n, .int .u8 x] 30).alloc (.cells #[.int .u8 0, .int .u8 0, .int .u8 0, .int .i64 0, .int .i64 0, .bool false, .bool false, .int .u8 0, .int .u8 0, .int .u8 0, .int .u8 0, .int .u8 0] 26))
  have LR := Lib.hid (show n_ ≤ w.heap.size + 2 from Nat.le_add_right_of_le (Nat.le_trans HN.out BB.out.size))
  clear Q_
  go_upto_region 1 with (fail)
  generalize ((w.alloc (.cells #[.int .u8 c.s, .int .u8 c.m, .int .u8 c.h, .int .i64 c.day, .int .i64 c.sub, .bool c.halt, .bool c.carry, .int .u8 c.a, .int .u8 c.b, .int .u8 c.c, .int .u8 c.d, .int .u8 c.e] 26)).alloc (.cells #[.int .i64 1, .int .i64 n, .int .u8 x] 30)).alloc (.cells #[.int .u8 0, .int .u8 0, .int .u8 0, .int .i64 0, .int .i64 0, .bool false, .bool false, .int .u8 0, .int .u8 0, .int .u8 0, .int .u8 0, .int .u8 0] 26) = w0 at B0 P0 R0 O0 ⊢
  generalize w.heap.size + 2 = rb at R0 LR ⊢
  generalize w.heap.size + 1 = ob at O0 ⊢
  generalize w.heap.size = pb at P0 ⊢
  obtain ⟨hc, hf⟩ := P0.out.out
  obtain ⟨ho, hof⟩ := O0.out.out
  go_wp2_with fail
  with_reducible refine (H1.out _).mono ?_
  rintro q_ w1 ⟨rfl, hb⟩
  clear hc hf ho hof
  have B1 := Lib.hid (vian HN.out B0.out hb)
  have R1 := Lib.hid (R0.out.below hb)
  clear hb
  obtain ⟨hc2, hf2⟩ := R1.out.out
  go_wp2
  refine bodyPost_ret (v := .agg #[.int .u8 R.s, .int .u8 R.m, .int .u8 R.h, .int .i64 R.day, .int .i64 R.sub, .bool R.halt, .bool R.carry, .int .u8 R.a, .int .u8 R.b, .int .u8 R.c, .int .u8 R.d, .int .u8 R.e]) ?_ rfl ⟨rfl, ?_⟩
  · simp [results, Try.results10, go_sem, hc2]
  · exact set12 B1.out rb LR.out _ _ _ _ _ _ _ _ _ _ _ _
set_option maxHeartbeats 2000000 in
theorem do_2 (c R : CV) (n x : Int) (C1 : ∀ W, Calls Try.prog 15 #[.agg #[.int .u8 c.s, .int .u8 c.m, .int .u8 c.h, .int .i64 c.day, .int .i64 c.sub, .bool c.halt, .bool c.carry, .int .u8 c.a, .int .u8 c.b, .int .u8 c.c, .int .u8 c.d, .int .u8 c.e], .int .i64 n, .int .u8 x] W fun q_ w' => q_ = .returned (.agg #[.int .u8 R.s, .int .u8 R.m, .int .u8 R.h, .int .i64 R.day, .int .i64 R.sub, .bool R.halt, .bool R.carry, .int .u8 R.a, .int .u8 R.b, .int .u8 R.c, .int .u8 R.d, .int .u8 R.e]) ∧ Below W.heap.size W w') (w : World) : Calls Try.prog 10 #[.agg #[.int .u8 c.s, .int .u8 c.m, .int .u8 c.h, .int .i64 c.day, .int .i64 c.sub, .bool c.halt, .bool c.carry, .int .u8 c.a, .int .u8 c.b, .int .u8 c.c, .int .u8 c.d, .int .u8 c.e], .agg #[.int .i64 2, .int .i64 n, .int .u8 x]] w fun q_ w' => q_ = .returned (.agg #[.int .u8 R.s, .int .u8 R.m, .int .u8 R.h, .int .i64 R.day, .int .i64 R.sub, .bool R.halt, .bool R.carry, .int .u8 R.a, .int .u8 R.b, .int .u8 R.c, .int .u8 R.d, .int .u8 R.e]) ∧ Below w.heap.size w w' := by
  suffices hall : ∀ (n_ : Nat) (W0 : World), n_ ≤ W0.heap.size → Below n_ W0 w → Calls Try.prog 10 #[.agg #[.int .u8 c.s, .int .u8 c.m, .int .u8 c.h, .int .i64 c.day, .int .i64 c.sub, .bool c.halt, .bool c.carry, .int .u8 c.a, .int .u8 c.b, .int .u8 c.c, .int .u8 c.d, .int .u8 c.e], .agg #[.int .i64 2, .int .i64 n, .int .u8 x]] w fun q_ w' => q_ = .returned (.agg #[.int .u8 R.s, .int .u8 R.m, .int .u8 R.h, .int .i64 R.day, .int .i64 R.sub, .bool R.halt, .bool R.carry, .int .u8 R.a, .int .u8 R.b, .int .u8 R.c, .int .u8 R.d, .int .u8 R.e]) ∧ Below n_ W0 w' from hall _ _ (Nat.le_refl _) (Below.refl _ _)
  intro n_ W0 hn hB
  have HN := Lib.hid hn
  have BB := Lib.hid hB
  clear hn hB
  have H1 := Lib.hid C1
  clear C1
  go_enter Try.func10, Try.ntmps10
  have Q_ := own3 w (.cells #[.int .u8 c.s, .int .u8 c.m, .int .u8 c.h, .int .i64 c.day, .int .i64 c.sub, .bool c.halt, .bool c.carry, .int .u8 c.a, .int .u8 c.b, .int .u8 c.c, .int .u8 c.d, .int .u8 c.e] 26) (.cells #[.int .i64 2, .int .i64 n, .int .u8 x] 30) (.cells #[.int .u8 0, .int .u8 0, .int .u8 0, .int .i64 0, .int .i64 0, .bool false, .bool false, .int .u8 0, .int .u8 0, .int .u8 0, .int .u8 0, .int .u8 0] 26)
  have B0 := Lib.hid (vian HN.out BB.out Q_)
  have R0 := Lib.hid (show Has (((w.alloc (.cells #[.int .u8 c.s, .int .u8 c.m, .int .u8 c.h, .int .i64 c.day, .int .i64 c.sub, .bool c.halt, .bool c.carry, .int .u8 c.a, .int .u8 c.b, .int .u8 c.c, .int .u8 c.d, .int .u8 c.e] 26)).alloc (.cells #[.int .i64 2, .int .i64 n, .int .u8 x] 30)).alloc (.cells #[.int .u8 0, .int .u8 0, .int .u8 0, .int .i64 0, .int .i64 0, .bool false, .bool false, .int .u8 0, .int .u8 0, .int .u8 0, .int .u8 0, .int .u8 0] 26)) (w.heap.size + 2) #[.int .u8 0, .int .u8 0, .int .u8 0, .int .i64 0, .int .i64 0, .bool false, .bool false, .int .u8 0, .int .u8 0, .int .u8 0, .int .u8 0, .int .u8 0] by simpa using Has.new ((w.alloc (.cells #[.int .u8 c.s, .int .u8 c.m, .int .u8 c.h, .int .i64 c.day, .int .i64 c.sub, .bool c.halt, .bool c.carry, .int .u8 c.a, .int .u8 c.b, .int .u8 c.c, .int .u8 c.d, .int .u8 c.e] 26)).alloc (.cells #[.int .i64 2, .int .i64 n, .int .u8 x] 30)) #[.int .u8 0, .int .u8 0, .int .u8 0, .int .i64 0, .int .i64 0, .bool false, .bool false, .int .u8 0, .int .u8 0, .int .u8 0, .int .u8 0, .int .u8 0] 26)
  have P0 := Lib.hid (((Has.new w #[.int .u8 c.s, .int .u8 c.m, .int .u8 c.h, .int .i64 c.day, .int .i64 c.sub, .bool c.halt, .bool c.carry, .int .u8 c.a, .int .u8 c.b, .int .u8 c.c, .int .u8 c.d, .int .u8 c.e] 26).alloc (.cells #[.int .i64 2, .int .i64 n, .int .u8 x] 30)).alloc (.cells #[.int .u8 0, .int .u8 0, .int .u8 0, .int .i64 0, .int .i64 0, .bool false, .bool false, .int .u8 0, .int .u8 0, .int .u8 0, .int .u8 0, .int .u8 0] 26))
  have O0 := Lib.hid (show Has (((w.alloc (.cells #[.int .u8 c.s, .int .u8 c.m, .int .u8 c.h, .int .i64 c.day, .int .i64 c.sub, .bool c.halt, .bool c.carry, .int .u8 c.a, .int .u8 c.b, .int .u8 c.c, .int .u8 c.d, .int .u8 c.e] 26)).alloc (.cells #[.int .i64 2, .int .i64 n, .int .u8 x] 30)).alloc (.cells #[.int .u8 0, .int .u8 0, .int .u8 0, .int .i64 0, .int .i64 0, .bool false, .bool false, .int .u8 0, .int .u8 0, .int .u8 0, .int .u8 0, .int .u8 0] 26)) (w.heap.size + 1) #[.int .i64 2, .int .i64 n, .int .u8 x] by simpa using (Has.new (w.alloc (.cells #[.int .u8 c.s, .int .u8 c.m, .int .u8 c.h, .int .i64 c.day, .int .i64 c.sub, .bool c.halt, .bool c.carry, .int .u8 c.a, .int .u8 c.b, .int .u8 c.c, .int .u8 c.d, .int .u8 c.e] 26)) #[.int .i64 2, .int .i64 n, .int .u8 x] 30).alloc (.cells #[.int .u8 0, .int .u8 0, .int .u8 0, .int .i64 0, .int .i64 0, .bool false, .bool false, .int .u8 0, .int .u8 0, .int .u8 0, .int .u8 0, .int .u8 0] 26))
  have LR := Lib.hid (show n_ ≤ w.heap.size + 2 from Nat.le_add_right_of_le (Nat.le_trans HN.out BB.out.size))
  clear Q_
  go_upto_region 1 with (fail)
  generalize ((w.alloc (.cells #[.int .u8 c.s, .int .u8 c.m, .int .u8 c.h, .int .i64 c.day, .int .i64 c.sub, .bool c.halt, .bool c.carry, .int .u8 c.a, .int .u8 c.b, .int .u8 c.c, .int .u8 c.d, .int .u8 c.e] 26)).alloc (.cells #[.int .i64 2, .int .i64 n, .int .u8 x] 30)).alloc (.cells #[.int .u8 0, .int .u8 0, .int .u8 0, .int .i64 0, .int .i64 0, .bool false, .bool false, .int .u8 0, .int .u8 0, .int .u8 0, .int .u8 0, .int .u8 0] 26) = w0 at B0 P0 R0 O0 ⊢
  generalize w.heap.size + 2 = rb at R0 LR ⊢
  generalize w.heap.size + 1 = ob at O0 ⊢
  generalize w.heap.size = pb at P0 ⊢
  obtain ⟨hc, hf⟩ := P0.out.out
  obtain ⟨ho, hof⟩ := O0.out.out
  go_wp2_with fail
  with_reducible refine (H1.out _).mono ?_
  rintro q_ w1 ⟨rfl, hb⟩
  clear hc hf ho hof
  have B1 := Lib.hid (vian HN.out B0.out hb)
  have R1 := Lib.hid (R0.out.below hb)
  clear hb
  obtain ⟨hc2, hf2⟩ := R1.out.out
  go_wp2
  refine bodyPost_ret (v := .agg #[.int .u8 R.s, .int .u8 R.m, .int .u8 R.h, .int .i64 R.day, .int .i64 R.sub, .bool R.halt, .bool R.carry, .int .u8 R.a, .int .u8 R.b, .int .u8 R.c, .int .u8 R.d, .int .u8 R.e]) ?_ rfl ⟨rfl, ?_⟩
  · simp [results, Try.results10, go_sem, hc2]
  · exact set12 B1.out rb LR.out _ _ _ _ _ _ _ _ _ _ _ _
set_option maxHeartbeats 2000000 in
theorem do_3 (c R : CV) (n x : Int) (C1 : ∀ W, Calls Try.prog 16 #[.agg #[.int .u8 c.s, .int .u8 c.m, .int .u8 c.h, .int .i64 c.day, .int .i64 c.sub, .bool c.halt, .bool c.carry, .int .u8 c.a, .int .u8 c.b, .int .u8 c.c, .int .u8 c.d, .int .u8 c.e]] W fun q_ w' => q_ = .returned (.agg #[.int .u8 R.s, .int .u8 R.m, .int .u8 R.h, .int .i64 R.day, .int .i64 R.sub, .bool R.halt, .bool R.carry, .int .u8 R.a, .int .u8 R.b, .int .u8 R.c, .int .u8 R.d, .int .u8 R.e]) ∧ Below W.heap.size W w') (w : World) : Calls Try.prog 10 #[.agg #[.int .u8 c.s, .int .u8 c.m, .int .u8 c.h, .int .i64 c.day, .int .i64 c.sub, .bool c.halt, .bool c.carry, .int .u8 c.a, .int .u8 c.b, .int .u8 c.c, .int .u8 c.d, .int .u8 c.e], .agg #[.int .i64 3, .int .i64 n, .int .u8 x]] w fun q_ w' => q_ = .returned (.agg #[.int .u8 R.s, .int .u8 R.m, .int .u8 R.h, .int .i64 R.day, .int .i64 R.sub, .bool R.halt, .bool R.carry, .int .u8 R.a, .int .u8 R.b, .int .u8 R.c, .int .u8 R.d, .int .u8 R.e]) ∧ Below w.heap.size w w' := by
  suffices hall : ∀ (n_ : Nat) (W0 : World), n_ ≤ W0.heap.size → Below n_ W0 w → Calls Try.prog 10 #[.agg #[.int .u8 c.s, .int .u8 c.m, .int .u8 c.h, .int .i64 c.day, .int .i64 c.sub, .bool c.halt, .bool c.carry, .int .u8 c.a, .int .u8 c.b, .int .u8 c.c, .int .u8 c.d, .int .u8 c.e], .agg #[.int .i64 3, .int .i64 n, .int .u8 x]] w fun q_ w' => q_ = .returned (.agg #[.int .u8 R.s, .int .u8 R.m, .int .u8 R.h, .int .i64 R.day, .int .i64 R.sub, .bool R.halt, .bool R.carry, .int .u8 R.a, .int .u8 R.b, .int .u8 R.c, .int .u8 R.d, .int .u8 R.e]) ∧ Below n_ W0 w' from hall _ _ (Nat.le_refl _) (Below.refl _ _)
  intro n_ W0 hn hB
  have HN := Lib.hid hn
  have BB := Lib.hid hB
  clear hn hB
  have H1 := Lib.hid C1
  clear C1
  go_enter Try.func10, Try.ntmps10
  have Q_ := own3 w (.cells #[.int .u8 c.s, .int .u8 c.m, .int .u8 c.h, .int .i64 c.day, .int .i64 c.sub, .bool c.halt, .bool c.carry, .int .u8 c.a, .int .u8 c.b, .int .u8 c.c, .int .u8 c.d, .int .u8 c.e] 26) (.cells #[.int .i64 3, .int .i64 n, .int .u8 x] 30) (.cells #[.int .u8 0, .int .u8 0, .int .u8 0, .int .i64 0, .int .i64 0, .bool false, .bool false, .int .u8 0, .int .u8 0, .int .u8 0, .int .u8 0, .int .u8 0] 26)
  have B0 := Lib.hid (vian HN.out BB.out Q_)
  have R0 := Lib.hid (show Has (((w.alloc (.cells #[.int .u8 c.s, .int .u8 c.m, .int .u8 c.h, .int .i64 c.day, .int .i64 c.sub, .bool c.halt, .bool c.carry, .int .u8 c.a, .int .u8 c.b, .int .u8 c.c, .int .u8 c.d, .int .u8 c.e] 26)).alloc (.cells #[.int .i64 3, .int .i64 n, .int .u8 x] 30)).alloc (.cells #[.int .u8 0, .int .u8 0, .int .u8 0, .int .i64 0, .int .i64 0, .bool false, .bool false, .int .u8 0, .int .u8 0, .int .u8 0, .int .u8 0, .int .u8 0] 26)) (w.heap.size + 2) #[.int .u8 0, .int .u8 0, .int .u8 0, .int .i64 0, .int .i64 0, .bool false, .bool false, .int .u8 0, .int .u8 0, .int .u8 0, .int .u8 0, .int .u8 0] by simpa using Has.new ((w.alloc (.cells #[.int .u8 c.s, .int .u8 c.m, .int .u8 c.h, .int .i64 c.day, .int .i64 c.sub, .bool c.halt, .bool c.carry, .int .u8 c.a, .int .u8 c.b, .int .u8 c.c, .int .u8 c.d, .int .u8 c.e] 26)).alloc (.cells #[.int .i64 3, .int .i64 n, .int .u8 x] 30)) #[.int .u8 0, .int .u8 0, .int .u8 0, .int .i64 0, .int .i64 0, .bool false, .bool false, .int .u8 0, .int .u8 0, .int .u8 0, .int .u8 0, .int .u8 0] 26)
  have P0 := Lib.hid (((Has.new w #[.int .u8 c.s, .int .u8 c.m, .int .u8 c.h, .int .i64 c.day, .int .i64 c.sub, .bool c.halt, .bool c.carry, .int .u8 c.a, .int .u8 c.b, .int .u8 c.c, .int .u8 c.d, .int .u8 c.e] 26).alloc (.cells #[.int .i64 3, .int .i64 n, .int .u8 x] 30)).alloc (.cells #[.int .u8 0, .int .u8 0, .int .u8 0, .int .i64 0, .int .i64 0, .bool false, .bool false, .int .u8 0, .int .u8 0, .int .u8 0, .int .u8 0, .int .u8 0] 26))
  have O0 := Lib.hid (show Has (((w.alloc (.cells #[.int .u8 c.s, .int .u8 c.m, .int .u8 c.h, .int .i64 c.day, .int .i64 c.sub, .bool c.halt, .bool c.carry, .int .u8 c.a, .int .u8 c.b, .int .u8 c.c, .int .u8 c.d, .int .u8 c.e] 26)).alloc (.cells #[.int .i64 3, .int .i64 n, .int .u8 x] 30)).alloc (.cells #[.int .u8 0, .int .u8 0, .int .u8 0, .int .i64 0, .int .i64 0, .bool false, .bool false, .int .u8 0, .int .u8 0, .int .u8 0, .int .u8 0, .int .u8 0] 26)) (w.heap.size + 1) #[.int .i64 3, .int .i64 n, .int .u8 x] by simpa using (Has.new (w.alloc (.cells #[.int .u8 c.s, .int .u8 c.m, .int .u8 c.h, .int .i64 c.day, .int .i64 c.sub, .bool c.halt, .bool c.carry, .int .u8 c.a, .int .u8 c.b, .int .u8 c.c, .int .u8 c.d, .int .u8 c.e] 26)) #[.int .i64 3, .int .i64 n, .int .u8 x] 30).alloc (.cells #[.int .u8 0, .int .u8 0, .int .u8 0, .int .i64 0, .int .i64 0, .bool false, .bool false, .int .u8 0, .int .u8 0, .int .u8 0, .int .u8 0, .int .u8 0] 26))
  have LR := Lib.hid (show n_ ≤ w.heap.size + 2 from Nat.le_add_right_of_le (Nat.le_trans HN.out BB.out.size))
  clear Q_
  go_upto_region 1 with (fail)
  generalize ((w.alloc (.cells #[.int .u8 c.s, .int .u8 c.m, .int .u8 c.h, .int .i64 c.day, .int .i64 c.sub, .bool c.halt, .bool c.carry, .int .u8 c.a, .int .u8 c.b, .int .u8 c.c, .int .u8 c.d, .int .u8 c.e] 26)).alloc (.cells #[.int .i64 3, .int .i64 n, .int .u8 x] 30)).alloc (.cells #[.int .u8 0, .int .u8 0, .int .u8 0, .int .i64 0, .int .i64 0, .bool false, .bool false, .int .u8 0, .int .u8 0, .int .u8 0, .int .u8 0, .int .u8 0] 26) = w0 at B0 P0 R0 O0 ⊢
  generalize w.heap.size + 2 = rb at R0 LR ⊢
  generalize w.heap.size + 1 = ob at O0 ⊢
  generalize w.heap.size = pb at P0 ⊢
  obtain ⟨hc, hf⟩ := P0.out.out
  obtain ⟨ho, hof⟩ := O0.out.out
  go_wp2_with fail
  with_reducible refine (H1.out _).mono ?_
  rintro q_ w1 ⟨rfl, hb⟩
  clear hc hf ho hof
  have B1 := Lib.hid (vian HN.out B0.out hb)
  have R1 := Lib.hid (R0.out.below hb)
  clear hb
  obtain ⟨hc2, hf2⟩ := R1.out.out
  go_wp2
  refine bodyPost_ret (v := .agg #[.int .u8 R.s, .int .u8 R.m, .int .u8 R.h, .int .i64 R.day, .int .i64 R.sub, .bool R.halt, .bool R.carry, .int .u8 R.a, .int .u8 R.b, .int .u8 R.c, .int .u8 R.d, .int .u8 R.e]) ?_ rfl ⟨rfl, ?_⟩
  · simp [results, Try.results10, go_sem, hc2]
  · exact set12 B1.out rb LR.out _ _ _ _ _ _ _ _ _ _ _ _
set_option maxHeartbeats 2000000 in
theorem do_0 (c : CV) (k n x : Int) (g1 : ¬ k = 1) (g2 : ¬ k = 2) (g3 : ¬ k = 3) (w : World) : Calls Try.prog 10 #[.agg #[.int .u8 c.s, .int .u8 c.m, .int .u8 c.h, .int .i64 c.day, .int .i64 c.sub, .bool c.halt, .bool c.carry, .int .u8 c.a, .int .u8 c.b, .int .u8 c.c, .int .u8 c.d, .int .u8 c.e], .agg #[.int .i64 k, .int .i64 n, .int .u8 x]] w fun q_ w' => q_ = .returned (.agg #[.int .u8 c.s, .int .u8 c.m, .int .u8 c.h, .int .i64 c.day, .int .i64 c.sub, .bool c.halt, .bool c.carry, .int .u8 c.a, .int .u8 c.b, .int .u8 c.c, .int .u8 c.d, .int .u8 c.e]) ∧ Below w.heap.size w w' := by
  suffices hall : ∀ (n_ : Nat) (W0 : World), n_ ≤ W0.heap.size → Below n_ W0 w → Calls Try.prog 10 #[.agg #[.int .u8 c.s, .int .u8 c.m, .int .u8 c.h, .int .i64 c.day, .int .i64 c.sub, .bool c.halt, .bool c.carry, .int .u8 c.a, .int .u8 c.b, .int .u8 c.c, .int .u8 c.d, .int .u8 c.e], .agg #[.int .i64 k, .int .i64 n, .int .u8 x]] w fun q_ w' => q_ = .returned (.agg #[.int .u8 c.s, .int .u8 c.m, .int .u8 c.h, .int .i64 c.day, .int .i64 c.sub, .bool c.halt, .bool c.carry, .int .u8 c.a, .int .u8 c.b, .int .u8 c.c, .int .u8 c.d, .int .u8 c.e]) ∧ Below n_ W0 w' from hall _ _ (Nat.le_refl _) (Below.refl _ _)
  intro n_ W0 hn hB
  have HN := Lib.hid hn
  have BB := Lib.hid hB
  clear hn hB
  go_enter Try.func10, Try.ntmps10
  go_wp2
  exact bodyPost_ret (v := .agg #[.int .u8 c.s, .int .u8 c.m, .int .u8 c.h, .int .i64 c.day, .int .i64 c.sub, .bool c.halt, .bool c.carry, .int .u8 c.a, .int .u8 c.b, .int .u8 c.c, .int .u8 c.d, .int .u8 c.e]) (by simp [results, Try.results10, go_sem]) rfl ⟨rfl, vian HN.out BB.out (own3 _ _ _ _)⟩
theorem do_c (c R : CV) (k n x : Int) (hc : c.ok) (hx : 0 ≤ x) (hx2 : x < 256) (hR : doV c k n x = R) (w : World) : Calls Try.prog 10 #[.agg #[.int .u8 c.s, .int .u8 c.m, .int .u8 c.h, .int .i64 c.day, .int .i64 c.sub, .bool c.halt, .bool c.carry, .int .u8 c.a, .int .u8 c.b, .int .u8 c.c, .int .u8 c.d, .int .u8 c.e], .agg #[.int .i64 k, .int .i64 n, .int .u8 x]] w fun e w' => e = .returned (.agg #[.int .u8 R.s, .int .u8 R.m, .int .u8 R.h, .int .i64 R.day, .int .i64 R.sub, .bool R.halt, .bool R.carry, .int .u8 R.a, .int .u8 R.b, .int .u8 R.c, .int .u8 R.d, .int .u8 R.e]) ∧ Below w.heap.size w w' := by
  unfold doV at hR
  by_cases a1 : k = 1
  · rw [if_pos a1] at hR; subst a1
    exact do_1 c R n x (fun W => tick_c c R n hc hR W) w
  rw [if_neg a1] at hR
  by_cases a2 : k = 2
  · rw [if_pos a2] at hR; subst a2
    exact do_2 c R n x (fun W => write_c c R n x hc hx hx2 hR W) w
  rw [if_neg a2] at hR
  by_cases a3 : k = 3
  · rw [if_pos a3] at hR; subst a3
    exact do_3 c R n x (fun W => hold_c c R hc hR W) w
  rw [if_neg a3] at hR
  subst hR
  exact do_0 c k n x a1 a2 a3 w
set_option maxHeartbeats 2000000 in
theorem doc_1 (c R : CV) (n x : Int) (C1 : ∀ W, Calls Try.prog 17 #[.agg #[.int .u8 c.s, .int .u8 c.m, .int .u8 c.h, .int .i64 c.day, .int .i64 c.sub, .bool c.halt, .bool c.carry, .int .u8 c.a, .int .u8 c.b, .int .u8 c.c, .int .u8 c.d, .int .u8 c.e], .int .i64 n] W fun q_ w' => q_ = .returned (.agg #[.int .u8 R.s, .int .u8 R.m, .int .u8 R.h, .int .i64 R.day, .int .i64 R.sub, .bool R.halt, .bool R.carry, .int .u8 R.a, .int .u8 R.b, .int .u8 R.c, .int .u8 R.d, .int .u8 R.e]) ∧ Below W.heap.size W w') (w : World) : Calls Try.prog 11 #[.agg #[.int .u8 c.s, .int .u8 c.m, .int .u8 c.h, .int .i64 c.day, .int .i64 c.sub, .bool c.halt, .bool c.carry, .int .u8 c.a, .int .u8 c.b, .int .u8 c.c, .int .u8 c.d, .int .u8 c.e], .agg #[.int .i64 1, .int .i64 n, .int .u8 x]] w fun q_ w' => q_ = .returned (.agg #[.int .u8 R.s, .int .u8 R.m, .int .u8 R.h, .int .i64 R.day, .int .i64 R.sub, .bool R.halt, .bool R.carry, .int .u8 R.a, .int .u8 R.b, .int .u8 R.c, .int .u8 R.d, .int .u8 R.e]) ∧ Below w.heap.size w w' := by
  suffices hall : ∀ (n_ : Nat) (W0 : World), n_ ≤ W0.heap.size → Below n_ W0 w → Calls Try.prog 11 #[.agg #[.int .u8 c.s, .int .u8 c.m, .int .u8 c.h, .int .i64 c.day, .int .i64 c.sub, .bool c.halt, .bool c.carry, .int .u8 c.a, .int .u8 c.b, .int .u8 c.c, .int .u8 c.d, .int .u8 c.e], .agg #[.int .i64 1, .int .i64 n, .int .u8 x]] w fun q_ w' => q_ = .returned (.agg #[.int .u8 R.s, .int .u8 R.m, .int .u8 R.h, .int .i64 R.day, .int .i64 R.sub, .bool R.halt, .bool R.carry, .int .u8 R.a, .int .u8 R.b, .int .u8 R.c, .int .u8 R.d, .int .u8 R.e]) ∧ Below n_ W0 w' from hall _ _ (Nat.le_refl _) (Below.refl _ _)
  intro n_ W0 hn hB
  have HN := Lib.hid hn
  have BB := Lib.hid hB
  clear hn hB
  have H1 := Lib.hid C1
  clear C1
  go_enter Try.func11, Try.ntmps11
  have Q_ := own3 w (.cells #[.int .u8 c.s, .int .u8 c.m, .int .u8 c.h, .int .i64 c.day, .int .i64 c.sub, .bool c.halt, .bool c.carry, .int .u8 c.a, .int .u8 c.b, .int .u8 c.c, .int .u8 c.d, .int .u8 c.e] 27) (.cells #[.int .i64 1, .int .i64 n, .int .u8 x] 30) (.cells #[.int .u8 0, .int .u8 0, .int .u8 0, .int .i64 0, .int .i64 0, .bool false, .bool false, .int .u8 0, .int .u8 0, .int .u8 0, .int .u8 0, .int .u8 0] 27)
  have B0 := Lib.hid (vian HN.out BB.out Q_)
  have R0 := Lib.hid (show Has (((w.alloc (.cells #[.int .u8 c.s, .int .u8 c.m, .int .u8 c.h, .int .i64 c.day, .int .i64 c.sub, .bool c.halt, .bool c.carry, .int .u8 c.a, .int .u8 c.b, .int .u8 c.c, .int .u8 c.d, .int .u8 c.e] 27)).alloc (.cells #[.int .i64 1, .int .i64 n, .int .u8 x] 30)).alloc (.cells #[.int .u8 0, .int .u8 0, .int .u8 0, .int .i64 0, .int .i64 0, .bool false, .bool false, .int .u8 0, .int .u8 0, .int .u8 0, .int .u8 0, .int .u8 0] 27)) (w.heap.size + 2) #[.int .u8 0, .int .u8 0, .int .u8 0, .int .i64 0, .int .i64 0, .bool false, .bool false, .int .u8 0, .int .u8 0, .int .u8 0, .int .u8 0, .int .u8 0] by simpa using Has.new ((w.alloc (.cells #[.int .u8 c.s, .int .u8 c.m, .int .u8 c.h, .int .i64 c.day, .int .i64 c.sub, .bool c.halt, .bool c.carry, .int .u8 c.a, .int .u8 c.b, .int .u8 c.c, .int .u8 c.d, .int .u8 c.e] 27)).alloc (.cells #[.int .i64 1, .int .i64 n, .int .u8 x] 30)) #[.int .u8 0, .int .u8 0, .int .u8 0, .int .i64 0, .int .i64 0, .bool false, .bool false, .int .u8 0, .int .u8 0, .int .u8 0, .int .u8 0, .int .u8 0] 27)
  have P0 := Lib.hid (((Has.new w #[.int .u8 c.s, .int .u8 c.m, .int .u8 c.h, .int .i64 c.day, .int .i64 c.sub, .bool c.halt, .bool c.carry, .int .u8 c.a, .int .u8 c.b, .int .u8 c.c, .int .u8 c.d, .int .u8 c.e] 27).alloc (.cells #[.int .i64 1, .int .i64 n, .int .u8 x] 30)).alloc (.cells #[.int .u8 0, .int .u8 0, .int .u8 0, .int .i64 0, .int .i64 0, .bool false, .bool false, .int .u8 0, .int .u8 0, .int .u8 0, .int .u8 0, .int .u8 0] 27))
  have O0 := Lib.hid (show Has (((w.alloc (.cells #[.int .u8 c.s, .int .u8 c.m, .int .u8 c.h, .int .i64 c.day, .int .i64 c.sub, .bool c.halt, .bool c.carry, .int .u8 c.a, .int .u8 c.b, .int .u8 c.c, .int .u8 c.d, .int .u8 c.e] 27)).alloc (.cells #[.int .i64 1, .int .i64 n, .int .u8 x] 30)).alloc (.cells #[.int .u8 0, .int .u8 0, .int .u8 0, .int .i64 0, .int .i64 0, .bool false, .bool false, .int .u8 0, .int .u8 0, .int .u8 0, .int .u8 0, .int .u8 0] 27)) (w.heap.size + 1) #[.int .i64 1, .int .i64 n, .int .u8 x] by simpa using (Has.new (w.alloc (.cells #[.int .u8 c.s, .int .u8 c.m, .int .u8 c.h, .int .i64 c.day, .int .i64 c.sub, .bool c.halt, .bool c.carry, .int .u8 c.a, .int .u8 c.b, .int .u8 c.c, .int .u8 c.d, .int .u8 c.e] 27)) #[.int .i64 1, .int .i64 n, .int .u8 x] 30).alloc (.cells #[.int .u8 0, .int .u8 0, .int .u8 0, .int .i64 0, .int .i64 0, .bool false, .bool false, .int .u8 0, .int .u8 0, .int .u8 0, .int .u8 0, .int .u8 0] 27))
  have LR := Lib.hid (show n_ ≤ w.heap.size + 2 from Nat.le_add_right_of_le (Nat.le_trans HN.out BB.out.size))
  clear Q_
  go_upto_region 1 with (fail)
  generalize ((w.alloc (.cells #[.int .u8 c.s, .int .u8 c.m, .int .u8 c.h, .int .i64 c.day, .int .i64 c.sub, .bool c.halt, .bool c.carry, .int .u8 c.a, .int .u8 c.b, .int .u8 c.c, .int .u8 c.d, .int .u8 c.e] 27)).alloc (.cells #[.int .i64 1, .int .i64 n, .int .u8 x] 30)).alloc (.cells #[.int .u8 0, .int .u8 0, .int .u8 0, .int .i64 0, .int .i64 0, .bool false, .bool false, .int .u8 0, .int .u8 0, .int .u8 0, .int .u8 0, .int .u8 0] 27) = w0 at B0 P0 R0 O0 ⊢
  generalize w.heap.size + 2 = rb at R0 LR ⊢
  generalize w.heap.size + 1 = ob at O0 ⊢
  generalize w.heap.size = pb at P0 ⊢
  obtain ⟨hc, hf⟩ := P0.out.out
  obtain ⟨ho, hof⟩ := O0.out.out
  go_wp2_with fail
  with_reducible refine (H1.out _).mono ?_
  rintro q_ w1 ⟨rfl, hb⟩
  clear hc hf ho hof
  have B1 := Lib.hid (vian HN.out B0.out hb)
  have R1 := Lib.hid (R0.out.below hb)
  clear hb
  obtain ⟨hc2, hf2⟩ := R1.out.out
  go_wp2
  refine bodyPost_ret (v := .agg #[.int .u8 R.s, .int .u8 R.m, .int .u8 R.h, .int .i64 R.day, .int .i64 R.sub, .bool R.halt, .bool R.carry, .int .u8 R.a, .int .u8 R.b, .int .u8 R.c, .int .u8 R.d, .int .u8 R.e]) ?_ rfl ⟨rfl, ?_⟩
  · simp [results, Try.results11, go_sem, hc2]
  · exact set12 B1.out rb LR.out _ _ _ _ _ _ _ _ _ _ _ _
set_option maxHeartbeats 2000000 in
theorem doc_2 (c R : CV) (n x : Int) (C1 : ∀ W, Calls Try.prog 18 #[.agg #[.int .u8 c.s, .int .u8 c.m, .int .u8 c.h, .int .i64 c.day, .int .i64 c.sub, .bool c.halt, .bool c.carry, .int .u8 c.a, .int .u8 c.b, .int .u8 c.c, .int .u8 c.d, .int .u8 c.e], .int .i64 n, .int .u8 x] W fun q_ w' => q_ = .returned (.agg #[.int .u8 R.s, .int .u8 R.m, .int .u8 R.h, .int .i64 R.day, .int .i64 R.sub, .bool R.halt, .bool R.carry, .int .u8 R.a, .int .u8 R.b, .int .u8 R.c, .int .u8 R.d, .int .u8 R.e]) ∧ Below W.heap.size W w') (w : World) : Calls Try.prog 11 #[.agg #[.int .u8 c.s, .int .u8 c.m, .int .u8 c.h, .int .i64 c.day, .int .i64 c.sub, .bool c.halt, .bool c.carry, .int .u8 c.a, .int .u8 c.b, .int .u8 c.c, .int .u8 c.d, .int .u8 c.e], .agg #[.int .i64 2, .int .i64 n, .int .u8 x]] w fun q_ w' => q_ = .returned (.agg #[.int .u8 R.s, .int .u8 R.m, .int .u8 R.h, .int .i64 R.day, .int .i64 R.sub, .bool R.halt, .bool R.carry, .int .u8 R.a, .int .u8 R.b, .int .u8 R.c, .int .u8 R.d, .int .u8 R.e]) ∧ Below w.heap.size w w' := by
  suffices hall : ∀ (n_ : Nat) (W0 : World), n_ ≤ W0.heap.size → Below n_ W0 w → Calls Try.prog 11 #[.agg #[.int .u8 c.s, .int .u8 c.m, .int .u8 c.h, .int .i64 c.day, .int .i64 c.sub, .bool c.halt, .bool c.carry, .int .u8 c.a, .int .u8 c.b, .int .u8 c.c, .int .u8 c.d, .int .u8 c.e], .agg #[.int .i64 2, .int .i64 n, .int .u8 x]] w fun q_ w' => q_ = .returned (.agg #[.int .u8 R.s, .int .u8 R.m, .int .u8 R.h, .int .i64 R.day, .int .i64 R.sub, .bool R.halt, .bool R.carry, .int .u8 R.a, .int .u8 R.b, .int .u8 R.c, .int .u8 R.d, .int .u8 R.e]) ∧ Below n_ W0 w' from hall _ _ (Nat.le_refl _) (Below.refl _ _)
  intro n_ W0 hn hB
  have HN := Lib.hid hn
  have BB := Lib.hid hB
  clear hn hB
  have H1 := Lib.hid C1
  clear C1
  go_enter Try.func11, Try.ntmps11
  have Q_ := own3 w (.cells #[.int .u8 c.s, .int .u8 c.m, .int .u8 c.h, .int .i64 c.day, .int .i64 c.sub, .bool c.halt, .bool c.carry, .int .u8 c.a, .int .u8 c.b, .int .u8 c.c, .int .u8 c.d, .int .u8 c.e] 27) (.cells #[.int .i64 2, .int .i64 n, .int .u8 x] 30) (.cells #[.int .u8 0, .int .u8 0, .int .u8 0, .int .i64 0, .int .i64 0, .bool false, .bool false, .int .u8 0, .int .u8 0, .int .u8 0, .int .u8 0, .int .u8 0] 27)
  have B0 := Lib.hid (vian HN.out BB.out Q_)
  have R0 := Lib.hid (show Has (((w.alloc (.cells #[.int .u8 c.s, .int .u8 c.m, .int .u8 c.h, .int .i64 c.day, .int .i64 c.sub, .bool c.halt, .bool c.carry, .int .u8 c.a, .int .u8 c.b, .int .u8 c.c, .int .u8 c.d, .int .u8 c.e] 27)).alloc (.cells #[.int .i64 2, .int .i64 n, .int .u8 x] 30)).alloc (.cells #[.int .u8 0, .int .u8 0, .int .u8 0, .int .i64 0, .int .i64 0, .bool false, .bool false, .int .u8 0, .int .u8 0, .int .u8 0, .int .u8 0, .int .u8 0] 27)) (w.heap.size + 2) #[.int .u8 0, .int .u8 0, .int .u8 0, .int .i64 0, .int .i64 0, .bool false, .bool false, .int .u8 0, .int .u8 0, .int .u8 0, .int .u8 0, .int .u8 0] by simpa using Has.new ((w.alloc (.cells #[.int .u8 c.s, .int .u8 c.m, .int .u8 c.h, .int .i64 c.day, .int .i64 c.sub, .bool c.halt, .bool c.carry, .int .u8 c.a, .int .u8 c.b, .int .u8 c.c, .int .u8 c.d, .int .u8 c.e] 27)).alloc (.cells #[.int .i64 2, .int .i64 n, .int .u8 x] 30)) #[.int .u8 0, .int .u8 0, .int .u8 0, .int .i64 0, .int .i64 0, .bool false, .bool false, .int .u8 0, .int .u8 0, .int .u8 0, .int .u8 0, .int .u8 0] 27)
  have P0 := Lib.hid (((Has.new w #[.int .u8 c.s, .int .u8 c.m, .int .u8 c.h, .int .i64 c.day, .int .i64 c.sub, .bool c.halt, .bool c.carry, .int .u8 c.a, .int .u8 c.b, .int .u8 c.c, .int .u8 c.d, .int .u8 c.e] 27).alloc (.cells #[.int .i64 2, .int .i64 n, .int .u8 x] 30)).alloc (.cells #[.int .u8 0, .int .u8 0, .int .u8 0, .int .i64 0, .int .i64 0, .bool false, .bool false, .int .u8 0, .int .u8 0, .int .u8 0, .int .u8 0, .int .u8 0] 27))
  have O0 := Lib.hid (show Has (((w.alloc (.cells #[.int .u8 c.s, .int .u8 c.m, .int .u8 c.h, .int .i64 c.day, .int .i64 c.sub, .bool c.halt, .bool c.carry, .int .u8 c.a, .int .u8 c.b, .int .u8 c.c, .int .u8 c.d, .int .u8 c.e] 27)).alloc (.cells #[.int .i64 2, .int .i64 n, .int .u8 x] 30)).alloc (.cells #[.int .u8 0, .int .u8 0, .int .u8 0, .int .i64 0, .int .i64 0, .bool false, .bool false, .int .u8 0, .int .u8 0, .int .u8 0, .int .u8 0, .int .u8 0] 27)) (w.heap.size + 1) #[.int .i64 2, .int .i64 n, .int .u8 x] by simpa using (Has.new (w.alloc (.cells #[.int .u8 c.s, .int .u8 c.m, .int .u8 c.h, .int .i64 c.day, .int .i64 c.sub, .bool c.halt, .bool c.carry, .int .u8 c.a, .int .u8 c.b, .int .u8 c.c, .int .u8 c.d, .int .u8 c.e] 27)) #[.int .i64 2, .int .i64 n, .int .u8 x] 30).alloc (.cells #[.int .u8 0, .int .u8 0, .int .u8 0, .int .i64 0, .int .i64 0, .bool false, .bool false, .int .u8 0, .int .u8 0, .int .u8 0, .int .u8 0, .int .u8 0] 27))
  have LR := Lib.hid (show n_ ≤ w.heap.size + 2 from Nat.le_add_right_of_le (Nat.le_trans HN.out BB.out.size))
  clear Q_
  go_upto_region 1 with (fail)
  generalize ((w.alloc (.cells #[.int .u8 c.s, .int .u8 c.m, .int .u8 c.h, .int .i64 c.day, .int .i64 c.sub, .bool c.halt, .bool c.carry, .int .u8 c.a, .int .u8 c.b, .int .u8 c.c, .int .u8 c.d, .int .u8 c.e] 27)).alloc (.cells #[.int .i64 2, .int .i64 n, .int .u8 x] 30)).alloc (.cells #[.int .u8 0, .int .u8 0, .int .u8 0, .int .i64 0, .int .i64 0, .bool false, .bool false, .int .u8 0, .int .u8 0, .int .u8 0, .int .u8 0, .int .u8 0] 27) = w0 at B0 P0 R0 O0 ⊢
  generalize w.heap.size + 2 = rb at R0 LR ⊢
  generalize w.heap.size + 1 = ob at O0 ⊢
  generalize w.heap.size = pb at P0 ⊢
  obtain ⟨hc, hf⟩ := P0.out.out
  obtain ⟨ho, hof⟩ := O0.out.out
  go_wp2_with fail
  with_reducible refine (H1.out _).mono ?_
  rintro q_ w1 ⟨rfl, hb⟩
  clear hc hf ho hof
  have B1 := Lib.hid (vian HN.out B0.out hb)
  have R1 := Lib.hid (R0.out.below hb)
  clear hb
  obtain ⟨hc2, hf2⟩ := R1.out.out
  go_wp2
  refine bodyPost_ret (v := .agg #[.int .u8 R.s, .int .u8 R.m, .int .u8 R.h, .int .i64 R.day, .int .i64 R.sub, .bool R.halt, .bool R.carry, .int .u8 R.a, .int .u8 R.b, .int .u8 R.c, .int .u8 R.d, .int .u8 R.e]) ?_ rfl ⟨rfl, ?_⟩
  · simp [results, Try.results11, go_sem, hc2]
  · exact set12 B1.out rb LR.out _ _ _ _ _ _ _ _ _ _ _ _
set_option maxHeartbeats 2000000 in
theorem doc_3 (c R : CV) (n x : Int) (C1 : ∀ W, Calls Try.prog 19 #[.agg #[.int .u8 c.s, .int .u8 c.m, .int .u8 c.h, .int .i64 c.day, .int .i64 c.sub, .bool c.halt, .bool c.carry, .int .u8 c.a, .int .u8 c.b, .int .u8 c.c, .int .u8 c.d, .int .u8 c.e]] W fun q_ w' => q_ = .returned (.agg #[.int .u8 R.s, .int .u8 R.m, .int .u8 R.h, .int .i64 R.day, .int .i64 R.sub, .bool R.halt, .bool R.carry, .int .u8 R.a, .int .u8 R.b, .int .u8 R.c, .int .u8 R.d, .int .u8 R.e]) ∧ Below W.heap.size W w') (w : World) : Calls Try.prog 11 #[.agg #[.int .u8 c.s, .int .u8 c.m, .int .u8 c.h, .int .i64 c.day, .int .i64 c.sub, .bool c.halt, .bool c.carry, .int .u8 c.a, .int .u8 c.b, .int .u8 c.c, .int .u8 c.d, .int .u8 c.e], .agg #[.int .i64 3, .int .i64 n, .int .u8 x]] w fun q_ w' => q_ = .returned (.agg #[.int .u8 R.s, .int .u8 R.m, .int .u8 R.h, .int .i64 R.day, .int .i64 R.sub, .bool R.halt, .bool R.carry, .int .u8 R.a, .int .u8 R.b, .int .u8 R.c, .int .u8 R.d, .int .u8 R.e]) ∧ Below w.heap.size w w' := by
  suffices hall : ∀ (n_ : Nat) (W0 : World), n_ ≤ W0.heap.size → Below n_ W0 w → Calls Try.prog 11 #[.agg #[.int .u8 c.s, .int .u8 c.m, .int .u8 c.h, .int .i64 c.day, .int .i64 c.sub, .bool c.halt, .bool c.carry, .int .u8 c.a, .int .u8 c.b, .int .u8 c.c, .int .u8 c.d, .int .u8 c.e], .agg #[.int .i64 3, .int .i64 n, .int .u8 x]] w fun q_ w' => q_ = .returned (.agg #[.int .u8 R.s, .int .u8 R.m, .int .u8 R.h, .int .i64 R.day, .int .i64 R.sub, .bool R.halt, .bool R.carry, .int .u8 R.a, .int .u8 R.b, .int .u8 R.c, .int .u8 R.d, .int .u8 R.e]) ∧ Below n_ W0 w' from hall _ _ (Nat.le_refl _) (Below.refl _ _)
  intro n_ W0 hn hB
  have HN := Lib.hid hn
  have BB := Lib.hid hB
  clear hn hB
  have H1 := Lib.hid C1
  clear C1
  go_enter Try.func11, Try.ntmps11
  have Q_ := own3 w (.cells #[.int .u8 c.s, .int .u8 c.m, .int .u8 c.h, .int .i64 c.day, .int .i64 c.sub, .bool c.halt, .bool c.carry, .int .u8 c.a, .int .u8 c.b, .int .u8 c.c, .int .u8 c.d, .int .u8 c.e] 27) (.cells #[.int .i64 3, .int .i64 n, .int .u8 x] 30) (.cells #[.int .u8 0, .int .u8 0, .int .u8 0, .int .i64 0, .int .i64 0, .bool false, .bool false, .int .u8 0, .int .u8 0, .int .u8 0, .int .u8 0, .int .u8 0] 27)
  have B0 := Lib.hid (vian HN.out BB.out Q_)
  have R0 := Lib.hid (show Has (((w.alloc (.cells #[.int .u8 c.s, .int .u8 c.m, .int .u8 c.h, .int .i64 c.day, .int .i64 c.sub, .bool c.halt, .bool c.carry, .int .u8 c.a, .int .u8 c.b, .int .u8 c.c, .int .u8 c.d, .int .u8 c.e] 27)).alloc (.cells #[.int .i64 3, .int .i64 n, .int .u8 x] 30)).alloc (.cells #[.int .u8 0, .int .u8 0, .int .u8 0, .int .i64 0, .int .i64 0, .bool false, .bool false, .int .u8 0, .int .u8 0, .int .u8 0, .int .u8 0, .int .u8 0] 27)) (w.heap.size + 2) #[.int .u8 0, .int .u8 0, .int .u8 0, .int .i64 0, .int .i64 0, .bool false, .bool false, .int .u8 0, .int .u8 0, .int .u8 0, .int .u8 0, .int .u8 0] by simpa using Has.new ((w.alloc (.cells #[.int .u8 c.s, .int .u8 c.m, .int .u8 c.h, .int .i64 c.day, .int .i64 c.sub, .bool c.halt, .bool c.carry, .int .u8 c.a, .int .u8 c.b, .int .u8 c.c, .int .u8 c.d, .int .u8 c.e] 27)).alloc (.cells #[.int .i64 3, .int .i64 n, .int .u8 x] 30)) #[.int .u8 0, .int .u8 0, .int .u8 0, .int .i64 0, .int .i64 0, .bool false, .bool false, .int .u8 0, .int .u8 0, .int .u8 0, .int .u8 0, .int .u8 0] 27)
  have P0 := Lib.hid (((Has.new w #[.int .u8 c.s, .int .u8 c.m, .int .u8 c.h, .int .i64 c.day, .int .i64 c.sub, .bool c.halt, .bool c.carry, .int .u8 c.a, .int .u8 c.b, .int .u8 c.c, .int .u8 c.d, .int .u8 c.e] 27).alloc (.cells #[.int .i64 3, .int .i64 n, .int .u8 x] 30)).alloc (.cells #[.int .u8 0, .int .u8 0, .int .u8 0, .int .i64 0, .int .i64 0, .bool false, .bool false, .int .u8 0, .int .u8 0, .int .u8 0, .int .u8 0, .int .u8 0] 27))
  have O0 := Lib.hid (show Has (((w.alloc (.cells #[.int .u8 c.s, .int .u8 c.m, .int .u8 c.h, .int .i64 c.day, .int .i64 c.sub, .bool c.halt, .bool c.carry, .int .u8 c.a, .int .u8 c.b, .int .u8 c.c, .int .u8 c.d, .int .u8 c.e] 27)).alloc (.cells #[.int .i64 3, .int .i64 n, .int .u8 x] 30)).alloc (.cells #[.int .u8 0, .int .u8 0, .int .u8 0, .int .i64 0, .int .i64 0, .bool false, .bool false, .int .u8 0, .int .u8 0, .int .u8 0, .int .u8 0, .int .u8 0] 27)) (w.heap.size + 1) #[.int .i64 3, .int .i64 n, .int .u8 x] by simpa using (Has.new (w.alloc (.cells #[.int .u8 c.s, .int .u8 c.m, .int .u8 c.h, .int .i64 c.day, .int .i64 c.sub, .bool c.halt, .bool c.carry, .int .u8 c.a, .int .u8 c.b, .int .u8 c.c, .int .u8 c.d, .int .u8 c.e] 27)) #[.int .i64 3, .int .i64 n, .int .u8 x] 30).alloc (.cells #[.int .u8 0, .int .u8 0, .int .u8 0, .int .i64 0, .int .i64 0, .bool false, .bool false, .int .u8 0, .int .u8 0, .int .u8 0, .int .u8 0, .int .u8 0] 27))
  have LR := Lib.hid (show n_ ≤ w.heap.size + 2 from Nat.le_add_right_of_le (Nat.le_trans HN.out BB.out.size))
  clear Q_
  go_upto_region 1 with (fail)
  generalize ((w.alloc (.cells #[.int .u8 c.s, .int .u8 c.m, .int .u8 c.h, .int .i64 c.day, .int .i64 c.sub, .bool c.halt, .bool c.carry, .int .u8 c.a, .int .u8 c.b, .int .u8 c.c, .int .u8 c.d, .int .u8 c.e] 27)).alloc (.cells #[.int .i64 3, .int .i64 n, .int .u8 x] 30)).alloc (.cells #[.int .u8 0, .int .u8 0, .int .u8 0, .int .i64 0, .int .i64 0, .bool false, .bool false, .int .u8 0, .int .u8 0, .int .u8 0, .int .u8 0, .int .u8 0] 27) = w0 at B0 P0 R0 O0 ⊢
  generalize w.heap.size + 2 = rb at R0 LR ⊢
  generalize w.heap.size + 1 = ob at O0 ⊢
  generalize w.heap.size = pb at P0 ⊢
  obtain ⟨hc, hf⟩ := P0.out.out
  obtain ⟨ho, hof⟩ := O0.out.out
  go_wp2_with fail
  with_reducible refine (H1.out _).mono ?_
  rintro q_ w1 ⟨rfl, hb⟩
  clear hc hf ho hof
  have B1 := Lib.hid (vian HN.out B0.out hb)
  have R1 := Lib.hid (R0.out.below hb)
  clear hb
  obtain ⟨hc2, hf2⟩ := R1.out.out
  go_wp2
  refine bodyPost_ret (v := .agg #[.int .u8 R.s, .int .u8 R.m, .int .u8 R.h, .int .i64 R.day, .int .i64 R.sub, .bool R.halt, .bool R.carry, .int .u8 R.a, .int .u8 R.b, .int .u8 R.c, .int .u8 R.d, .int .u8 R.e]) ?_ rfl ⟨rfl, ?_⟩
  · simp [results, Try.results11, go_sem, hc2]
  · exact set12 B1.out rb LR.out _ _ _ _ _ _ _ _ _ _ _ _
set_option maxHeartbeats 2000000 in
theorem doc_0 (c : CV) (k n x : Int) (g1 : ¬ k = 1) (g2 : ¬ k = 2) (g3 : ¬ k = 3) (w : World) : Calls Try.prog 11 #[.agg #[.int .u8 c.s, .int .u8 c.m, .int .u8 c.h, .int .i64 c.day, .int .i64 c.sub, .bool c.halt, .bool c.carry, .int .u8 c.a, .int .u8 c.b, .int .u8 c.c, .int .u8 c.d, .int .u8 c.e], .agg #[.int .i64 k, .int .i64 n, .int .u8 x]] w fun q_ w' => q_ = .returned (.agg #[.int .u8 c.s, .int .u8 c.m, .int .u8 c.h, .int .i64 c.day, .int .i64 c.sub, .bool c.halt, .bool c.carry, .int .u8 c.a, .int .u8 c.b, .int .u8 c.c, .int .u8 c.d, .int .u8 c.e]) ∧ Below w.heap.size w w' := by
  suffices hall : ∀ (n_ : Nat) (W0 : World), n_ ≤ W0.heap.size → Below n_ W0 w → Calls Try.prog 11 #[.agg #[.int .u8 c.s, .int .u8 c.m, .int .u8 c.h, .int .i64 c.day, .int .i64 c.sub, .bool c.halt, .bool c.carry, .int .u8 c.a, .int .u8 c.b, .int .u8 c.c, .int .u8 c.d, .int .u8 c.e], .agg #[.int .i64 k, .int .i64 n, .int .u8 x]] w fun q_ w' => q_ = .returned (.agg #[.int .u8 c.s, .int .u8 c.m, .int .u8 c.h, .int .i64 c.day, .int .i64 c.sub, .bool c.halt, .bool c.carry, .int .u8 c.a, .int .u8 c.b, .int .u8 c.c, .int .u8 c.d, .int .u8 c.e]) ∧ Below n_ W0 w' from hall _ _ (Nat.le_refl _) (Below.refl _ _)
  intro n_ W0 hn hB
  have HN := Lib.hid hn
  have BB := Lib.hid hB
  clear hn hB
  go_enter Try.func11, Try.ntmps11
  go_wp2
  exact bodyPost_ret (v := .agg #[.int .u8 c.s, .int .u8 c.m, .int .u8 c.h, .int .i64 c.day, .int .i64 c.sub, .bool c.halt, .bool c.carry, .int .u8 c.a, .int .u8 c.b, .int .u8 c.c, .int .u8 c.d, .int .u8 c.e]) (by simp [results, Try.results11, go_sem]) rfl ⟨rfl, vian HN.out BB.out (own3 _ _ _ _)⟩
theorem doc_c (c R : CV) (k n x : Int) (hc : c.ok) (hx : 0 ≤ x) (hx2 : x < 256) (hR : doV c k n x = R) (w : World) : Calls Try.prog 11 #[.agg #[.int .u8 c.s, .int .u8 c.m, .int .u8 c.h, .int .i64 c.day, .int .i64 c.sub, .bool c.halt, .bool c.carry, .int .u8 c.a, .int .u8 c.b, .int .u8 c.c, .int .u8 c.d, .int .u8 c.e], .agg #[.int .i64 k, .int .i64 n, .int .u8 x]] w fun e w' => e = .returned (.agg #[.int .u8 R.s, .int .u8 R.m, .int .u8 R.h, .int .i64 R.day, .int .i64 R.sub, .bool R.halt, .bool R.carry, .int .u8 R.a, .int .u8 R.b, .int .u8 R.c, .int .u8 R.d, .int .u8 R.e]) ∧ Below w.heap.size w w' := by
  unfold doV at hR
  by_cases a1 : k = 1
  · rw [if_pos a1] at hR; subst a1
    exact doc_1 c R n x (fun W => rtick_c c R n hc hR W) w
  rw [if_neg a1] at hR
  by_cases a2 : k = 2
  · rw [if_pos a2] at hR; subst a2
    exact doc_2 c R n x (fun W => rwrite_c c R n x hc hx hx2 hR W) w
  rw [if_neg a2] at hR
  by_cases a3 : k = 3
  · rw [if_pos a3] at hR; subst a3
    exact doc_3 c R n x (fun W => rhold_c c R hc hR W) w
  rw [if_neg a3] at hR
  subst hR
  exact doc_0 c k n x a1 a2 a3 w
theorem eq_held (a b c d e : Int) (w : World) : (Op.equalIn 9999 24 (.agg #[.int .u8 a, .int .u8 b, .int .u8 c, .int .u8 d, .int .u8 e]) (.agg #[.int .u8 a, .int .u8 b, .int .u8 c, .int .u8 d, .int .u8 e])).run Try.prog w = .ok true w := by
  have u5 := Try.underlying5
  have a5 := Try.isAgg5
  have z5 := Try.sizeOf5
  rw [show (9999 : Nat) = 9998 + 1 from rfl, Op.equalIn]
  simp only [Sem.run_bind, run_underlying Try.underlying24, Result.andThen_ok]
  simp only [Std.Legacy.Range.forIn_eq_forIn_range', Std.Legacy.Range.size, Nat.sub_zero, Nat.add_sub_cancel, Nat.div_one, List.range'_succ, List.range'_zero, List.forIn_cons, List.forIn_nil]
  go_simp
theorem aw1 (w : World) : Calls Try.prog 14 #[.agg #[.int .u8 59, .int .u8 0, .int .u8 0, .int .i64 0, .int .i64 0, .bool false, .bool false, .int .u8 0, .int .u8 0, .int .u8 0, .int .u8 0, .int .u8 0], .int .i64 1048576] w fun e w' => e = .returned (.agg #[.int .u8 0, .int .u8 1, .int .u8 0, .int .i64 0, .int .i64 0, .bool false, .bool false, .int .u8 0, .int .u8 0, .int .u8 0, .int .u8 0, .int .u8 0]) ∧ Below w.heap.size w w' := tick_c ⟨59, 0, 0, 0, 0, false, false, 0, 0, 0, 0, 0⟩ ⟨0, 1, 0, 0, 0, false, false, 0, 0, 0, 0, 0⟩ 1048576 (by unfold CV.ok; decide) (by rfl) w
theorem aw2 (w : World) : Calls Try.prog 16 #[.agg #[.int .u8 0, .int .u8 1, .int .u8 0, .int .i64 0, .int .i64 0, .bool false, .bool false, .int .u8 0, .int .u8 0, .int .u8 0, .int .u8 0, .int .u8 0]] w fun e w' => e = .returned (.agg #[.int .u8 0, .int .u8 1, .int .u8 0, .int .i64 0, .int .i64 0, .bool false, .bool false, .int .u8 0, .int .u8 1, .int .u8 0, .int .u8 0, .int .u8 0]) ∧ Below w.heap.size w w' := hold_c ⟨0, 1, 0, 0, 0, false, false, 0, 0, 0, 0, 0⟩ ⟨0, 1, 0, 0, 0, false, false, 0, 1, 0, 0, 0⟩ (by unfold CV.ok; decide) (by rfl) w
theorem aw3 (w : World) : Calls Try.prog 12 #[.agg #[.int .u8 0, .int .u8 1, .int .u8 0, .int .i64 0, .int .i64 0, .bool false, .bool false, .int .u8 0, .int .u8 1, .int .u8 0, .int .u8 0, .int .u8 0], .int .i64 1] w fun e w' => e = .returned (.int .u8 1) ∧ Below w.heap.size w w' := read_c ⟨0, 1, 0, 0, 0, false, false, 0, 1, 0, 0, 0⟩ 1 1 (by rfl) w
set_option maxHeartbeats 2000000 in
theorem awake_c (w : World) : Calls Try.prog 9 #[] w fun q_ w' => q_ = .returned (.bool true) ∧ Below w.heap.size w w' := by
  suffices hall : ∀ (n_ : Nat) (W0 : World), n_ ≤ W0.heap.size → Below n_ W0 w → Calls Try.prog 9 #[] w fun q_ w' => q_ = .returned (.bool true) ∧ Below n_ W0 w' from hall _ _ (Nat.le_refl _) (Below.refl _ _)
  intro n_ W0 hn hB
  have HN := Lib.hid hn
  have BB := Lib.hid hB
  clear hn hB
  go_enter Try.func9, Try.ntmps9
  go_wp2_with fail
  with_reducible refine (aw1 _).mono ?_
  rintro q_ w1 ⟨rfl, hb⟩
  have B1 := Lib.hid (vian HN.out BB.out hb)
  clear hb
  have Q_ := own1 w1 (.cells #[.int .u8 0, .int .u8 1, .int .u8 0, .int .i64 0, .int .i64 0, .bool false, .bool false, .int .u8 0, .int .u8 0, .int .u8 0, .int .u8 0, .int .u8 0] 26)
  have B2 := Lib.hid (vian HN.out B1.out Q_)
  have P2 := Lib.hid (Has.new w1 #[.int .u8 0, .int .u8 1, .int .u8 0, .int .i64 0, .int .i64 0, .bool false, .bool false, .int .u8 0, .int .u8 0, .int .u8 0, .int .u8 0, .int .u8 0] 26)
  clear Q_
  go_upto_region 2 with (fail)
  generalize w1.alloc (.cells #[.int .u8 0, .int .u8 1, .int .u8 0, .int .i64 0, .int .i64 0, .bool false, .bool false, .int .u8 0, .int .u8 0, .int .u8 0, .int .u8 0, .int .u8 0] 26) = w2 at B2 P2 ⊢
  generalize w1.heap.size = pb at P2 ⊢
  obtain ⟨hc, hf⟩ := P2.out.out
  have heq := eq_held 0 0 0 0 0
  go_wp2_with fail
  with_reducible refine (aw2 _).mono ?_
  rintro q_ w3 ⟨rfl, hb⟩
  have B3 := Lib.hid (vian HN.out B2.out hb)
  clear hb hc hf
  go_wp2_with fail
  with_reducible refine (aw3 _).mono ?_
  rintro q_ w4 ⟨rfl, hb⟩
  have B4 := Lib.hid (vian HN.out B3.out hb)
  clear hb
  go_wp2
  go_ret
  exact ⟨rfl, B4.out⟩
end Go.Proofs.Ytkpjoongbckhcaa
