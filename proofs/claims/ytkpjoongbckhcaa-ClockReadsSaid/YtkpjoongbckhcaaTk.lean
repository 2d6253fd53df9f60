/-
  Time that goes by, of the program: for every clock; no condition but that it is one.
-/
import Derived.Test.YtkpjoongbckhcaaVia
import Derived.Deep.Cut
namespace Go.Proofs.Ytkpjoongbckhcaa
open Go.ChangeShapes Go.WideShapes Go.ChangeAt Go.RowKit
set_option linter.unusedVariables false
set_option linter.unusedSimpArgs false
set_option maxRecDepth 100000
set_option maxHeartbeats 2000000 in
theorem pass_f (s m h day sub : Int) (halt carry : Bool) (a b c d e : Int) (k X1 N1 X2 N2 X3 N3 : Int) (R : CV) (C1 : ∀ W, Calls Try.prog 25 #[.int .u8 s, .int .i64 k, .int .i64 64, .int .i64 60] W fun q_ w' => q_ = .returned (.tuple #[.int .u8 X1, .int .i64 N1]) ∧ Below W.heap.size W w') (C2 : ∀ W, Calls Try.prog 25 #[.int .u8 m, .int .i64 N1, .int .i64 64, .int .i64 60] W fun q_ w' => q_ = .returned (.tuple #[.int .u8 X2, .int .i64 N2]) ∧ Below W.heap.size W w') (C3 : ∀ W, Calls Try.prog 25 #[.int .u8 h, .int .i64 N2, .int .i64 32, .int .i64 24] W fun q_ w' => q_ = .returned (.tuple #[.int .u8 X3, .int .i64 N3]) ∧ Below W.heap.size W w') (C4 : ∀ W, Calls Try.prog 26 #[.agg #[.int .u8 X1, .int .u8 X2, .int .u8 X3, .int .i64 day, .int .i64 sub, .bool halt, .bool carry, .int .u8 a, .int .u8 b, .int .u8 c, .int .u8 d, .int .u8 e], .int .i64 N3] W fun q_ w' => q_ = .returned (.agg #[.int .u8 R.s, .int .u8 R.m, .int .u8 R.h, .int .i64 R.day, .int .i64 R.sub, .bool R.halt, .bool R.carry, .int .u8 R.a, .int .u8 R.b, .int .u8 R.c, .int .u8 R.d, .int .u8 R.e]) ∧ Below W.heap.size W w') (w : World) : Calls Try.prog 21 #[.agg #[.int .u8 s, .int .u8 m, .int .u8 h, .int .i64 day, .int .i64 sub, .bool halt, .bool carry, .int .u8 a, .int .u8 b, .int .u8 c, .int .u8 d, .int .u8 e], .int .i64 k] w fun q_ w' => q_ = .returned (.agg #[.int .u8 R.s, .int .u8 R.m, .int .u8 R.h, .int .i64 R.day, .int .i64 R.sub, .bool R.halt, .bool R.carry, .int .u8 R.a, .int .u8 R.b, .int .u8 R.c, .int .u8 R.d, .int .u8 R.e]) ∧ Below w.heap.size w w' := by
  suffices hall : ∀ (n_ : Nat) (W0 : World), n_ ≤ W0.heap.size → Below n_ W0 w → Calls Try.prog 21 #[.agg #[.int .u8 s, .int .u8 m, .int .u8 h, .int .i64 day, .int .i64 sub, .bool halt, .bool carry, .int .u8 a, .int .u8 b, .int .u8 c, .int .u8 d, .int .u8 e], .int .i64 k] w fun q_ w' => q_ = .returned (.agg #[.int .u8 R.s, .int .u8 R.m, .int .u8 R.h, .int .i64 R.day, .int .i64 R.sub, .bool R.halt, .bool R.carry, .int .u8 R.a, .int .u8 R.b, .int .u8 R.c, .int .u8 R.d, .int .u8 R.e]) ∧ Below n_ W0 w' from hall _ _ (Nat.le_refl _) (Below.refl _ _)
  intro n_ W0 hn hB
  have HN := Lib.hid hn
  have BB := Lib.hid hB
  clear hn hB
  have H1 := Lib.hid C1
  have H2 := Lib.hid C2
  have H3 := Lib.hid C3
  have H4 := Lib.hid C4
  clear C1 C2 C3 C4
  go_enter Try.func21, Try.ntmps21
  have Q_ := own2 w (.cells #[.int .u8 s, .int .u8 m, .int .u8 h, .int .i64 day, .int .i64 sub, .bool halt, .bool carry, .int .u8 a, .int .u8 b, .int .u8 c, .int .u8 d, .int .u8 e] 26) (.cells #[.int .u8 0, .int .u8 0, .int .u8 0, .int .i64 0, .int .i64 0, .bool false, .bool false, .int .u8 0, .int .u8 0, .int .u8 0, .int .u8 0, .int .u8 0] 26)
  have B0 := Lib.hid (vian HN.out BB.out Q_)
  have P0 := Lib.hid ((Has.new w #[.int .u8 s, .int .u8 m, .int .u8 h, .int .i64 day, .int .i64 sub, .bool halt, .bool carry, .int .u8 a, .int .u8 b, .int .u8 c, .int .u8 d, .int .u8 e] 26).alloc (.cells #[.int .u8 0, .int .u8 0, .int .u8 0, .int .i64 0, .int .i64 0, .bool false, .bool false, .int .u8 0, .int .u8 0, .int .u8 0, .int .u8 0, .int .u8 0] 26))
  have R0 := Lib.hid (show Has ((w.alloc (.cells #[.int .u8 s, .int .u8 m, .int .u8 h, .int .i64 day, .int .i64 sub, .bool halt, .bool carry, .int .u8 a, .int .u8 b, .int .u8 c, .int .u8 d, .int .u8 e] 26)).alloc (.cells #[.int .u8 0, .int .u8 0, .int .u8 0, .int .i64 0, .int .i64 0, .bool false, .bool false, .int .u8 0, .int .u8 0, .int .u8 0, .int .u8 0, .int .u8 0] 26)) (w.heap.size + 1) #[.int .u8 0, .int .u8 0, .int .u8 0, .int .i64 0, .int .i64 0, .bool false, .bool false, .int .u8 0, .int .u8 0, .int .u8 0, .int .u8 0, .int .u8 0] by simpa using Has.new (w.alloc (.cells #[.int .u8 s, .int .u8 m, .int .u8 h, .int .i64 day, .int .i64 sub, .bool halt, .bool carry, .int .u8 a, .int .u8 b, .int .u8 c, .int .u8 d, .int .u8 e] 26)) #[.int .u8 0, .int .u8 0, .int .u8 0, .int .i64 0, .int .i64 0, .bool false, .bool false, .int .u8 0, .int .u8 0, .int .u8 0, .int .u8 0, .int .u8 0] 26)
  have LP := Lib.hid (Nat.le_trans HN.out BB.out.size)
  have LR := Lib.hid (show n_ ≤ w.heap.size + 1 from Nat.le_succ_of_le (Nat.le_trans HN.out BB.out.size))
  have NE := Lib.hid (show w.heap.size ≠ w.heap.size + 1 by omega)
  clear Q_
  go_upto_region 1 with (fail)
  generalize (w.alloc (.cells #[.int .u8 s, .int .u8 m, .int .u8 h, .int .i64 day, .int .i64 sub, .bool halt, .bool carry, .int .u8 a, .int .u8 b, .int .u8 c, .int .u8 d, .int .u8 e] 26)).alloc (.cells #[.int .u8 0, .int .u8 0, .int .u8 0, .int .i64 0, .int .i64 0, .bool false, .bool false, .int .u8 0, .int .u8 0, .int .u8 0, .int .u8 0, .int .u8 0] 26) = w0 at B0 P0 R0 ⊢
  generalize w.heap.size + 1 = rb at R0 LR NE ⊢
  generalize w.heap.size = pb at P0 LP NE ⊢
  obtain ⟨hc, hf⟩ := P0.out.out
  go_wp2_with fail
  with_reducible refine (H1.out _).mono ?_
  rintro q_ w1 ⟨rfl, hb⟩
  clear hc hf
  have B1 := Lib.hid (vian HN.out B0.out hb)
  have P1 := Lib.hid (P0.out.below hb)
  have R1 := Lib.hid (R0.out.below hb)
  clear hb B0 P0 R0
  have P2 := Lib.hid (show Has (w1.setCell ⟨pb, 0, none⟩ (.int .u8 X1)) pb #[.int .u8 X1, .int .u8 m, .int .u8 h, .int .i64 day, .int .i64 sub, .bool halt, .bool carry, .int .u8 a, .int .u8 b, .int .u8 c, .int .u8 d, .int .u8 e] by simpa using P1.out.set 0 (.int .u8 X1) (by simp))
  have R2 := Lib.hid (R1.out.far ⟨pb, 0, none⟩ (.int .u8 X1) NE.out)
  have B2 := Lib.hid (store1 B1.out LP.out 0 (.int .u8 X1))
  obtain ⟨hc, hf⟩ := P1.out.out
  go_wp2_with fail
  generalize w1.setCell ⟨pb, 0, none⟩ (.int .u8 X1) = w2 at P2 R2 B2 ⊢
  clear hc hf P1 R1 B1
  with_reducible refine (H2.out _).mono ?_
  rintro q_ w3 ⟨rfl, hb⟩
  have B3 := Lib.hid (vian HN.out B2.out hb)
  have P3 := Lib.hid (P2.out.below hb)
  have R3 := Lib.hid (R2.out.below hb)
  clear hb B2 P2 R2
  have P4 := Lib.hid (show Has (w3.setCell ⟨pb, 1, none⟩ (.int .u8 X2)) pb #[.int .u8 X1, .int .u8 X2, .int .u8 h, .int .i64 day, .int .i64 sub, .bool halt, .bool carry, .int .u8 a, .int .u8 b, .int .u8 c, .int .u8 d, .int .u8 e] by simpa using P3.out.set 1 (.int .u8 X2) (by simp))
  have R4 := Lib.hid (R3.out.far ⟨pb, 1, none⟩ (.int .u8 X2) NE.out)
  have B4 := Lib.hid (store1 B3.out LP.out 1 (.int .u8 X2))
  obtain ⟨hc, hf⟩ := P3.out.out
  go_wp2_with fail
  generalize w3.setCell ⟨pb, 1, none⟩ (.int .u8 X2) = w4 at P4 R4 B4 ⊢
  clear hc hf P3 R3 B3
  with_reducible refine (H3.out _).mono ?_
  rintro q_ w5 ⟨rfl, hb⟩
  have B5 := Lib.hid (vian HN.out B4.out hb)
  have P5 := Lib.hid (P4.out.below hb)
  have R5 := Lib.hid (R4.out.below hb)
  clear hb B4 P4 R4
  have P6 := Lib.hid (show Has (w5.setCell ⟨pb, 2, none⟩ (.int .u8 X3)) pb #[.int .u8 X1, .int .u8 X2, .int .u8 X3, .int .i64 day, .int .i64 sub, .bool halt, .bool carry, .int .u8 a, .int .u8 b, .int .u8 c, .int .u8 d, .int .u8 e] by simpa using P5.out.set 2 (.int .u8 X3) (by simp))
  have R6 := Lib.hid (R5.out.far ⟨pb, 2, none⟩ (.int .u8 X3) NE.out)
  have B6 := Lib.hid (store1 B5.out LP.out 2 (.int .u8 X3))
  obtain ⟨hc, hf⟩ := P5.out.out
  go_wp2_with fail
  generalize w5.setCell ⟨pb, 2, none⟩ (.int .u8 X3) = w6 at P6 R6 B6 ⊢
  clear hc hf P5 R5 B5
  with_reducible refine (H4.out _).mono ?_
  rintro q_ w7 ⟨rfl, hb⟩
  have B7 := Lib.hid (vian HN.out B6.out hb)
  have P7 := Lib.hid (P6.out.below hb)
  have R7 := Lib.hid (R6.out.below hb)
  clear hb B6 P6 R6
  obtain ⟨hc, hf⟩ := R7.out.out
  go_wp2
  refine bodyPost_ret (v := .agg #[.int .u8 R.s, .int .u8 R.m, .int .u8 R.h, .int .i64 R.day, .int .i64 R.sub, .bool R.halt, .bool R.carry, .int .u8 R.a, .int .u8 R.b, .int .u8 R.c, .int .u8 R.d, .int .u8 R.e]) ?_ rfl ⟨rfl, ?_⟩
  · simp [results, Try.results21, go_sem, hc]
  · exact set12 B7.out rb LR.out _ _ _ _ _ _ _ _ _ _ _ _
set_option maxHeartbeats 2000000 in
theorem tick_0 (s m h day sub : Int) (carry : Bool) (a b c d e : Int) (n : Int) (w : World) : Calls Try.prog 14 #[.agg #[.int .u8 s, .int .u8 m, .int .u8 h, .int .i64 day, .int .i64 sub, .bool true, .bool carry, .int .u8 a, .int .u8 b, .int .u8 c, .int .u8 d, .int .u8 e], .int .i64 n] w fun q_ w' => q_ = .returned (.agg #[.int .u8 s, .int .u8 m, .int .u8 h, .int .i64 day, .int .i64 sub, .bool true, .bool carry, .int .u8 a, .int .u8 b, .int .u8 c, .int .u8 d, .int .u8 e]) ∧ Below w.heap.size w w' := by
  suffices hall : ∀ (n_ : Nat) (W0 : World), n_ ≤ W0.heap.size → Below n_ W0 w → Calls Try.prog 14 #[.agg #[.int .u8 s, .int .u8 m, .int .u8 h, .int .i64 day, .int .i64 sub, .bool true, .bool carry, .int .u8 a, .int .u8 b, .int .u8 c, .int .u8 d, .int .u8 e], .int .i64 n] w fun q_ w' => q_ = .returned (.agg #[.int .u8 s, .int .u8 m, .int .u8 h, .int .i64 day, .int .i64 sub, .bool true, .bool carry, .int .u8 a, .int .u8 b, .int .u8 c, .int .u8 d, .int .u8 e]) ∧ Below n_ W0 w' from hall _ _ (Nat.le_refl _) (Below.refl _ _)
  intro n_ W0 hn hB
  have HN := Lib.hid hn
  have BB := Lib.hid hB
  clear hn hB
  go_enter Try.func14, Try.ntmps14
  go_wp2
  exact bodyPost_ret (v := .agg #[.int .u8 s, .int .u8 m, .int .u8 h, .int .i64 day, .int .i64 sub, .bool true, .bool carry, .int .u8 a, .int .u8 b, .int .u8 c, .int .u8 d, .int .u8 e]) (by simp [results, Try.results14, go_sem]) rfl ⟨rfl, vian HN.out BB.out (own2 _ _ _)⟩
set_option maxHeartbeats 2000000 in
theorem tick_1 (s m h day sub : Int) (carry : Bool) (a b c d e : Int) (n : Int) (hn1 : n < 1) (w : World) : Calls Try.prog 14 #[.agg #[.int .u8 s, .int .u8 m, .int .u8 h, .int .i64 day, .int .i64 sub, .bool false, .bool carry, .int .u8 a, .int .u8 b, .int .u8 c, .int .u8 d, .int .u8 e], .int .i64 n] w fun q_ w' => q_ = .returned (.agg #[.int .u8 s, .int .u8 m, .int .u8 h, .int .i64 day, .int .i64 sub, .bool false, .bool carry, .int .u8 a, .int .u8 b, .int .u8 c, .int .u8 d, .int .u8 e]) ∧ Below w.heap.size w w' := by
  suffices hall : ∀ (n_ : Nat) (W0 : World), n_ ≤ W0.heap.size → Below n_ W0 w → Calls Try.prog 14 #[.agg #[.int .u8 s, .int .u8 m, .int .u8 h, .int .i64 day, .int .i64 sub, .bool false, .bool carry, .int .u8 a, .int .u8 b, .int .u8 c, .int .u8 d, .int .u8 e], .int .i64 n] w fun q_ w' => q_ = .returned (.agg #[.int .u8 s, .int .u8 m, .int .u8 h, .int .i64 day, .int .i64 sub, .bool false, .bool carry, .int .u8 a, .int .u8 b, .int .u8 c, .int .u8 d, .int .u8 e]) ∧ Below n_ W0 w' from hall _ _ (Nat.le_refl _) (Below.refl _ _)
  intro n_ W0 hn hB
  have HN := Lib.hid hn
  have BB := Lib.hid hB
  clear hn hB
  go_enter Try.func14, Try.ntmps14
  go_wp2
  exact bodyPost_ret (v := .agg #[.int .u8 s, .int .u8 m, .int .u8 h, .int .i64 day, .int .i64 sub, .bool false, .bool carry, .int .u8 a, .int .u8 b, .int .u8 c, .int .u8 d, .int .u8 e]) (by simp [results, Try.results14, go_sem]) rfl ⟨rfl, vian HN.out BB.out (own2 _ _ _)⟩
set_option maxHeartbeats 2000000 in
theorem tick_2 (s m h day sub : Int) (carry : Bool) (a b c d e : Int) (n p q1 r1 y q2 r2 k : Int) (R : CV) (hn1 : ¬ n < 1) (hp : (if 1073741824 < n then 1073741824 else n) = p) (hp1 : 1 ≤ p) (hp2 : p ≤ 1073741824) (hr0 : 0 ≤ r1) (hr1 : r1 < 1048576) (hy : r1 + p = y) (hq0 : 0 ≤ q1) (hq1 : q1 ≤ 2) (hq2 : 0 ≤ q2) (hq3 : q2 ≤ 1100) (hk : q1 + q2 = k) (C1 : ∀ W, Calls Try.prog 20 #[.int .i64 sub] W fun q_ w' => q_ = .returned (.tuple #[.int .i64 q1, .int .i64 r1]) ∧ W = w') (C2 : ∀ W, Calls Try.prog 20 #[.int .i64 y] W fun q_ w' => q_ = .returned (.tuple #[.int .i64 q2, .int .i64 r2]) ∧ W = w') (C3 : ∀ W, Calls Try.prog 21 #[.agg #[.int .u8 s, .int .u8 m, .int .u8 h, .int .i64 day, .int .i64 r2, .bool false, .bool carry, .int .u8 a, .int .u8 b, .int .u8 c, .int .u8 d, .int .u8 e], .int .i64 k] W fun q_ w' => q_ = .returned (.agg #[.int .u8 R.s, .int .u8 R.m, .int .u8 R.h, .int .i64 R.day, .int .i64 R.sub, .bool R.halt, .bool R.carry, .int .u8 R.a, .int .u8 R.b, .int .u8 R.c, .int .u8 R.d, .int .u8 R.e]) ∧ Below W.heap.size W w') (w : World) : Calls Try.prog 14 #[.agg #[.int .u8 s, .int .u8 m, .int .u8 h, .int .i64 day, .int .i64 sub, .bool false, .bool carry, .int .u8 a, .int .u8 b, .int .u8 c, .int .u8 d, .int .u8 e], .int .i64 n] w fun q_ w' => q_ = .returned (.agg #[.int .u8 R.s, .int .u8 R.m, .int .u8 R.h, .int .i64 R.day, .int .i64 R.sub, .bool R.halt, .bool R.carry, .int .u8 R.a, .int .u8 R.b, .int .u8 R.c, .int .u8 R.d, .int .u8 R.e]) ∧ Below w.heap.size w w' := by
  suffices hall : ∀ (n_ : Nat) (W0 : World), n_ ≤ W0.heap.size → Below n_ W0 w → Calls Try.prog 14 #[.agg #[.int .u8 s, .int .u8 m, .int .u8 h, .int .i64 day, .int .i64 sub, .bool false, .bool carry, .int .u8 a, .int .u8 b, .int .u8 c, .int .u8 d, .int .u8 e], .int .i64 n] w fun q_ w' => q_ = .returned (.agg #[.int .u8 R.s, .int .u8 R.m, .int .u8 R.h, .int .i64 R.day, .int .i64 R.sub, .bool R.halt, .bool R.carry, .int .u8 R.a, .int .u8 R.b, .int .u8 R.c, .int .u8 R.d, .int .u8 R.e]) ∧ Below n_ W0 w' from hall _ _ (Nat.le_refl _) (Below.refl _ _)
  intro n_ W0 hn hB
  have HN := Lib.hid hn
  have BB := Lib.hid hB
  clear hn hB
  have H1 := Lib.hid C1
  have H2 := Lib.hid C2
  have H3 := Lib.hid C3
  clear C1 C2 C3
  go_enter Try.func14, Try.ntmps14
  have Q_ := own2 w (.cells #[.int .u8 s, .int .u8 m, .int .u8 h, .int .i64 day, .int .i64 sub, .bool false, .bool carry, .int .u8 a, .int .u8 b, .int .u8 c, .int .u8 d, .int .u8 e] 26) (.cells #[.int .u8 0, .int .u8 0, .int .u8 0, .int .i64 0, .int .i64 0, .bool false, .bool false, .int .u8 0, .int .u8 0, .int .u8 0, .int .u8 0, .int .u8 0] 26)
  have B0 := Lib.hid (vian HN.out BB.out Q_)
  have P0 := Lib.hid ((Has.new w #[.int .u8 s, .int .u8 m, .int .u8 h, .int .i64 day, .int .i64 sub, .bool false, .bool carry, .int .u8 a, .int .u8 b, .int .u8 c, .int .u8 d, .int .u8 e] 26).alloc (.cells #[.int .u8 0, .int .u8 0, .int .u8 0, .int .i64 0, .int .i64 0, .bool false, .bool false, .int .u8 0, .int .u8 0, .int .u8 0, .int .u8 0, .int .u8 0] 26))
  have R0 := Lib.hid (show Has ((w.alloc (.cells #[.int .u8 s, .int .u8 m, .int .u8 h, .int .i64 day, .int .i64 sub, .bool false, .bool carry, .int .u8 a, .int .u8 b, .int .u8 c, .int .u8 d, .int .u8 e] 26)).alloc (.cells #[.int .u8 0, .int .u8 0, .int .u8 0, .int .i64 0, .int .i64 0, .bool false, .bool false, .int .u8 0, .int .u8 0, .int .u8 0, .int .u8 0, .int .u8 0] 26)) (w.heap.size + 1) #[.int .u8 0, .int .u8 0, .int .u8 0, .int .i64 0, .int .i64 0, .bool false, .bool false, .int .u8 0, .int .u8 0, .int .u8 0, .int .u8 0, .int .u8 0] by simpa using Has.new (w.alloc (.cells #[.int .u8 s, .int .u8 m, .int .u8 h, .int .i64 day, .int .i64 sub, .bool false, .bool carry, .int .u8 a, .int .u8 b, .int .u8 c, .int .u8 d, .int .u8 e] 26)) #[.int .u8 0, .int .u8 0, .int .u8 0, .int .i64 0, .int .i64 0, .bool false, .bool false, .int .u8 0, .int .u8 0, .int .u8 0, .int .u8 0, .int .u8 0] 26)
  have LP := Lib.hid (Nat.le_trans HN.out BB.out.size)
  have LR := Lib.hid (show n_ ≤ w.heap.size + 1 from Nat.le_succ_of_le (Nat.le_trans HN.out BB.out.size))
  have NE := Lib.hid (show w.heap.size ≠ w.heap.size + 1 by omega)
  clear Q_
  go_upto_region 1 with (fail)
  generalize (w.alloc (.cells #[.int .u8 s, .int .u8 m, .int .u8 h, .int .i64 day, .int .i64 sub, .bool false, .bool carry, .int .u8 a, .int .u8 b, .int .u8 c, .int .u8 d, .int .u8 e] 26)).alloc (.cells #[.int .u8 0, .int .u8 0, .int .u8 0, .int .i64 0, .int .i64 0, .bool false, .bool false, .int .u8 0, .int .u8 0, .int .u8 0, .int .u8 0, .int .u8 0] 26) = w0 at B0 P0 R0 ⊢
  generalize w.heap.size + 1 = rb at R0 LR NE ⊢
  generalize w.heap.size = pb at P0 LP NE ⊢
  obtain ⟨hc, hf⟩ := P0.out.out
  go_wp2_with fail
  with_reducible refine (H1.out _).mono ?_
  rintro q_ w1 ⟨rfl, rfl⟩
  go_wp2_with fail
  with_reducible refine (H2.out _).mono ?_
  rintro q_ w2 ⟨rfl, rfl⟩
  have P1 := Lib.hid (show Has (w0.setCell ⟨pb, 4, none⟩ (.int .i64 r2)) pb #[.int .u8 s, .int .u8 m, .int .u8 h, .int .i64 day, .int .i64 r2, .bool false, .bool carry, .int .u8 a, .int .u8 b, .int .u8 c, .int .u8 d, .int .u8 e] by simpa using P0.out.set 4 (.int .i64 r2) (by simp))
  have R1 := Lib.hid (R0.out.far ⟨pb, 4, none⟩ (.int .i64 r2) NE.out)
  have B1 := Lib.hid (store1 B0.out LP.out 4 (.int .i64 r2))
  go_wp2_with fail
  generalize w0.setCell ⟨pb, 4, none⟩ (.int .i64 r2) = w1 at P1 R1 B1 ⊢
  clear hc hf P0 R0 B0
  with_reducible refine (H3.out _).mono ?_
  rintro q_ w2 ⟨rfl, hb⟩
  have B2 := Lib.hid (vian HN.out B1.out hb)
  have P2 := Lib.hid (P1.out.below hb)
  have R2 := Lib.hid (R1.out.below hb)
  clear hb B1 P1 R1
  obtain ⟨hc, hf⟩ := R2.out.out
  go_wp2
  refine bodyPost_ret (v := .agg #[.int .u8 R.s, .int .u8 R.m, .int .u8 R.h, .int .i64 R.day, .int .i64 R.sub, .bool R.halt, .bool R.carry, .int .u8 R.a, .int .u8 R.b, .int .u8 R.c, .int .u8 R.d, .int .u8 R.e]) ?_ rfl ⟨rfl, ?_⟩
  · simp [results, Try.results14, go_sem, hc]
  · exact set12 B2.out rb LR.out _ _ _ _ _ _ _ _ _ _ _ _
theorem pass_c (c R : CV) (k : Int) (hc : c.ok) (hk : 0 ≤ k) (hk2 : k ≤ 1099511627776) (hR : passV c k = R) (w : World) : Calls Try.prog 21 #[.agg #[.int .u8 c.s, .int .u8 c.m, .int .u8 c.h, .int .i64 c.day, .int .i64 c.sub, .bool c.halt, .bool c.carry, .int .u8 c.a, .int .u8 c.b, .int .u8 c.c, .int .u8 c.d, .int .u8 c.e], .int .i64 k] w fun e w' => e = .returned (.agg #[.int .u8 R.s, .int .u8 R.m, .int .u8 R.h, .int .i64 R.day, .int .i64 R.sub, .bool R.halt, .bool R.carry, .int .u8 R.a, .int .u8 R.b, .int .u8 R.c, .int .u8 R.d, .int .u8 R.e]) ∧ Below w.heap.size w w' := by
  obtain ⟨h1, h2, h3, h4, h5⟩ := hc
  have b1 := cnt60 c.s k h1.1 hk
  have b2 := cnt60 c.m _ h2.1 b1.1
  have b3 := cnt24 c.h _ h3.1 b2.1
  subst hR
  exact pass_f c.s c.m c.h c.day c.sub c.halt c.carry c.a c.b c.c c.d c.e k _ _ _ _ _ _ (passV c k) (fun W => count64_c _ _ _ _ h1.1 h1.2 hk hk2 rfl rfl W) (fun W => count64_c _ _ _ _ h2.1 h2.2 b1.1 (by omega) rfl rfl W) (fun W => count32_c _ _ _ _ h3.1 h3.2 b2.1 (by omega) rfl rfl W) (fun W => pd_c _ _ _ c.day c.sub c.halt c.carry c.a c.b c.c c.d c.e _ _ _ h4.1 h4.2 b3.1 (by omega) rfl rfl W) w
theorem tick_c (c R : CV) (n : Int) (hc : c.ok) (hR : tickV c n = R) (w : World) : Calls Try.prog 14 #[.agg #[.int .u8 c.s, .int .u8 c.m, .int .u8 c.h, .int .i64 c.day, .int .i64 c.sub, .bool c.halt, .bool c.carry, .int .u8 c.a, .int .u8 c.b, .int .u8 c.c, .int .u8 c.d, .int .u8 c.e], .int .i64 n] w fun e w' => e = .returned (.agg #[.int .u8 R.s, .int .u8 R.m, .int .u8 R.h, .int .i64 R.day, .int .i64 R.sub, .bool R.halt, .bool R.carry, .int .u8 R.a, .int .u8 R.b, .int .u8 R.c, .int .u8 R.d, .int .u8 R.e]) ∧ Below w.heap.size w w' := by
  have hc' := hc
  obtain ⟨s, m, h, day, sub, halt, carry, a, b, c, d, e⟩ := c
  obtain ⟨h1, h2, h3, h4, h5⟩ := hc
  unfold tickV at hR
  dsimp only at hR h1 h2 h3 h4 h5 ⊢
  cases halt
  · rw [if_neg (by decide)] at hR
    by_cases a0 : n < 1
    · rw [if_pos a0] at hR
      subst hR
      exact tick_1 s m h day sub carry a b c d e n a0 w
    · rw [if_neg a0] at hR
      have cb := cap_bd n (by omega)
      have e1 : sub % 1048576 + capV n = (sub % 1048576 + capV n) := rfl
      have r2 : (sub % 1048576 + capV n) % 1048576 = (sub + capV n) % 1048576 := by omega
      have q2 : sub / 1048576 + (sub % 1048576 + capV n) / 1048576 = (sub + capV n) / 1048576 := by omega
      exact tick_2 s m h day sub carry a b c d e n (capV n) (sub / 1048576) (sub % 1048576) _ _ _ _ R a0 rfl cb.1 cb.2 (by omega) (by omega) rfl (by omega) (by omega) (by omega) (by omega) rfl
        (fun W => whole_c sub _ _ h5.1 (by omega) rfl rfl W) (fun W => whole_c _ _ _ (by omega) (by omega) rfl rfl W)
        (fun W => pass_c ⟨s, m, h, day, (sub % 1048576 + capV n) % 1048576, false, carry, a, b, c, d, e⟩ R _ ⟨h1, h2, h3, h4, by dsimp only; omega⟩ (by omega) (by omega) (by rw [q2, r2]; exact hR) W) w
  · rw [if_pos rfl] at hR
    subst hR
    exact tick_0 s m h day sub carry a b c d e n w
end Go.Proofs.Ytkpjoongbckhcaa
