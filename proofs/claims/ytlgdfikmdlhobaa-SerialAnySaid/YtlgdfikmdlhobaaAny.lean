/-
  The walk through SerialAny: for every port, number and byte; no condition but that each number fits.
-/
import Derived.Test.YtlgdfikmdlhobaaOpn
import Derived.Deep.Cut
import Derived.Laws.StructEq
import Derived.Laws.Tables
namespace Go.Proofs.Ytlgdfikmdlhobaa
open Go.ChangeShapes Go.WideShapes Go.ChangeAt Go.RowKit
set_option linter.unusedVariables false
set_option linter.unusedSimpArgs false
set_option maxRecDepth 100000
set_option maxHeartbeats 2000000 in
theorem any_b0 (p : PV) (k x : Int)  (g0 : p.s < 0) (w : World) : Calls Try.prog 4 #[.agg #[.int .u8 p.d, .int .u8 p.c, .int .u8 p.l, .int .i64 p.b, .int .i64 p.n, .int .i64 p.s], .int .i64 k, .int .u8 x] w fun q_ w' => q_ = .returned (.bool true) ∧ Below w.heap.size w w' := by
  suffices hall : ∀ (n_ : Nat) (W0 : World), n_ ≤ W0.heap.size → Below n_ W0 w → Calls Try.prog 4 #[.agg #[.int .u8 p.d, .int .u8 p.c, .int .u8 p.l, .int .i64 p.b, .int .i64 p.n, .int .i64 p.s], .int .i64 k, .int .u8 x] w fun q_ w' => q_ = .returned (.bool true) ∧ Below n_ W0 w' from hall _ _ (Nat.le_refl _) (Below.refl _ _)
  intro n_ W0 hn hB
  have HN := Lib.hid hn
  have BB := Lib.hid hB
  clear hn hB
  have AW := Lib.hid awake_c
  have hnot : ∀ (x : Bool) (w : World), (Op.unary .not (.bool x)).run Try.prog w = .ok (.bool (!x)) w := fun _ _ => rfl
  go_enter Try.func4, Try.ntmps4
  have Q_ := own1 w (.cells #[.int .u8 p.d, .int .u8 p.c, .int .u8 p.l, .int .i64 p.b, .int .i64 p.n, .int .i64 p.s] 26)
  have B0 := Lib.hid (vian HN.out BB.out Q_)
  have P0 := Lib.hid (show Has (w.alloc (.cells #[.int .u8 p.d, .int .u8 p.c, .int .u8 p.l, .int .i64 p.b, .int .i64 p.n, .int .i64 p.s] 26)) w.heap.size #[.int .u8 p.d, .int .u8 p.c, .int .u8 p.l, .int .i64 p.b, .int .i64 p.n, .int .i64 p.s] by simpa using Has.new w #[.int .u8 p.d, .int .u8 p.c, .int .u8 p.l, .int .i64 p.b, .int .i64 p.n, .int .i64 p.s] 26)
  have LP := Lib.hid (show n_ ≤ w.heap.size + 0 from Nat.le_add_right_of_le (Nat.le_trans HN.out BB.out.size))
  simp only [Nat.add_zero] at LP
  clear Q_
  go_upto_region 1 with (fail)
  generalize (w.alloc (.cells #[.int .u8 p.d, .int .u8 p.c, .int .u8 p.l, .int .i64 p.b, .int .i64 p.n, .int .i64 p.s] 26)) = w0 at B0 P0 ⊢
  generalize w.heap.size = pb at P0 LP  ⊢
  obtain ⟨hc0, hf0⟩ := P0.out.out
  go_wp2_with fail
  with_reducible refine (AW.out _).mono ?_
  rintro q_ w1 ⟨rfl, hb⟩
  clear hc0 hf0
  have B1 := Lib.hid (vian HN.out B0.out hb)
  have P1 := Lib.hid (P0.out.below hb)
  clear hb B0 P0
  obtain ⟨hc0, hf0⟩ := P1.out.out
  go_wp2_with fail
  with_reducible refine (AW.out _).mono ?_
  rintro q_ w2 ⟨rfl, hb⟩
  clear hc0 hf0
  have B2 := Lib.hid (vian HN.out B1.out hb)
  have P2 := Lib.hid (P1.out.below hb)
  clear hb B1 P1
  go_wp2
  go_ret
  exact ⟨rfl, B2.out⟩
set_option maxHeartbeats 2000000 in
theorem any_b1 (p : PV) (k x : Int) (g0 : ¬ p.s < 0) (g1 : 65535 < p.s) (w : World) : Calls Try.prog 4 #[.agg #[.int .u8 p.d, .int .u8 p.c, .int .u8 p.l, .int .i64 p.b, .int .i64 p.n, .int .i64 p.s], .int .i64 k, .int .u8 x] w fun q_ w' => q_ = .returned (.bool true) ∧ Below w.heap.size w w' := by
  suffices hall : ∀ (n_ : Nat) (W0 : World), n_ ≤ W0.heap.size → Below n_ W0 w → Calls Try.prog 4 #[.agg #[.int .u8 p.d, .int .u8 p.c, .int .u8 p.l, .int .i64 p.b, .int .i64 p.n, .int .i64 p.s], .int .i64 k, .int .u8 x] w fun q_ w' => q_ = .returned (.bool true) ∧ Below n_ W0 w' from hall _ _ (Nat.le_refl _) (Below.refl _ _)
  intro n_ W0 hn hB
  have HN := Lib.hid hn
  have BB := Lib.hid hB
  clear hn hB
  have AW := Lib.hid awake_c
  have hnot : ∀ (x : Bool) (w : World), (Op.unary .not (.bool x)).run Try.prog w = .ok (.bool (!x)) w := fun _ _ => rfl
  go_enter Try.func4, Try.ntmps4
  have Q_ := own1 w (.cells #[.int .u8 p.d, .int .u8 p.c, .int .u8 p.l, .int .i64 p.b, .int .i64 p.n, .int .i64 p.s] 26)
  have B0 := Lib.hid (vian HN.out BB.out Q_)
  have P0 := Lib.hid (show Has (w.alloc (.cells #[.int .u8 p.d, .int .u8 p.c, .int .u8 p.l, .int .i64 p.b, .int .i64 p.n, .int .i64 p.s] 26)) w.heap.size #[.int .u8 p.d, .int .u8 p.c, .int .u8 p.l, .int .i64 p.b, .int .i64 p.n, .int .i64 p.s] by simpa using Has.new w #[.int .u8 p.d, .int .u8 p.c, .int .u8 p.l, .int .i64 p.b, .int .i64 p.n, .int .i64 p.s] 26)
  have LP := Lib.hid (show n_ ≤ w.heap.size + 0 from Nat.le_add_right_of_le (Nat.le_trans HN.out BB.out.size))
  simp only [Nat.add_zero] at LP
  clear Q_
  go_upto_region 1 with (fail)
  generalize (w.alloc (.cells #[.int .u8 p.d, .int .u8 p.c, .int .u8 p.l, .int .i64 p.b, .int .i64 p.n, .int .i64 p.s] 26)) = w0 at B0 P0 ⊢
  generalize w.heap.size = pb at P0 LP  ⊢
  obtain ⟨hc0, hf0⟩ := P0.out.out
  go_wp2_with fail
  with_reducible refine (AW.out _).mono ?_
  rintro q_ w1 ⟨rfl, hb⟩
  clear hc0 hf0
  have B1 := Lib.hid (vian HN.out B0.out hb)
  have P1 := Lib.hid (P0.out.below hb)
  clear hb B0 P0
  obtain ⟨hc0, hf0⟩ := P1.out.out
  go_wp2_with fail
  with_reducible refine (AW.out _).mono ?_
  rintro q_ w2 ⟨rfl, hb⟩
  clear hc0 hf0
  have B2 := Lib.hid (vian HN.out B1.out hb)
  have P2 := Lib.hid (P1.out.below hb)
  clear hb B1 P1
  go_wp2
  go_ret
  exact ⟨rfl, B2.out⟩
set_option maxHeartbeats 2000000 in
theorem any_b2 (p : PV) (k x : Int) (g0 : ¬ p.s < 0) (g1 : ¬ 65535 < p.s) (g2 : p.n < 0) (w : World) : Calls Try.prog 4 #[.agg #[.int .u8 p.d, .int .u8 p.c, .int .u8 p.l, .int .i64 p.b, .int .i64 p.n, .int .i64 p.s], .int .i64 k, .int .u8 x] w fun q_ w' => q_ = .returned (.bool true) ∧ Below w.heap.size w w' := by
  suffices hall : ∀ (n_ : Nat) (W0 : World), n_ ≤ W0.heap.size → Below n_ W0 w → Calls Try.prog 4 #[.agg #[.int .u8 p.d, .int .u8 p.c, .int .u8 p.l, .int .i64 p.b, .int .i64 p.n, .int .i64 p.s], .int .i64 k, .int .u8 x] w fun q_ w' => q_ = .returned (.bool true) ∧ Below n_ W0 w' from hall _ _ (Nat.le_refl _) (Below.refl _ _)
  intro n_ W0 hn hB
  have HN := Lib.hid hn
  have BB := Lib.hid hB
  clear hn hB
  have AW := Lib.hid awake_c
  have hnot : ∀ (x : Bool) (w : World), (Op.unary .not (.bool x)).run Try.prog w = .ok (.bool (!x)) w := fun _ _ => rfl
  go_enter Try.func4, Try.ntmps4
  have Q_ := own1 w (.cells #[.int .u8 p.d, .int .u8 p.c, .int .u8 p.l, .int .i64 p.b, .int .i64 p.n, .int .i64 p.s] 26)
  have B0 := Lib.hid (vian HN.out BB.out Q_)
  have P0 := Lib.hid (show Has (w.alloc (.cells #[.int .u8 p.d, .int .u8 p.c, .int .u8 p.l, .int .i64 p.b, .int .i64 p.n, .int .i64 p.s] 26)) w.heap.size #[.int .u8 p.d, .int .u8 p.c, .int .u8 p.l, .int .i64 p.b, .int .i64 p.n, .int .i64 p.s] by simpa using Has.new w #[.int .u8 p.d, .int .u8 p.c, .int .u8 p.l, .int .i64 p.b, .int .i64 p.n, .int .i64 p.s] 26)
  have LP := Lib.hid (show n_ ≤ w.heap.size + 0 from Nat.le_add_right_of_le (Nat.le_trans HN.out BB.out.size))
  simp only [Nat.add_zero] at LP
  clear Q_
  go_upto_region 1 with (fail)
  generalize (w.alloc (.cells #[.int .u8 p.d, .int .u8 p.c, .int .u8 p.l, .int .i64 p.b, .int .i64 p.n, .int .i64 p.s] 26)) = w0 at B0 P0 ⊢
  generalize w.heap.size = pb at P0 LP  ⊢
  obtain ⟨hc0, hf0⟩ := P0.out.out
  go_wp2_with fail
  with_reducible refine (AW.out _).mono ?_
  rintro q_ w1 ⟨rfl, hb⟩
  clear hc0 hf0
  have B1 := Lib.hid (vian HN.out B0.out hb)
  have P1 := Lib.hid (P0.out.below hb)
  clear hb B0 P0
  obtain ⟨hc0, hf0⟩ := P1.out.out
  go_wp2_with fail
  with_reducible refine (AW.out _).mono ?_
  rintro q_ w2 ⟨rfl, hb⟩
  clear hc0 hf0
  have B2 := Lib.hid (vian HN.out B1.out hb)
  have P2 := Lib.hid (P1.out.below hb)
  clear hb B1 P1
  go_wp2
  go_ret
  exact ⟨rfl, B2.out⟩
set_option maxHeartbeats 2000000 in
theorem any_b3 (p : PV) (k x : Int) (g0 : ¬ p.s < 0) (g1 : ¬ 65535 < p.s) (g2 : ¬ p.n < 0) (g3 : 127 < p.n) (w : World) : Calls Try.prog 4 #[.agg #[.int .u8 p.d, .int .u8 p.c, .int .u8 p.l, .int .i64 p.b, .int .i64 p.n, .int .i64 p.s], .int .i64 k, .int .u8 x] w fun q_ w' => q_ = .returned (.bool true) ∧ Below w.heap.size w w' := by
  suffices hall : ∀ (n_ : Nat) (W0 : World), n_ ≤ W0.heap.size → Below n_ W0 w → Calls Try.prog 4 #[.agg #[.int .u8 p.d, .int .u8 p.c, .int .u8 p.l, .int .i64 p.b, .int .i64 p.n, .int .i64 p.s], .int .i64 k, .int .u8 x] w fun q_ w' => q_ = .returned (.bool true) ∧ Below n_ W0 w' from hall _ _ (Nat.le_refl _) (Below.refl _ _)
  intro n_ W0 hn hB
  have HN := Lib.hid hn
  have BB := Lib.hid hB
  clear hn hB
  have AW := Lib.hid awake_c
  have hnot : ∀ (x : Bool) (w : World), (Op.unary .not (.bool x)).run Try.prog w = .ok (.bool (!x)) w := fun _ _ => rfl
  go_enter Try.func4, Try.ntmps4
  have Q_ := own1 w (.cells #[.int .u8 p.d, .int .u8 p.c, .int .u8 p.l, .int .i64 p.b, .int .i64 p.n, .int .i64 p.s] 26)
  have B0 := Lib.hid (vian HN.out BB.out Q_)
  have P0 := Lib.hid (show Has (w.alloc (.cells #[.int .u8 p.d, .int .u8 p.c, .int .u8 p.l, .int .i64 p.b, .int .i64 p.n, .int .i64 p.s] 26)) w.heap.size #[.int .u8 p.d, .int .u8 p.c, .int .u8 p.l, .int .i64 p.b, .int .i64 p.n, .int .i64 p.s] by simpa using Has.new w #[.int .u8 p.d, .int .u8 p.c, .int .u8 p.l, .int .i64 p.b, .int .i64 p.n, .int .i64 p.s] 26)
  have LP := Lib.hid (show n_ ≤ w.heap.size + 0 from Nat.le_add_right_of_le (Nat.le_trans HN.out BB.out.size))
  simp only [Nat.add_zero] at LP
  clear Q_
  go_upto_region 1 with (fail)
  generalize (w.alloc (.cells #[.int .u8 p.d, .int .u8 p.c, .int .u8 p.l, .int .i64 p.b, .int .i64 p.n, .int .i64 p.s] 26)) = w0 at B0 P0 ⊢
  generalize w.heap.size = pb at P0 LP  ⊢
  obtain ⟨hc0, hf0⟩ := P0.out.out
  go_wp2_with fail
  with_reducible refine (AW.out _).mono ?_
  rintro q_ w1 ⟨rfl, hb⟩
  clear hc0 hf0
  have B1 := Lib.hid (vian HN.out B0.out hb)
  have P1 := Lib.hid (P0.out.below hb)
  clear hb B0 P0
  obtain ⟨hc0, hf0⟩ := P1.out.out
  go_wp2_with fail
  with_reducible refine (AW.out _).mono ?_
  rintro q_ w2 ⟨rfl, hb⟩
  clear hc0 hf0
  have B2 := Lib.hid (vian HN.out B1.out hb)
  have P2 := Lib.hid (P1.out.below hb)
  clear hb B1 P1
  go_wp2
  go_ret
  exact ⟨rfl, B2.out⟩
set_option maxHeartbeats 2000000 in
theorem any_b4 (p : PV) (k x : Int) (g0 : ¬ p.s < 0) (g1 : ¬ 65535 < p.s) (g2 : ¬ p.n < 0) (g3 : ¬ 127 < p.n) (g4 : p.b < -1) (w : World) : Calls Try.prog 4 #[.agg #[.int .u8 p.d, .int .u8 p.c, .int .u8 p.l, .int .i64 p.b, .int .i64 p.n, .int .i64 p.s], .int .i64 k, .int .u8 x] w fun q_ w' => q_ = .returned (.bool true) ∧ Below w.heap.size w w' := by
  suffices hall : ∀ (n_ : Nat) (W0 : World), n_ ≤ W0.heap.size → Below n_ W0 w → Calls Try.prog 4 #[.agg #[.int .u8 p.d, .int .u8 p.c, .int .u8 p.l, .int .i64 p.b, .int .i64 p.n, .int .i64 p.s], .int .i64 k, .int .u8 x] w fun q_ w' => q_ = .returned (.bool true) ∧ Below n_ W0 w' from hall _ _ (Nat.le_refl _) (Below.refl _ _)
  intro n_ W0 hn hB
  have HN := Lib.hid hn
  have BB := Lib.hid hB
  clear hn hB
  have AW := Lib.hid awake_c
  have hnot : ∀ (x : Bool) (w : World), (Op.unary .not (.bool x)).run Try.prog w = .ok (.bool (!x)) w := fun _ _ => rfl
  go_enter Try.func4, Try.ntmps4
  have Q_ := own1 w (.cells #[.int .u8 p.d, .int .u8 p.c, .int .u8 p.l, .int .i64 p.b, .int .i64 p.n, .int .i64 p.s] 26)
  have B0 := Lib.hid (vian HN.out BB.out Q_)
  have P0 := Lib.hid (show Has (w.alloc (.cells #[.int .u8 p.d, .int .u8 p.c, .int .u8 p.l, .int .i64 p.b, .int .i64 p.n, .int .i64 p.s] 26)) w.heap.size #[.int .u8 p.d, .int .u8 p.c, .int .u8 p.l, .int .i64 p.b, .int .i64 p.n, .int .i64 p.s] by simpa using Has.new w #[.int .u8 p.d, .int .u8 p.c, .int .u8 p.l, .int .i64 p.b, .int .i64 p.n, .int .i64 p.s] 26)
  have LP := Lib.hid (show n_ ≤ w.heap.size + 0 from Nat.le_add_right_of_le (Nat.le_trans HN.out BB.out.size))
  simp only [Nat.add_zero] at LP
  clear Q_
  go_upto_region 1 with (fail)
  generalize (w.alloc (.cells #[.int .u8 p.d, .int .u8 p.c, .int .u8 p.l, .int .i64 p.b, .int .i64 p.n, .int .i64 p.s] 26)) = w0 at B0 P0 ⊢
  generalize w.heap.size = pb at P0 LP  ⊢
  obtain ⟨hc0, hf0⟩ := P0.out.out
  go_wp2_with fail
  with_reducible refine (AW.out _).mono ?_
  rintro q_ w1 ⟨rfl, hb⟩
  clear hc0 hf0
  have B1 := Lib.hid (vian HN.out B0.out hb)
  have P1 := Lib.hid (P0.out.below hb)
  clear hb B0 P0
  obtain ⟨hc0, hf0⟩ := P1.out.out
  go_wp2_with fail
  with_reducible refine (AW.out _).mono ?_
  rintro q_ w2 ⟨rfl, hb⟩
  clear hc0 hf0
  have B2 := Lib.hid (vian HN.out B1.out hb)
  have P2 := Lib.hid (P1.out.below hb)
  clear hb B1 P1
  go_wp2
  go_ret
  exact ⟨rfl, B2.out⟩
set_option maxHeartbeats 2000000 in
theorem any_b5 (p : PV) (k x : Int) (g0 : ¬ p.s < 0) (g1 : ¬ 65535 < p.s) (g2 : ¬ p.n < 0) (g3 : ¬ 127 < p.n) (g4 : ¬ p.b < -1) (g5 : 9 < p.b) (w : World) : Calls Try.prog 4 #[.agg #[.int .u8 p.d, .int .u8 p.c, .int .u8 p.l, .int .i64 p.b, .int .i64 p.n, .int .i64 p.s], .int .i64 k, .int .u8 x] w fun q_ w' => q_ = .returned (.bool true) ∧ Below w.heap.size w w' := by
  suffices hall : ∀ (n_ : Nat) (W0 : World), n_ ≤ W0.heap.size → Below n_ W0 w → Calls Try.prog 4 #[.agg #[.int .u8 p.d, .int .u8 p.c, .int .u8 p.l, .int .i64 p.b, .int .i64 p.n, .int .i64 p.s], .int .i64 k, .int .u8 x] w fun q_ w' => q_ = .returned (.bool true) ∧ Below n_ W0 w' from hall _ _ (Nat.le_refl _) (Below.refl _ _)
  intro n_ W0 hn hB
  have HN := Lib.hid hn
  have BB := Lib.hid hB
  clear hn hB
  have AW := Lib.hid awake_c
  have hnot : ∀ (x : Bool) (w : World), (Op.unary .not (.bool x)).run Try.prog w = .ok (.bool (!x)) w := fun _ _ => rfl
  go_enter Try.func4, Try.ntmps4
  have Q_ := own1 w (.cells #[.int .u8 p.d, .int .u8 p.c, .int .u8 p.l, .int .i64 p.b, .int .i64 p.n, .int .i64 p.s] 26)
  have B0 := Lib.hid (vian HN.out BB.out Q_)
  have P0 := Lib.hid (show Has (w.alloc (.cells #[.int .u8 p.d, .int .u8 p.c, .int .u8 p.l, .int .i64 p.b, .int .i64 p.n, .int .i64 p.s] 26)) w.heap.size #[.int .u8 p.d, .int .u8 p.c, .int .u8 p.l, .int .i64 p.b, .int .i64 p.n, .int .i64 p.s] by simpa using Has.new w #[.int .u8 p.d, .int .u8 p.c, .int .u8 p.l, .int .i64 p.b, .int .i64 p.n, .int .i64 p.s] 26)
  have LP := Lib.hid (show n_ ≤ w.heap.size + 0 from Nat.le_add_right_of_le (Nat.le_trans HN.out BB.out.size))
  simp only [Nat.add_zero] at LP
  clear Q_
  go_upto_region 1 with (fail)
  generalize (w.alloc (.cells #[.int .u8 p.d, .int .u8 p.c, .int .u8 p.l, .int .i64 p.b, .int .i64 p.n, .int .i64 p.s] 26)) = w0 at B0 P0 ⊢
  generalize w.heap.size = pb at P0 LP  ⊢
  obtain ⟨hc0, hf0⟩ := P0.out.out
  go_wp2_with fail
  with_reducible refine (AW.out _).mono ?_
  rintro q_ w1 ⟨rfl, hb⟩
  clear hc0 hf0
  have B1 := Lib.hid (vian HN.out B0.out hb)
  have P1 := Lib.hid (P0.out.below hb)
  clear hb B0 P0
  obtain ⟨hc0, hf0⟩ := P1.out.out
  go_wp2_with fail
  with_reducible refine (AW.out _).mono ?_
  rintro q_ w2 ⟨rfl, hb⟩
  clear hc0 hf0
  have B2 := Lib.hid (vian HN.out B1.out hb)
  have P2 := Lib.hid (P1.out.below hb)
  clear hb B1 P1
  go_wp2
  go_ret
  exact ⟨rfl, B2.out⟩
set_option maxHeartbeats 4000000 in
theorem any_g (p q r : PV) (i : Bool) (k x y : Int) (g0 : ¬ p.s < 0) (g1 : ¬ 65535 < p.s) (g2 : ¬ p.n < 0) (g3 : ¬ 127 < p.n) (g4 : ¬ p.b < -1) (g5 : ¬ 9 < p.b) (C1 : ∀ W, Calls Try.prog 9 #[.agg #[.int .u8 p.d, .int .u8 p.c, .int .u8 p.l, .int .i64 p.b, .int .i64 p.n, .int .i64 p.s]] W fun q_ w' => q_ = .returned (.tuple #[.agg #[.int .u8 q.d, .int .u8 q.c, .int .u8 q.l, .int .i64 q.b, .int .i64 q.n, .int .i64 q.s], .bool i]) ∧ Below W.heap.size W w') (C2 : ∀ W, Calls Try.prog 10 #[.agg #[.int .u8 p.d, .int .u8 p.c, .int .u8 p.l, .int .i64 p.b, .int .i64 p.n, .int .i64 p.s]] W fun q_ w' => q_ = .returned (.tuple #[.agg #[.int .u8 q.d, .int .u8 q.c, .int .u8 q.l, .int .i64 q.b, .int .i64 q.n, .int .i64 q.s], .bool i]) ∧ Below W.heap.size W w') (C3 : ∀ W, Calls Try.prog 11 #[.agg #[.int .u8 p.d, .int .u8 p.c, .int .u8 p.l, .int .i64 p.b, .int .i64 p.n, .int .i64 p.s], .int .i64 k, .int .u8 x] W fun q_ w' => q_ = .returned (.agg #[.int .u8 r.d, .int .u8 r.c, .int .u8 r.l, .int .i64 r.b, .int .i64 r.n, .int .i64 r.s]) ∧ Below W.heap.size W w') (C4 : ∀ W, Calls Try.prog 12 #[.agg #[.int .u8 p.d, .int .u8 p.c, .int .u8 p.l, .int .i64 p.b, .int .i64 p.n, .int .i64 p.s], .int .i64 k, .int .u8 x] W fun q_ w' => q_ = .returned (.agg #[.int .u8 r.d, .int .u8 r.c, .int .u8 r.l, .int .i64 r.b, .int .i64 r.n, .int .i64 r.s]) ∧ Below W.heap.size W w') (C5 : ∀ W, Calls Try.prog 13 #[.agg #[.int .u8 p.d, .int .u8 p.c, .int .u8 p.l, .int .i64 p.b, .int .i64 p.n, .int .i64 p.s], .int .i64 k] W fun q_ w' => q_ = .returned (.int .u8 y) ∧ Below W.heap.size W w') (C6 : ∀ W, Calls Try.prog 14 #[.agg #[.int .u8 p.d, .int .u8 p.c, .int .u8 p.l, .int .i64 p.b, .int .i64 p.n, .int .i64 p.s], .int .i64 k] W fun q_ w' => q_ = .returned (.int .u8 y) ∧ Below W.heap.size W w') (w : World) : Calls Try.prog 4 #[.agg #[.int .u8 p.d, .int .u8 p.c, .int .u8 p.l, .int .i64 p.b, .int .i64 p.n, .int .i64 p.s], .int .i64 k, .int .u8 x] w fun q_ w' => q_ = .returned (.bool true) ∧ Below w.heap.size w w' := by
  suffices hall : ∀ (n_ : Nat) (W0 : World), n_ ≤ W0.heap.size → Below n_ W0 w → Calls Try.prog 4 #[.agg #[.int .u8 p.d, .int .u8 p.c, .int .u8 p.l, .int .i64 p.b, .int .i64 p.n, .int .i64 p.s], .int .i64 k, .int .u8 x] w fun q_ w' => q_ = .returned (.bool true) ∧ Below n_ W0 w' from hall _ _ (Nat.le_refl _) (Below.refl _ _)
  intro n_ W0 hn hB
  have HN := Lib.hid hn
  have BB := Lib.hid hB
  clear hn hB
  have H1 := Lib.hid C1
  have H2 := Lib.hid C2
  have H3 := Lib.hid C3
  have H4 := Lib.hid C4
  have H5 := Lib.hid C5
  have H6 := Lib.hid C6
  clear C1 C2 C3 C4 C5 C6
  have AW := Lib.hid awake_c
  have hnot : ∀ (x : Bool) (w : World), (Op.unary .not (.bool x)).run Try.prog w = .ok (.bool (!x)) w := fun _ _ => rfl
  go_enter Try.func4, Try.ntmps4
  have Q_ := own1 w (.cells #[.int .u8 p.d, .int .u8 p.c, .int .u8 p.l, .int .i64 p.b, .int .i64 p.n, .int .i64 p.s] 26)
  have B0 := Lib.hid (vian HN.out BB.out Q_)
  have P0 := Lib.hid (show Has (w.alloc (.cells #[.int .u8 p.d, .int .u8 p.c, .int .u8 p.l, .int .i64 p.b, .int .i64 p.n, .int .i64 p.s] 26)) w.heap.size #[.int .u8 p.d, .int .u8 p.c, .int .u8 p.l, .int .i64 p.b, .int .i64 p.n, .int .i64 p.s] by simpa using Has.new w #[.int .u8 p.d, .int .u8 p.c, .int .u8 p.l, .int .i64 p.b, .int .i64 p.n, .int .i64 p.s] 26)
  have LP := Lib.hid (show n_ ≤ w.heap.size + 0 from Nat.le_add_right_of_le (Nat.le_trans HN.out BB.out.size))
  simp only [Nat.add_zero] at LP
  clear Q_
  go_upto_region 1 with (fail)
  generalize (w.alloc (.cells #[.int .u8 p.d, .int .u8 p.c, .int .u8 p.l, .int .i64 p.b, .int .i64 p.n, .int .i64 p.s] 26)) = w0 at B0 P0 ⊢
  generalize w.heap.size = pb at P0 LP  ⊢
  obtain ⟨hc0, hf0⟩ := P0.out.out
  go_wp2_with fail
  with_reducible refine (AW.out _).mono ?_
  rintro q_ w1 ⟨rfl, hb⟩
  clear hc0 hf0
  have B1 := Lib.hid (vian HN.out B0.out hb)
  have P1 := Lib.hid (P0.out.below hb)
  clear hb B0 P0
  obtain ⟨hcQ, hfQ⟩ := P1.out.out
  have Q_ := own1 w1 (.cells #[.int .u8 p.d, .int .u8 p.c, .int .u8 p.l, .int .i64 p.b, .int .i64 p.n, .int .i64 p.s] 25)
  have B2 := Lib.hid (vian HN.out B1.out Q_)
  have P2 := Lib.hid (P1.out.below Q_)
  have K2 := Lib.hid (Has.new w1 #[.int .u8 p.d, .int .u8 p.c, .int .u8 p.l, .int .i64 p.b, .int .i64 p.n, .int .i64 p.s] 25)
  have LK := Lib.hid (show n_ ≤ w1.heap.size from Nat.le_trans HN.out B1.out.size)
  clear Q_
  go_upto_region 4 with (fail)
  generalize w1.alloc (.cells #[.int .u8 p.d, .int .u8 p.c, .int .u8 p.l, .int .i64 p.b, .int .i64 p.n, .int .i64 p.s] 25) = w2 at B2 P2 K2 ⊢
  generalize w1.heap.size = kb at K2 LK ⊢
  clear B1 P1
  clear hcQ hfQ
  obtain ⟨hc0, hf0⟩ := K2.out.out
  go_wp2_with fail
  with_reducible refine (H1.out _).mono ?_
  rintro q_ w3 ⟨rfl, hb⟩
  clear hc0 hf0
  have B3 := Lib.hid (vian HN.out B2.out hb)
  have P3 := Lib.hid (P2.out.below hb)
  have K3 := Lib.hid (K2.out.below hb)
  clear hb B2 P2 K2
  have Q_ := own1 w3 (.cells #[.int .u8 q.d, .int .u8 q.c, .int .u8 q.l, .int .i64 q.b, .int .i64 q.n, .int .i64 q.s] 25)
  have B4 := Lib.hid (vian HN.out B3.out Q_)
  have P4 := Lib.hid (P3.out.below Q_)
  have K4 := Lib.hid (K3.out.below Q_)
  have A4 := Lib.hid (Has.new w3 #[.int .u8 q.d, .int .u8 q.c, .int .u8 q.l, .int .i64 q.b, .int .i64 q.n, .int .i64 q.s] 25)
  have LA := Lib.hid (show n_ ≤ w3.heap.size from Nat.le_trans HN.out B3.out.size)
  clear Q_
  go_upto_region 5 with (fail)
  generalize w3.alloc (.cells #[.int .u8 q.d, .int .u8 q.c, .int .u8 q.l, .int .i64 q.b, .int .i64 q.n, .int .i64 q.s] 25) = w4 at B4 P4 K4 A4 ⊢
  generalize w3.heap.size = ab at A4 LA ⊢
  clear B3 P3 K3
  obtain ⟨hc0, hf0⟩ := P4.out.out
  go_wp2_with fail
  with_reducible refine (H2.out _).mono ?_
  rintro q_ w5 ⟨rfl, hb⟩
  clear hc0 hf0
  have B5 := Lib.hid (vian HN.out B4.out hb)
  have P5 := Lib.hid (P4.out.below hb)
  have K5 := Lib.hid (K4.out.below hb)
  have A5 := Lib.hid (A4.out.below hb)
  clear hb B4 P4 K4 A4
  have Q_ := own1 w5 (.cells #[.int .u8 q.d, .int .u8 q.c, .int .u8 q.l, .int .i64 q.b, .int .i64 q.n, .int .i64 q.s] 26)
  have B6 := Lib.hid (vian HN.out B5.out Q_)
  have P6 := Lib.hid (P5.out.below Q_)
  have K6 := Lib.hid (K5.out.below Q_)
  have A6 := Lib.hid (A5.out.below Q_)
  have V6 := Lib.hid (Has.new w5 #[.int .u8 q.d, .int .u8 q.c, .int .u8 q.l, .int .i64 q.b, .int .i64 q.n, .int .i64 q.s] 26)
  have LV := Lib.hid (show n_ ≤ w5.heap.size from Nat.le_trans HN.out B5.out.size)
  clear Q_
  go_upto_region 6 with (fail)
  generalize w5.alloc (.cells #[.int .u8 q.d, .int .u8 q.c, .int .u8 q.l, .int .i64 q.b, .int .i64 q.n, .int .i64 q.s] 26) = w6 at B6 P6 K6 A6 V6 ⊢
  generalize w5.heap.size = vb at V6 LV ⊢
  clear B5 P5 K5 A5
  have B7 := Lib.hid B6.out.drew
  have P7 := Lib.hid P6.out.drew
  have K7 := Lib.hid K6.out.drew
  have A7 := Lib.hid A6.out.drew
  have V7 := Lib.hid V6.out.drew
  clear B6 P6 K6 A6 V6
  refine wp_region_held_drew (S := (fun w' => (∀ o, w'.cell? ⟨pb, o, none⟩ = #[.int .u8 p.d, .int .u8 p.c, .int .u8 p.l, .int .i64 p.b, .int .i64 p.n, .int .i64 p.s][o]?) ∧ (∀ o, w'.cell? ⟨kb, o, none⟩ = #[.int .u8 p.d, .int .u8 p.c, .int .u8 p.l, .int .i64 p.b, .int .i64 p.n, .int .i64 p.s][o]?) ∧ (∀ o, w'.cell? ⟨ab, o, none⟩ = #[.int .u8 q.d, .int .u8 q.c, .int .u8 q.l, .int .i64 q.b, .int .i64 q.n, .int .i64 q.s][o]?) ∧ (∀ o, w'.cell? ⟨vb, o, none⟩ = #[.int .u8 q.d, .int .u8 q.c, .int .u8 q.l, .int .i64 q.b, .int .i64 q.n, .int .i64 q.s][o]?))) (by kernel_rfl) ⟨P7.out.2.1, K7.out.2.1, A7.out.2.1, V7.out.2.1⟩ (fun hHeld => ?_)
  generalize World.drew w6 = u7 at hHeld B7 P7 K7 A7 V7 ⊢
  refine wpAnyH_take (i := 0) (oi := { dst := some 56, op := Go.Op.load 25 (Go.Operand.tmp 8), type := 25, pos := "law.go:60", after := #[], guard := none }) (v := ?v1) rfl (by kernel_rfl) (by kernel_rfl) (by kernel_rfl) (fun _ _ _ h => h) (Or.inl ⟨by rfl, ?y1⟩) (by assumption) ?z1
  case y1 => (intro w hSw; (try dsimp only at hSw); go_simp) <;> with_reducible rfl
  try simp only [Act.put, List.setIfInBounds_toArray, List.set_cons_zero, List.set_cons_succ]
  refine wpAnyH_take (i := 1) (oi := { dst := some 57, op := Go.Op.load 26 (Go.Operand.tmp 10), type := 26, pos := "law.go:60", after := #[], guard := none }) (v := ?v2) rfl (by kernel_rfl) (by kernel_rfl) (by kernel_rfl) (fun _ _ _ h => h) (Or.inl ⟨by rfl, ?y2⟩) (by assumption) ?z2
  case y2 => (intro w hSw; (try dsimp only at hSw); go_simp) <;> with_reducible rfl
  try simp only [Act.put, List.setIfInBounds_toArray, List.set_cons_zero, List.set_cons_succ]
  refine wpAnyH_take (i := 2) (oi := { dst := some 58, op := Go.Op.binOp Go.BinOp.eql 26 (Go.Operand.tmp 56) (Go.Operand.tmp 57) 26, type := 4, pos := "law.go:60", after := #[{ on := 0, ground := Go.Ground.data }, { on := 1, ground := Go.Ground.data }], guard := none }) (v := ?v3) rfl (by kernel_rfl) (by kernel_rfl) (by kernel_rfl) (fun _ _ _ h => h) (Or.inl ⟨by rfl, ?y3⟩) (by assumption) ?z3
  case y3 => (intro w hSw; (try dsimp only at hSw); go_simp) <;> with_reducible rfl
  try simp only [Act.put, List.setIfInBounds_toArray, List.set_cons_zero, List.set_cons_succ]
  refine wpAnyH_take (i := 3) (oi := { dst := some 59, op := Go.Op.move (Go.Operand.tmp 58), type := 4, pos := "law.go:60", after := #[{ on := 2, ground := Go.Ground.data }], guard := none }) (v := ?v4) rfl (by kernel_rfl) (by kernel_rfl) (by kernel_rfl) (fun _ _ _ h => h) (Or.inl ⟨by rfl, ?y4⟩) (by assumption) ?z4
  case y4 => (intro w hSw; (try dsimp only at hSw); go_simp) <;> with_reducible rfl
  try simp only [Act.put, List.setIfInBounds_toArray, List.set_cons_zero, List.set_cons_succ]
  refine wpAnyH_take (i := 4) (oi := { dst := some 60, op := Go.Op.move (Go.Operand.tmp 9), type := 4, pos := "law.go:60", after := #[{ on := 3, ground := Go.Ground.guard }], guard := some (3, true) }) (v := ?v5) rfl (by kernel_rfl) (by kernel_rfl) (by kernel_rfl) (fun _ _ _ h => h) (Or.inl ⟨by rfl, ?y5⟩) (by assumption) ?z5
  case y5 => (intro w hSw; (try dsimp only at hSw); go_simp) <;> with_reducible rfl
  try simp only [Act.put, List.setIfInBounds_toArray, List.set_cons_zero, List.set_cons_succ]
  refine wpAnyH_take (i := 5) (oi := { dst := some 61, op := Go.Op.move (Go.Operand.tmp 11), type := 4, pos := "law.go:60", after := #[{ on := 3, ground := Go.Ground.guard }], guard := some (3, true) }) (v := ?v6) rfl (by kernel_rfl) (by kernel_rfl) (by kernel_rfl) (fun _ _ _ h => h) (Or.inl ⟨by rfl, ?y6⟩) (by assumption) ?z6
  case y6 => (intro w hSw; (try dsimp only at hSw); go_simp) <;> with_reducible rfl
  try simp only [Act.put, List.setIfInBounds_toArray, List.set_cons_zero, List.set_cons_succ]
  refine wpAnyH_take (i := 6) (oi := { dst := some 62, op := Go.Op.binOp Go.BinOp.eql 4 (Go.Operand.tmp 60) (Go.Operand.tmp 61) 4, type := 4, pos := "law.go:60", after := #[{ on := 4, ground := Go.Ground.data }, { on := 5, ground := Go.Ground.data }, { on := 3, ground := Go.Ground.guard }], guard := some (3, true) }) (v := ?v7) rfl (by kernel_rfl) (by kernel_rfl) (by kernel_rfl) (fun _ _ _ h => h) (Or.inl ⟨by rfl, ?y7⟩) (by assumption) ?z7
  case y7 => (intro w hSw; (try dsimp only at hSw); go_simp) <;> with_reducible rfl
  try simp only [Act.put, List.setIfInBounds_toArray, List.set_cons_zero, List.set_cons_succ]
  refine wpAnyH_take (i := 7) (oi := { dst := some 63, op := Go.Op.pick (Go.Operand.tmp 59) (Go.Operand.tmp 62) (Go.Operand.const (Go.Value.bool false)), type := 4, pos := "law.go:60", after := #[{ on := 3, ground := Go.Ground.data }, { on := 6, ground := Go.Ground.data }], guard := none }) (v := ?v8) rfl (by kernel_rfl) (by kernel_rfl) (by kernel_rfl) (fun _ _ _ h => h) (Or.inl ⟨by rfl, ?y8⟩) (by assumption) ?z8
  case y8 => (intro w hSw; (try dsimp only at hSw); go_simp) <;> with_reducible rfl
  try simp only [Act.put, List.setIfInBounds_toArray, List.set_cons_zero, List.set_cons_succ]
  refine wpAnyH_take (i := 8) (oi := { dst := some 64, op := Go.Op.move (Go.Operand.tmp 63), type := 4, pos := "law.go:60", after := #[{ on := 7, ground := Go.Ground.data }, { on := 3, ground := Go.Ground.chain }], guard := none }) (v := ?v9) rfl (by kernel_rfl) (by kernel_rfl) (by kernel_rfl) (fun _ _ _ h => h) (Or.inl ⟨by rfl, ?y9⟩) (by assumption) ?z9
  case y9 => (intro w hSw; (try dsimp only at hSw); go_simp) <;> with_reducible rfl
  try simp only [Act.put, List.setIfInBounds_toArray, List.set_cons_zero, List.set_cons_succ]
  refine wpAnyH_take (i := 9) (oi := { dst := some 65, op := Go.Op.load 25 (Go.Operand.tmp 7), type := 25, pos := "law.go:60", after := #[{ on := 8, ground := Go.Ground.guard }], guard := some (8, true) }) (v := ?v10) rfl (by kernel_rfl) (by kernel_rfl) (by kernel_rfl) (fun _ _ _ h => h) (Or.inl ⟨by rfl, ?y10⟩) (by assumption) ?z10
  case y10 => (intro w hSw; (try dsimp only at hSw); go_simp) <;> with_reducible rfl
  try simp only [Act.put, List.setIfInBounds_toArray, List.set_cons_zero, List.set_cons_succ]
  refine wpAnyH_take (i := 10) (oi := { dst := some 66, op := Go.Op.move (Go.Operand.tmp 1), type := 3, pos := "law.go:60", after := #[{ on := 8, ground := Go.Ground.guard }], guard := some (8, true) }) (v := ?v11) rfl (by kernel_rfl) (by kernel_rfl) (by kernel_rfl) (fun _ _ _ h => h) (Or.inl ⟨by rfl, ?y11⟩) (by assumption) ?z11
  case y11 => (intro w hSw; (try dsimp only at hSw); go_simp) <;> with_reducible rfl
  try simp only [Act.put, List.setIfInBounds_toArray, List.set_cons_zero, List.set_cons_succ]
  refine wpAnyH_take (i := 11) (oi := { dst := some 67, op := Go.Op.move (Go.Operand.tmp 2), type := 5, pos := "law.go:60", after := #[{ on := 8, ground := Go.Ground.guard }], guard := some (8, true) }) (v := ?v12) rfl (by kernel_rfl) (by kernel_rfl) (by kernel_rfl) (fun _ _ _ h => h) (Or.inl ⟨by rfl, ?y12⟩) (by assumption) ?z12
  case y12 => (intro w hSw; (try dsimp only at hSw); go_simp) <;> with_reducible rfl
  try simp only [Act.put, List.setIfInBounds_toArray, List.set_cons_zero, List.set_cons_succ]
  refine wpAnyH_take (i := 13) (oi := { dst := some 69, op := Go.Op.load 26 (Go.Operand.tmp 3), type := 26, pos := "law.go:60", after := #[{ on := 8, ground := Go.Ground.guard }], guard := some (8, true) }) (v := ?v13) rfl (by kernel_rfl) (by kernel_rfl) (by kernel_rfl) (fun _ _ _ h => h) (Or.inl ⟨by rfl, ?y13⟩) (by assumption) ?z13
  case y13 => (intro w hSw; (try dsimp only at hSw); go_simp) <;> with_reducible rfl
  try simp only [Act.put, List.setIfInBounds_toArray, List.set_cons_zero, List.set_cons_succ]
  refine wpAnyH_take (i := 14) (oi := { dst := some 70, op := Go.Op.move (Go.Operand.tmp 1), type := 3, pos := "law.go:60", after := #[{ on := 8, ground := Go.Ground.guard }], guard := some (8, true) }) (v := ?v14) rfl (by kernel_rfl) (by kernel_rfl) (by kernel_rfl) (fun _ _ _ h => h) (Or.inl ⟨by rfl, ?y14⟩) (by assumption) ?z14
  case y14 => (intro w hSw; (try dsimp only at hSw); go_simp) <;> with_reducible rfl
  try simp only [Act.put, List.setIfInBounds_toArray, List.set_cons_zero, List.set_cons_succ]
  refine wpAnyH_take (i := 15) (oi := { dst := some 71, op := Go.Op.move (Go.Operand.tmp 2), type := 5, pos := "law.go:60", after := #[{ on := 8, ground := Go.Ground.guard }], guard := some (8, true) }) (v := ?v15) rfl (by kernel_rfl) (by kernel_rfl) (by kernel_rfl) (fun _ _ _ h => h) (Or.inl ⟨by rfl, ?y15⟩) (by assumption) ?z15
  case y15 => (intro w hSw; (try dsimp only at hSw); go_simp) <;> with_reducible rfl
  try simp only [Act.put, List.setIfInBounds_toArray, List.set_cons_zero, List.set_cons_succ]
  refine wpAnyH_ready (rs := [12]) (by kernel_rfl) (by simp) ?_
  refine (AllReadyH.cons (o := { dst := some 68, op := Go.Op.call { callee := Go.Callee.value (Go.Operand.func 11), args := #[Go.Operand.tmp 65, Go.Operand.tmp 66, Go.Operand.tmp 67], argTypes := #[25, 3, 5] }, type := 25, pos := "law.go:60", after := #[{ on := 9, ground := Go.Ground.data }, { on := 10, ground := Go.Ground.data }, { on := 11, ground := Go.Ground.data }, { on := 8, ground := Go.Ground.chain }, { on := 8, ground := Go.Ground.guard }], guard := some (8, true) }) rfl (fun K hK => ?_) AllReadyH.nil)
  · skip
    go_simp
    with_reducible refine (H3.out _).mono ?_
    rintro q_ u8 ⟨rfl, hb⟩
    have B8 := Lib.hid (vian HN.out B7.out hb)
    have P8 := Lib.hid (P7.out.below hb)
    have K8 := Lib.hid (K7.out.below hb)
    have A8 := Lib.hid (A7.out.below hb)
    have V8 := Lib.hid (V7.out.below hb)
    clear hb
    clear B7 P7 K7 A7 V7
    refine hK.out _ _ ?s16 (fun hNew => ?r16)
    case s16 => exact ⟨P8.out.2.1, K8.out.2.1, A8.out.2.1, V8.out.2.1⟩
    clear hK K hHeld
    have hHeld := hNew
    clear hNew
    refine wpAnyH_ready (rs := [16]) (by kernel_rfl) (by simp) ?_
    refine (AllReadyH.cons (o := { dst := some 72, op := Go.Op.call { callee := Go.Callee.value (Go.Operand.func 12), args := #[Go.Operand.tmp 69, Go.Operand.tmp 70, Go.Operand.tmp 71], argTypes := #[26, 3, 5] }, type := 26, pos := "law.go:60", after := #[{ on := 13, ground := Go.Ground.data }, { on := 14, ground := Go.Ground.data }, { on := 15, ground := Go.Ground.data }, { on := 12, ground := Go.Ground.chain }, { on := 8, ground := Go.Ground.guard }], guard := some (8, true) }) rfl (fun K hK => ?_) AllReadyH.nil)
    · skip
      go_simp
      with_reducible refine (H4.out _).mono ?_
      rintro q_ u9 ⟨rfl, hb⟩
      have B9 := Lib.hid (vian HN.out B8.out hb)
      have P9 := Lib.hid (P8.out.below hb)
      have K9 := Lib.hid (K8.out.below hb)
      have A9 := Lib.hid (A8.out.below hb)
      have V9 := Lib.hid (V8.out.below hb)
      clear hb
      clear B8 P8 K8 A8 V8
      refine hK.out _ _ ?s17 (fun hNew => ?r17)
      case s17 => exact ⟨P9.out.2.1, K9.out.2.1, A9.out.2.1, V9.out.2.1⟩
      clear hK K hHeld
      have hHeld := hNew
      clear hNew
      refine wpAnyH_take (i := 17) (oi := { dst := some 73, op := Go.Op.binOp Go.BinOp.eql 26 (Go.Operand.tmp 68) (Go.Operand.tmp 72) 26, type := 4, pos := "law.go:60", after := #[{ on := 12, ground := Go.Ground.data }, { on := 16, ground := Go.Ground.data }, { on := 8, ground := Go.Ground.guard }], guard := some (8, true) }) (v := ?v18) rfl (by kernel_rfl) (by kernel_rfl) (by kernel_rfl) (fun _ _ _ h => h) (Or.inl ⟨by rfl, ?y18⟩) (by assumption) ?z18
      case y18 => (intro w hSw; (try dsimp only at hSw); go_simp) <;> with_reducible rfl
      try simp only [Act.put, List.setIfInBounds_toArray, List.set_cons_zero, List.set_cons_succ]
      refine wpAnyH_take (i := 18) (oi := { dst := some 74, op := Go.Op.pick (Go.Operand.tmp 64) (Go.Operand.tmp 73) (Go.Operand.const (Go.Value.bool false)), type := 4, pos := "law.go:60", after := #[{ on := 8, ground := Go.Ground.data }, { on := 17, ground := Go.Ground.data }], guard := none }) (v := ?v19) rfl (by kernel_rfl) (by kernel_rfl) (by kernel_rfl) (fun _ _ _ h => h) (Or.inl ⟨by rfl, ?y19⟩) (by assumption) ?z19
      case y19 => (intro w hSw; (try dsimp only at hSw); go_simp) <;> with_reducible rfl
      try simp only [Act.put, List.setIfInBounds_toArray, List.set_cons_zero, List.set_cons_succ]
      refine wpAnyH_take (i := 19) (oi := { dst := some 75, op := Go.Op.move (Go.Operand.tmp 74), type := 4, pos := "law.go:60", after := #[{ on := 18, ground := Go.Ground.data }, { on := 16, ground := Go.Ground.chain }], guard := none }) (v := ?v20) rfl (by kernel_rfl) (by kernel_rfl) (by kernel_rfl) (fun _ _ _ h => h) (Or.inl ⟨by rfl, ?y20⟩) (by assumption) ?z20
      case y20 => (intro w hSw; (try dsimp only at hSw); go_simp) <;> with_reducible rfl
      try simp only [Act.put, List.setIfInBounds_toArray, List.set_cons_zero, List.set_cons_succ]
      refine wpAnyH_take (i := 20) (oi := { dst := some 76, op := Go.Op.load 25 (Go.Operand.tmp 7), type := 25, pos := "law.go:60", after := #[{ on := 19, ground := Go.Ground.guard }], guard := some (19, true) }) (v := ?v21) rfl (by kernel_rfl) (by kernel_rfl) (by kernel_rfl) (fun _ _ _ h => h) (Or.inl ⟨by rfl, ?y21⟩) (by assumption) ?z21
      case y21 => (intro w hSw; (try dsimp only at hSw); go_simp) <;> with_reducible rfl
      try simp only [Act.put, List.setIfInBounds_toArray, List.set_cons_zero, List.set_cons_succ]
      refine wpAnyH_take (i := 21) (oi := { dst := some 77, op := Go.Op.move (Go.Operand.tmp 1), type := 3, pos := "law.go:60", after := #[{ on := 19, ground := Go.Ground.guard }], guard := some (19, true) }) (v := ?v22) rfl (by kernel_rfl) (by kernel_rfl) (by kernel_rfl) (fun _ _ _ h => h) (Or.inl ⟨by rfl, ?y22⟩) (by assumption) ?z22
      case y22 => (intro w hSw; (try dsimp only at hSw); go_simp) <;> with_reducible rfl
      try simp only [Act.put, List.setIfInBounds_toArray, List.set_cons_zero, List.set_cons_succ]
      refine wpAnyH_take (i := 23) (oi := { dst := some 79, op := Go.Op.load 26 (Go.Operand.tmp 3), type := 26, pos := "law.go:60", after := #[{ on := 19, ground := Go.Ground.guard }], guard := some (19, true) }) (v := ?v23) rfl (by kernel_rfl) (by kernel_rfl) (by kernel_rfl) (fun _ _ _ h => h) (Or.inl ⟨by rfl, ?y23⟩) (by assumption) ?z23
      case y23 => (intro w hSw; (try dsimp only at hSw); go_simp) <;> with_reducible rfl
      try simp only [Act.put, List.setIfInBounds_toArray, List.set_cons_zero, List.set_cons_succ]
      refine wpAnyH_take (i := 24) (oi := { dst := some 80, op := Go.Op.move (Go.Operand.tmp 1), type := 3, pos := "law.go:60", after := #[{ on := 19, ground := Go.Ground.guard }], guard := some (19, true) }) (v := ?v24) rfl (by kernel_rfl) (by kernel_rfl) (by kernel_rfl) (fun _ _ _ h => h) (Or.inl ⟨by rfl, ?y24⟩) (by assumption) ?z24
      case y24 => (intro w hSw; (try dsimp only at hSw); go_simp) <;> with_reducible rfl
      try simp only [Act.put, List.setIfInBounds_toArray, List.set_cons_zero, List.set_cons_succ]
      refine wpAnyH_ready (rs := [22]) (by kernel_rfl) (by simp) ?_
      refine (AllReadyH.cons (o := { dst := some 78, op := Go.Op.call { callee := Go.Callee.value (Go.Operand.func 13), args := #[Go.Operand.tmp 76, Go.Operand.tmp 77], argTypes := #[25, 3] }, type := 5, pos := "law.go:60", after := #[{ on := 20, ground := Go.Ground.data }, { on := 21, ground := Go.Ground.data }, { on := 19, ground := Go.Ground.chain }, { on := 19, ground := Go.Ground.guard }], guard := some (19, true) }) rfl (fun K hK => ?_) AllReadyH.nil)
      · skip
        go_simp
        with_reducible refine (H5.out _).mono ?_
        rintro q_ u10 ⟨rfl, hb⟩
        have B10 := Lib.hid (vian HN.out B9.out hb)
        have P10 := Lib.hid (P9.out.below hb)
        have K10 := Lib.hid (K9.out.below hb)
        have A10 := Lib.hid (A9.out.below hb)
        have V10 := Lib.hid (V9.out.below hb)
        clear hb
        clear B9 P9 K9 A9 V9
        refine hK.out _ _ ?s25 (fun hNew => ?r25)
        case s25 => exact ⟨P10.out.2.1, K10.out.2.1, A10.out.2.1, V10.out.2.1⟩
        clear hK K hHeld
        have hHeld := hNew
        clear hNew
        refine wpAnyH_ready (rs := [25]) (by kernel_rfl) (by simp) ?_
        refine (AllReadyH.cons (o := { dst := some 81, op := Go.Op.call { callee := Go.Callee.value (Go.Operand.func 14), args := #[Go.Operand.tmp 79, Go.Operand.tmp 80], argTypes := #[26, 3] }, type := 5, pos := "law.go:60", after := #[{ on := 23, ground := Go.Ground.data }, { on := 24, ground := Go.Ground.data }, { on := 22, ground := Go.Ground.chain }, { on := 19, ground := Go.Ground.guard }], guard := some (19, true) }) rfl (fun K hK => ?_) AllReadyH.nil)
        · skip
          go_simp
          with_reducible refine (H6.out _).mono ?_
          rintro q_ u11 ⟨rfl, hb⟩
          have B11 := Lib.hid (vian HN.out B10.out hb)
          have P11 := Lib.hid (P10.out.below hb)
          have K11 := Lib.hid (K10.out.below hb)
          have A11 := Lib.hid (A10.out.below hb)
          have V11 := Lib.hid (V10.out.below hb)
          clear hb
          clear B10 P10 K10 A10 V10
          refine hK.out _ _ ?s26 (fun hNew => ?r26)
          case s26 => exact ⟨P11.out.2.1, K11.out.2.1, A11.out.2.1, V11.out.2.1⟩
          clear hK K hHeld
          have hHeld := hNew
          clear hNew
          refine wpAnyH_take (i := 26) (oi := { dst := some 82, op := Go.Op.binOp Go.BinOp.eql 5 (Go.Operand.tmp 78) (Go.Operand.tmp 81) 5, type := 4, pos := "law.go:60", after := #[{ on := 22, ground := Go.Ground.data }, { on := 25, ground := Go.Ground.data }, { on := 19, ground := Go.Ground.guard }], guard := some (19, true) }) (v := ?v27) rfl (by kernel_rfl) (by kernel_rfl) (by kernel_rfl) (fun _ _ _ h => h) (Or.inl ⟨by rfl, ?y27⟩) (by assumption) ?z27
          case y27 => (intro w hSw; (try dsimp only at hSw); go_simp) <;> with_reducible rfl
          try simp only [Act.put, List.setIfInBounds_toArray, List.set_cons_zero, List.set_cons_succ]
          refine wpAnyH_take (i := 27) (oi := { dst := some 83, op := Go.Op.pick (Go.Operand.tmp 75) (Go.Operand.tmp 82) (Go.Operand.const (Go.Value.bool false)), type := 4, pos := "law.go:60", after := #[{ on := 19, ground := Go.Ground.data }, { on := 26, ground := Go.Ground.data }], guard := none }) (v := ?v28) rfl (by kernel_rfl) (by kernel_rfl) (by kernel_rfl) (fun _ _ _ h => h) (Or.inl ⟨by rfl, ?y28⟩) (by assumption) ?z28
          case y28 => (intro w hSw; (try dsimp only at hSw); go_simp) <;> with_reducible rfl
          try simp only [Act.put, List.setIfInBounds_toArray, List.set_cons_zero, List.set_cons_succ]
          refine wpAnyH_take (i := 28) (oi := { dst := some 6, op := Go.Op.assign (Go.Operand.tmp 83), type := 4, pos := "law.go:60", after := #[{ on := 27, ground := Go.Ground.data }, { on := 25, ground := Go.Ground.chain }, { on := 0, ground := Go.Ground.phase }, { on := 1, ground := Go.Ground.phase }, { on := 2, ground := Go.Ground.phase }, { on := 3, ground := Go.Ground.phase }, { on := 4, ground := Go.Ground.phase }, { on := 5, ground := Go.Ground.phase }, { on := 6, ground := Go.Ground.phase }, { on := 7, ground := Go.Ground.phase }, { on := 8, ground := Go.Ground.phase }, { on := 9, ground := Go.Ground.phase }, { on := 10, ground := Go.Ground.phase }, { on := 11, ground := Go.Ground.phase }, { on := 12, ground := Go.Ground.phase }, { on := 13, ground := Go.Ground.phase }, { on := 14, ground := Go.Ground.phase }, { on := 15, ground := Go.Ground.phase }, { on := 16, ground := Go.Ground.phase }, { on := 17, ground := Go.Ground.phase }, { on := 18, ground := Go.Ground.phase }, { on := 19, ground := Go.Ground.phase }, { on := 20, ground := Go.Ground.phase }, { on := 21, ground := Go.Ground.phase }, { on := 22, ground := Go.Ground.phase }, { on := 23, ground := Go.Ground.phase }, { on := 24, ground := Go.Ground.phase }, { on := 25, ground := Go.Ground.phase }, { on := 26, ground := Go.Ground.phase }, { on := 27, ground := Go.Ground.phase }], guard := none }) (v := ?v29) rfl (by kernel_rfl) (by kernel_rfl) (by kernel_rfl) (fun _ _ _ h => h) (Or.inl ⟨by rfl, ?y29⟩) (by assumption) ?z29
          case y29 => (intro w hSw; (try dsimp only at hSw); go_simp) <;> with_reducible rfl
          try simp only [Act.put, List.setIfInBounds_toArray, List.set_cons_zero, List.set_cons_succ]
          refine wpAnyH_done (by kernel_rfl) ?_ _
          clear hHeld
          go_wp2
          go_ret
          exact ⟨rfl, B11.out⟩
theorem any_walk (p : PV) (k x : Int) (hd : 0 ≤ p.d ∧ p.d < 256) (hc : 0 ≤ p.c ∧ p.c < 256) (hl : 0 ≤ p.l ∧ p.l < 256) (x0 : 0 ≤ x) (x1 : x < 256) (w : World) : Calls Try.prog 4 #[.agg #[.int .u8 p.d, .int .u8 p.c, .int .u8 p.l, .int .i64 p.b, .int .i64 p.n, .int .i64 p.s], .int .i64 k, .int .u8 x] w fun q_ w' => q_ = .returned (.bool true) ∧ Below w.heap.size w w' := by
  by_cases g0 : p.s < 0
  · exact any_b0 p k x g0 w
  by_cases g1 : 65535 < p.s
  · exact any_b1 p k x g0 g1 w
  by_cases g2 : p.n < 0
  · exact any_b2 p k x g0 g1 g2 w
  by_cases g3 : 127 < p.n
  · exact any_b3 p k x g0 g1 g2 g3 w
  by_cases g4 : p.b < -1
  · exact any_b4 p k x g0 g1 g2 g3 g4 w
  by_cases g5 : 9 < p.b
  · exact any_b5 p k x g0 g1 g2 g3 g4 g5 w
  have ok : p.ok := ⟨hd, hc, hl, by omega, by omega, by omega⟩
  exact any_g p _ _ _ k x _ g0 g1 g2 g3 g4 g5 (fun W => tick_c p _ _ ok rfl rfl W) (fun W => rtick_c p _ _ ok rfl rfl W) (fun W => write_c p _ k x ok x0 x1 rfl W) (fun W => rwrite_c p _ k x ok x0 x1 rfl W) (fun W => read_c p k _ ok rfl W) (fun W => rread_c p k _ ok rfl W) w
end Go.Proofs.Ytlgdfikmdlhobaa
