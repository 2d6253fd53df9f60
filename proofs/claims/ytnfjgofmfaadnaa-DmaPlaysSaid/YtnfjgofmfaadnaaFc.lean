/-
  The functions with calls within, and the ways put together: for every copier; no condition but that each number fits.
-/
import Derived.Test.YtnfjgofmfaadnaaFn
import Derived.Deep.Cut
import Derived.BigQuiet
import Derived.WalkSmall
namespace Go.Proofs.Ytnfjgofmfaadnaa
open Go.ChangeShapes Go.WideShapes Go.ChangeAt Go.RowKit
set_option linter.unusedVariables false
set_option linter.unusedSimpArgs false
set_option maxRecDepth 100000
theorem busy_c (c : CV) (b : Bool) (h : busyV c = b) (w : World) : Calls Try.prog 13 #[.agg #[.int .u8 c.p, .int .i64 c.l]] w fun q_ w' => q_ = .returned (.bool b) ∧ Below w.heap.size w w' := by
  subst h
  unfold busyV
  by_cases g : 0 < c.l
  · rw [decide_eq_true g]; exact busy_1 _ _ g w
  · rw [decide_eq_false g]; exact busy_0 _ _ g w
theorem start_c (p l y : Int) (h0 : 0 ≤ p) (h1 : p < 256) (h : baseV p = y) (w : World) : Calls Try.prog 16 #[.agg #[.int .u8 p, .int .i64 l]] w fun q_ w' => q_ = .returned (.int .u16 y) ∧ Below w.heap.size w w' := by
  subst h
  unfold baseV
  by_cases g : 224 ≤ p
  · rw [if_pos g]; exact start_1 p l h0 h1 g _ (by omega) w
  · rw [if_neg g]; exact start_0 p l h0 h1 g _ rfl w
set_option maxHeartbeats 2000000 in
theorem lets_0 (xp xl : Int) (a : Int) (ha : 0 ≤ a) (ha2 : a < 65536)  (H : ∀ W, Calls Try.prog 13 #[.agg #[.int .u8 xp, .int .i64 xl]] W fun q_ w' => q_ = .returned (.bool false) ∧ Below W.heap.size W w') (w : World) : Calls Try.prog 14 #[.agg #[.int .u8 xp, .int .i64 xl], .int .u16 a] w fun q_ w' => q_ = .returned (.bool true) ∧ Below w.heap.size w w' := by
  suffices hall : ∀ (n_ : Nat) (W0 : World), n_ ≤ W0.heap.size → Below n_ W0 w → Calls Try.prog 14 #[.agg #[.int .u8 xp, .int .i64 xl], .int .u16 a] w fun q_ w' => q_ = .returned (.bool true) ∧ Below n_ W0 w' from hall _ _ (Nat.le_refl _) (Below.refl _ _)
  intro n_ W0 hn hB
  have HN := Lib.hid hn
  have BB := Lib.hid hB
  clear hn hB
  have SH := Lib.hid H
  clear H
  have hnot : ∀ (x : Bool) (w : World), (Op.unary .not (.bool x)).run Try.prog w = .ok (.bool (!x)) w := fun _ _ => rfl
  go_enter Try.func14, Try.ntmps14
  have Q_ := own1 w (.cells #[.int .u8 xp, .int .i64 xl] 26)
  have B0 := Lib.hid (vian HN.out BB.out Q_)
  have P0 := Lib.hid (show Has (w.alloc (.cells #[.int .u8 xp, .int .i64 xl] 26)) w.heap.size #[.int .u8 xp, .int .i64 xl] by simpa using Has.new w #[.int .u8 xp, .int .i64 xl] 26)
  have LP := Lib.hid (show n_ ≤ w.heap.size + 0 from Nat.le_add_right_of_le (Nat.le_trans HN.out BB.out.size))
  simp only [Nat.add_zero] at LP
  clear Q_
  go_upto_region 1 with (fail)
  generalize (w.alloc (.cells #[.int .u8 xp, .int .i64 xl] 26)) = u0 at B0 P0 ⊢
  generalize w.heap.size = pb at P0 LP  ⊢
  obtain ⟨hc0, hf0⟩ := P0.out.out
  go_wp2_with fail
  with_reducible refine (SH.out _).mono ?_
  rintro q_ u1 ⟨rfl, hb⟩
  clear hc0 hf0
  have B1 := Lib.hid (vian HN.out B0.out hb)
  have P1 := Lib.hid (P0.out.below hb)
  clear hb B0 P0
  go_wp2
  go_ret
  exact ⟨rfl, B1.out⟩
set_option maxHeartbeats 2000000 in
theorem lets_1 (xp xl : Int) (a : Int) (ha : 0 ≤ a) (ha2 : a < 65536) (h : 65280 ≤ a) (H : ∀ W, Calls Try.prog 13 #[.agg #[.int .u8 xp, .int .i64 xl]] W fun q_ w' => q_ = .returned (.bool true) ∧ Below W.heap.size W w') (w : World) : Calls Try.prog 14 #[.agg #[.int .u8 xp, .int .i64 xl], .int .u16 a] w fun q_ w' => q_ = .returned (.bool true) ∧ Below w.heap.size w w' := by
  suffices hall : ∀ (n_ : Nat) (W0 : World), n_ ≤ W0.heap.size → Below n_ W0 w → Calls Try.prog 14 #[.agg #[.int .u8 xp, .int .i64 xl], .int .u16 a] w fun q_ w' => q_ = .returned (.bool true) ∧ Below n_ W0 w' from hall _ _ (Nat.le_refl _) (Below.refl _ _)
  intro n_ W0 hn hB
  have HN := Lib.hid hn
  have BB := Lib.hid hB
  clear hn hB
  have SH := Lib.hid H
  clear H
  have hd : decide (65280 ≤ a) = true := by simpa using h
  have hnot : ∀ (x : Bool) (w : World), (Op.unary .not (.bool x)).run Try.prog w = .ok (.bool (!x)) w := fun _ _ => rfl
  go_enter Try.func14, Try.ntmps14
  have Q_ := own1 w (.cells #[.int .u8 xp, .int .i64 xl] 26)
  have B0 := Lib.hid (vian HN.out BB.out Q_)
  have P0 := Lib.hid (show Has (w.alloc (.cells #[.int .u8 xp, .int .i64 xl] 26)) w.heap.size #[.int .u8 xp, .int .i64 xl] by simpa using Has.new w #[.int .u8 xp, .int .i64 xl] 26)
  have LP := Lib.hid (show n_ ≤ w.heap.size + 0 from Nat.le_add_right_of_le (Nat.le_trans HN.out BB.out.size))
  simp only [Nat.add_zero] at LP
  clear Q_
  go_upto_region 1 with (fail)
  generalize (w.alloc (.cells #[.int .u8 xp, .int .i64 xl] 26)) = u0 at B0 P0 ⊢
  generalize w.heap.size = pb at P0 LP  ⊢
  obtain ⟨hc0, hf0⟩ := P0.out.out
  go_wp2_with fail
  with_reducible refine (SH.out _).mono ?_
  rintro q_ u1 ⟨rfl, hb⟩
  clear hc0 hf0
  have B1 := Lib.hid (vian HN.out B0.out hb)
  have P1 := Lib.hid (P0.out.below hb)
  clear hb B0 P0
  go_wp2
  go_ret
  exact ⟨rfl, B1.out⟩
set_option maxHeartbeats 2000000 in
theorem lets_2 (xp xl : Int) (a : Int) (ha : 0 ≤ a) (ha2 : a < 65536) (h : ¬ 65280 ≤ a) (H : ∀ W, Calls Try.prog 13 #[.agg #[.int .u8 xp, .int .i64 xl]] W fun q_ w' => q_ = .returned (.bool true) ∧ Below W.heap.size W w') (w : World) : Calls Try.prog 14 #[.agg #[.int .u8 xp, .int .i64 xl], .int .u16 a] w fun q_ w' => q_ = .returned (.bool false) ∧ Below w.heap.size w w' := by
  suffices hall : ∀ (n_ : Nat) (W0 : World), n_ ≤ W0.heap.size → Below n_ W0 w → Calls Try.prog 14 #[.agg #[.int .u8 xp, .int .i64 xl], .int .u16 a] w fun q_ w' => q_ = .returned (.bool false) ∧ Below n_ W0 w' from hall _ _ (Nat.le_refl _) (Below.refl _ _)
  intro n_ W0 hn hB
  have HN := Lib.hid hn
  have BB := Lib.hid hB
  clear hn hB
  have SH := Lib.hid H
  clear H
  have hd : decide (65280 ≤ a) = false := by simpa using h
  have hnot : ∀ (x : Bool) (w : World), (Op.unary .not (.bool x)).run Try.prog w = .ok (.bool (!x)) w := fun _ _ => rfl
  go_enter Try.func14, Try.ntmps14
  have Q_ := own1 w (.cells #[.int .u8 xp, .int .i64 xl] 26)
  have B0 := Lib.hid (vian HN.out BB.out Q_)
  have P0 := Lib.hid (show Has (w.alloc (.cells #[.int .u8 xp, .int .i64 xl] 26)) w.heap.size #[.int .u8 xp, .int .i64 xl] by simpa using Has.new w #[.int .u8 xp, .int .i64 xl] 26)
  have LP := Lib.hid (show n_ ≤ w.heap.size + 0 from Nat.le_add_right_of_le (Nat.le_trans HN.out BB.out.size))
  simp only [Nat.add_zero] at LP
  clear Q_
  go_upto_region 1 with (fail)
  generalize (w.alloc (.cells #[.int .u8 xp, .int .i64 xl] 26)) = u0 at B0 P0 ⊢
  generalize w.heap.size = pb at P0 LP  ⊢
  obtain ⟨hc0, hf0⟩ := P0.out.out
  go_wp2_with fail
  with_reducible refine (SH.out _).mono ?_
  rintro q_ u1 ⟨rfl, hb⟩
  clear hc0 hf0
  have B1 := Lib.hid (vian HN.out B0.out hb)
  have P1 := Lib.hid (P0.out.below hb)
  clear hb B0 P0
  go_wp2
  go_ret
  exact ⟨rfl, B1.out⟩
set_option maxHeartbeats 2000000 in
theorem tick_0 (xp xl : Int) (H : ∀ W, Calls Try.prog 13 #[.agg #[.int .u8 xp, .int .i64 xl]] W fun q_ w' => q_ = .returned (.bool false) ∧ Below W.heap.size W w') (w : World) : Calls Try.prog 11 #[.agg #[.int .u8 xp, .int .i64 xl]] w fun q_ w' => q_ = .returned (.tuple #[.agg #[.int .u8 xp, .int .i64 xl], .int .u16 0, .int .i64 0, .bool false]) ∧ Below w.heap.size w w' := by
  suffices hall : ∀ (n_ : Nat) (W0 : World), n_ ≤ W0.heap.size → Below n_ W0 w → Calls Try.prog 11 #[.agg #[.int .u8 xp, .int .i64 xl]] w fun q_ w' => q_ = .returned (.tuple #[.agg #[.int .u8 xp, .int .i64 xl], .int .u16 0, .int .i64 0, .bool false]) ∧ Below n_ W0 w' from hall _ _ (Nat.le_refl _) (Below.refl _ _)
  intro n_ W0 hn hB
  have HN := Lib.hid hn
  have BB := Lib.hid hB
  clear hn hB
  have SH := Lib.hid H
  clear H
  have hnot : ∀ (x : Bool) (w : World), (Op.unary .not (.bool x)).run Try.prog w = .ok (.bool (!x)) w := fun _ _ => rfl
  go_enter Try.func11, Try.ntmps11
  have Q_ := own2 w (.cells #[.int .u8 xp, .int .i64 xl] 26) (.cells #[.int .u8 0, .int .i64 0] 26)
  have B0 := Lib.hid (vian HN.out BB.out Q_)
  have P0 := Lib.hid (show Has ((w.alloc (.cells #[.int .u8 xp, .int .i64 xl] 26)).alloc (.cells #[.int .u8 0, .int .i64 0] 26)) w.heap.size #[.int .u8 xp, .int .i64 xl] by simpa using (Has.new w #[.int .u8 xp, .int .i64 xl] 26).alloc (.cells #[.int .u8 0, .int .i64 0] 26))
  have LP := Lib.hid (show n_ ≤ w.heap.size + 0 from Nat.le_add_right_of_le (Nat.le_trans HN.out BB.out.size))
  have R0 := Lib.hid (show Has ((w.alloc (.cells #[.int .u8 xp, .int .i64 xl] 26)).alloc (.cells #[.int .u8 0, .int .i64 0] 26)) (w.heap.size + 1) #[.int .u8 0, .int .i64 0] by simpa using Has.new (w.alloc (.cells #[.int .u8 xp, .int .i64 xl] 26)) #[.int .u8 0, .int .i64 0] 26)
  have LR := Lib.hid (show n_ ≤ (w.heap.size + 1) from Nat.le_add_right_of_le (Nat.le_trans HN.out BB.out.size))
  have NPR := Lib.hid (show w.heap.size + 0 ≠ w.heap.size + 1 by omega)
  simp only [Nat.add_zero] at LP NPR
  clear Q_
  go_upto_region 1 with (fail)
  generalize ((w.alloc (.cells #[.int .u8 xp, .int .i64 xl] 26)).alloc (.cells #[.int .u8 0, .int .i64 0] 26)) = u0 at B0 P0 R0 ⊢
  generalize w.heap.size + 1 = rb at R0 LR NPR ⊢
  generalize w.heap.size = pb at P0 LP NPR ⊢
  obtain ⟨hc0, hf0⟩ := P0.out.out
  go_wp2_with fail
  with_reducible refine (SH.out _).mono ?_
  rintro q_ u1 ⟨rfl, hb⟩
  clear hc0 hf0
  have B1 := Lib.hid (vian HN.out B0.out hb)
  have P1 := Lib.hid (P0.out.below hb)
  have R1 := Lib.hid (R0.out.below hb)
  clear hb B0 P0 R0
  obtain ⟨hc, hf⟩ := P1.out.out
  obtain ⟨hc1, hf1⟩ := R1.out.out
  go_wp2
  refine bodyPost_ret (v := .tuple #[.agg #[.int .u8 xp, .int .i64 xl], .int .u16 0, .int .i64 0, .bool false]) ?_ rfl ⟨rfl, set2 B1.out rb LR.out _ _⟩
  simp [results, Try.results11, go_sem, hc, hf, hc1, hf1]
set_option maxHeartbeats 2000000 in
theorem tick_1 (xp xl : Int) (hl : 0 < xl) (hl2 : xl ≤ 1000) (z u y f : Int) (hz : 160 - xl = z) (hu : xl - 1 = u) (hf : IntKind.u16.wrap (y + IntKind.u16.wrap z) = f) (H : ∀ W, Calls Try.prog 13 #[.agg #[.int .u8 xp, .int .i64 xl]] W fun q_ w' => q_ = .returned (.bool true) ∧ Below W.heap.size W w') (H2 : ∀ W, Calls Try.prog 16 #[.agg #[.int .u8 xp, .int .i64 u]] W fun q_ w' => q_ = .returned (.int .u16 y) ∧ Below W.heap.size W w') (w : World) : Calls Try.prog 11 #[.agg #[.int .u8 xp, .int .i64 xl]] w fun q_ w' => q_ = .returned (.tuple #[.agg #[.int .u8 xp, .int .i64 u], .int .u16 f, .int .i64 z, .bool true]) ∧ Below w.heap.size w w' := by
  suffices hall : ∀ (n_ : Nat) (W0 : World), n_ ≤ W0.heap.size → Below n_ W0 w → Calls Try.prog 11 #[.agg #[.int .u8 xp, .int .i64 xl]] w fun q_ w' => q_ = .returned (.tuple #[.agg #[.int .u8 xp, .int .i64 u], .int .u16 f, .int .i64 z, .bool true]) ∧ Below n_ W0 w' from hall _ _ (Nat.le_refl _) (Below.refl _ _)
  intro n_ W0 hn hB
  have HN := Lib.hid hn
  have BB := Lib.hid hB
  clear hn hB
  have SH := Lib.hid H
  have SH2 := Lib.hid H2
  clear H H2
  have hnot : ∀ (x : Bool) (w : World), (Op.unary .not (.bool x)).run Try.prog w = .ok (.bool (!x)) w := fun _ _ => rfl
  go_enter Try.func11, Try.ntmps11
  have Q_ := own2 w (.cells #[.int .u8 xp, .int .i64 xl] 26) (.cells #[.int .u8 0, .int .i64 0] 26)
  have B0 := Lib.hid (vian HN.out BB.out Q_)
  have P0 := Lib.hid (show Has ((w.alloc (.cells #[.int .u8 xp, .int .i64 xl] 26)).alloc (.cells #[.int .u8 0, .int .i64 0] 26)) w.heap.size #[.int .u8 xp, .int .i64 xl] by simpa using (Has.new w #[.int .u8 xp, .int .i64 xl] 26).alloc (.cells #[.int .u8 0, .int .i64 0] 26))
  have LP := Lib.hid (show n_ ≤ w.heap.size + 0 from Nat.le_add_right_of_le (Nat.le_trans HN.out BB.out.size))
  have R0 := Lib.hid (show Has ((w.alloc (.cells #[.int .u8 xp, .int .i64 xl] 26)).alloc (.cells #[.int .u8 0, .int .i64 0] 26)) (w.heap.size + 1) #[.int .u8 0, .int .i64 0] by simpa using Has.new (w.alloc (.cells #[.int .u8 xp, .int .i64 xl] 26)) #[.int .u8 0, .int .i64 0] 26)
  have LR := Lib.hid (show n_ ≤ (w.heap.size + 1) from Nat.le_add_right_of_le (Nat.le_trans HN.out BB.out.size))
  have NPR := Lib.hid (show w.heap.size + 0 ≠ w.heap.size + 1 by omega)
  simp only [Nat.add_zero] at LP NPR
  clear Q_
  go_upto_region 1 with (fail)
  generalize ((w.alloc (.cells #[.int .u8 xp, .int .i64 xl] 26)).alloc (.cells #[.int .u8 0, .int .i64 0] 26)) = u0 at B0 P0 R0 ⊢
  generalize w.heap.size + 1 = rb at R0 LR NPR ⊢
  generalize w.heap.size = pb at P0 LP NPR ⊢
  obtain ⟨hc0, hf0⟩ := P0.out.out
  go_wp2_with fail
  with_reducible refine (SH.out _).mono ?_
  rintro q_ u1 ⟨rfl, hb⟩
  clear hc0 hf0
  have B1 := Lib.hid (vian HN.out B0.out hb)
  have P1 := Lib.hid (P0.out.below hb)
  have R1 := Lib.hid (R0.out.below hb)
  clear hb B0 P0 R0
  have P2 := Lib.hid (show Has (u1.setCell ⟨pb, 1, none⟩ (.int .i64 u)) pb #[.int .u8 xp, .int .i64 u] by simpa using P1.out.set 1 (.int .i64 u) (by simp))
  have R2 := Lib.hid (R1.out.far ⟨pb, 1, none⟩ (.int .i64 u) NPR.out)
  have B2 := Lib.hid (store1 B1.out LP.out 1 (.int .i64 u))
  obtain ⟨hc, hfz⟩ := P1.out.out
  go_upto_region 5 with (fail)
  clear hc hfz P1 R1 B1
  generalize (u1.setCell ⟨pb, 1, none⟩ (.int .i64 u)) = u2 at P2 R2 B2 ⊢
  have B3 := Lib.hid B2.out.drew
  have P3 := Lib.hid P2.out.drew
  have R3 := Lib.hid R2.out.drew
  clear B2 P2 R2
  refine wp_region_held_drew (S := (fun w' => (∀ o, w'.cell? ⟨pb, o, none⟩ = #[.int .u8 xp, .int .i64 u][o]?))) (by kernel_rfl) (P3.out.2.1) (fun hHeld => ?_)
  generalize World.drew u2 = u3 at hHeld B3 P3 R3 ⊢
  refine wpAnyH_take (i := 0) (oi := { dst := some 18, op := Go.Op.load 26 (Go.Operand.tmp 1), type := 26, pos := "dma.go:42", after := #[], guard := none }) (v := ?v1) rfl (by kernel_rfl) (by kernel_rfl) (by kernel_rfl) (fun _ _ _ h => h) (Or.inl ⟨by rfl, ?y1⟩) (by assumption) ?z1
  case y1 => (intro w hSw; (try dsimp only at hSw); go_simp) <;> with_reducible rfl
  try simp only [Act.put, List.setIfInBounds_toArray, List.set_cons_zero, List.set_cons_succ]
  refine wpAnyH_take (i := 1) (oi := { dst := some 19, op := Go.Op.load 26 (Go.Operand.tmp 1), type := 26, pos := "dma.go:42", after := #[], guard := none }) (v := ?v2) rfl (by kernel_rfl) (by kernel_rfl) (by kernel_rfl) (fun _ _ _ h => h) (Or.inl ⟨by rfl, ?y2⟩) (by assumption) ?z2
  case y2 => (intro w hSw; (try dsimp only at hSw); go_simp) <;> with_reducible rfl
  try simp only [Act.put, List.setIfInBounds_toArray, List.set_cons_zero, List.set_cons_succ]
  refine wpAnyH_take (i := 3) (oi := { dst := some 21, op := Go.Op.move (Go.Operand.tmp 6), type := 3, pos := "dma.go:42", after := #[{ on := 7, ground := Go.Ground.gcOnly Go.Departure.lateStores }], guard := none }) (v := ?v3) rfl (by kernel_rfl) (by kernel_rfl) (by kernel_rfl) (fun _ _ _ h => h) (Or.inl ⟨by rfl, ?y3⟩) (by assumption) ?z3
  case y3 => (intro w hSw; (try dsimp only at hSw); go_simp) <;> with_reducible rfl
  try simp only [Act.put, List.setIfInBounds_toArray, List.set_cons_zero, List.set_cons_succ]
  refine wpAnyH_take (i := 4) (oi := { dst := some 22, op := Go.Op.convert 3 23 (Go.Operand.tmp 21), type := 23, pos := "dma.go:42", after := #[{ on := 3, ground := Go.Ground.data }, { on := 7, ground := Go.Ground.gcOnly Go.Departure.lateStores }], guard := none }) (v := ?v4) rfl (by kernel_rfl) (by kernel_rfl) (by kernel_rfl) (fun _ _ _ h => h) (Or.inl ⟨by rfl, ?y4⟩) (by assumption) ?z4
  case y4 => (intro w hSw; (try dsimp only at hSw); go_simp) <;> with_reducible rfl
  try simp only [Act.put, List.setIfInBounds_toArray, List.set_cons_zero, List.set_cons_succ]
  refine wpAnyH_take (i := 6) (oi := { dst := some 24, op := Go.Op.move (Go.Operand.tmp 6), type := 3, pos := "dma.go:42", after := #[{ on := 8, ground := Go.Ground.gcOnly Go.Departure.lateStores }], guard := none }) (v := ?v5) rfl (by kernel_rfl) (by kernel_rfl) (by kernel_rfl) (fun _ _ _ h => h) (Or.inl ⟨by rfl, ?y5⟩) (by assumption) ?z5
  case y5 => (intro w hSw; (try dsimp only at hSw); go_simp) <;> with_reducible rfl
  try simp only [Act.put, List.setIfInBounds_toArray, List.set_cons_zero, List.set_cons_succ]
  refine wpAnyH_ready (rs := [2]) (by kernel_rfl) (by simp) ?_
  refine (AllReadyH.cons (o := { dst := some 20, op := Go.Op.call { callee := Go.Callee.value (Go.Operand.func 16), args := #[Go.Operand.tmp 19], argTypes := #[26] }, type := 23, pos := "dma.go:42", after := #[{ on := 1, ground := Go.Ground.data }], guard := none }) rfl (fun K hK => ?_) AllReadyH.nil)
  · skip
    go_simp
    with_reducible refine (SH2.out _).mono ?_
    rintro q_ u4 ⟨rfl, hb⟩
    have B4 := Lib.hid (vian HN.out B3.out hb)
    have P4 := Lib.hid (P3.out.below hb)
    have R4 := Lib.hid (R3.out.below hb)
    clear hb
    clear B3 P3 R3
    refine hK.out _ _ ?s6 (fun hNew => ?r6)
    case s6 => exact (P4.out.2.1)
    clear hK K hHeld
    have hHeld := hNew
    clear hNew
    refine wpAnyH_take (i := 5) (oi := { dst := some 23, op := Go.Op.binOp Go.BinOp.add 23 (Go.Operand.tmp 20) (Go.Operand.tmp 22) 23, type := 23, pos := "dma.go:42", after := #[{ on := 2, ground := Go.Ground.data }, { on := 4, ground := Go.Ground.data }, { on := 7, ground := Go.Ground.gcOnly Go.Departure.lateStores }], guard := none }) (v := ?v7) rfl (by kernel_rfl) (by kernel_rfl) (by kernel_rfl) (fun _ _ _ h => h) (Or.inl ⟨by rfl, ?y7⟩) (by assumption) ?z7
    case y7 => (intro w hSw; (try dsimp only at hSw); go_simp) <;> with_reducible rfl
    try simp only [Act.put, List.setIfInBounds_toArray, List.set_cons_zero, List.set_cons_succ]
    refine wpAnyH_ready (rs := [7]) (by kernel_rfl) (by simp) ?_
    refine (AllReadyH.cons (o := { dst := none, op := Go.Op.store 26 (Go.Operand.tmp 2) (Go.Operand.tmp 18), type := 0, pos := "dma.go:42", after := #[{ on := 0, ground := Go.Ground.data }, { on := 2, ground := Go.Ground.chain }, { on := 0, ground := Go.Ground.phase }, { on := 1, ground := Go.Ground.textOnly Go.Departure.lateStores }, { on := 2, ground := Go.Ground.textOnly Go.Departure.lateStoresUnsure }, { on := 3, ground := Go.Ground.textOnly Go.Departure.lateStores }, { on := 4, ground := Go.Ground.textOnly Go.Departure.lateStores }, { on := 5, ground := Go.Ground.textOnly Go.Departure.lateStores }, { on := 6, ground := Go.Ground.textOnly Go.Departure.lateStores }], guard := none }) rfl (fun K hK => ?_) AllReadyH.nil)
    · skip
      obtain ⟨hc, hfz⟩ := R4.out.out
      go_simp
      clear hc hfz
      have R5 := Lib.hid (R4.out.put2 (.int .u8 xp) (.int .i64 u))
      have P5 := Lib.hid (P4.out.far2 NPR.out (.int .u8 xp) (.int .i64 u))
      have B5 := Lib.hid (set2 B4.out rb LR.out (.int .u8 xp) (.int .i64 u))
      clear B4 P4 R4
      refine hK.out _ _ ?s8 (fun hNew => ?r8)
      case s8 => exact (P5.out.2.1)
      clear hK K hHeld
      have hHeld := hNew
      clear hNew
      generalize (World.setCell (World.setCell _ ⟨rb, 0, none⟩ _) ⟨rb, 1, none⟩ _) = u5 at hHeld B5 P5 R5 ⊢
      refine wpAnyH_take (i := 8) (oi := { dst := some 3, op := Go.Op.assign (Go.Operand.tmp 23), type := 23, pos := "dma.go:42", after := #[{ on := 5, ground := Go.Ground.data }, { on := 7, ground := Go.Ground.chain }, { on := 0, ground := Go.Ground.phase }, { on := 1, ground := Go.Ground.phase }, { on := 2, ground := Go.Ground.phase }, { on := 3, ground := Go.Ground.phase }, { on := 4, ground := Go.Ground.phase }, { on := 5, ground := Go.Ground.phase }, { on := 6, ground := Go.Ground.textOnly Go.Departure.lateStores }, { on := 7, ground := Go.Ground.phase }], guard := none }) (v := ?v9) rfl (by kernel_rfl) (by kernel_rfl) (by kernel_rfl) (fun _ _ _ h => h) (Or.inl ⟨by rfl, ?y9⟩) (by assumption) ?z9
      case y9 => (intro w hSw; (try dsimp only at hSw); go_simp) <;> with_reducible rfl
      try simp only [Act.put, List.setIfInBounds_toArray, List.set_cons_zero, List.set_cons_succ]
      refine wpAnyH_take (i := 9) (oi := { dst := some 4, op := Go.Op.assign (Go.Operand.tmp 24), type := 3, pos := "dma.go:42", after := #[{ on := 6, ground := Go.Ground.data }, { on := 8, ground := Go.Ground.chain }, { on := 0, ground := Go.Ground.phase }, { on := 1, ground := Go.Ground.phase }, { on := 2, ground := Go.Ground.phase }, { on := 3, ground := Go.Ground.phase }, { on := 4, ground := Go.Ground.phase }, { on := 5, ground := Go.Ground.phase }, { on := 6, ground := Go.Ground.phase }, { on := 7, ground := Go.Ground.phase }, { on := 8, ground := Go.Ground.phase }], guard := none }) (v := ?v10) rfl (by kernel_rfl) (by kernel_rfl) (by kernel_rfl) (fun _ _ _ h => h) (Or.inl ⟨by rfl, ?y10⟩) (by assumption) ?z10
      case y10 => (intro w hSw; (try dsimp only at hSw); go_simp) <;> with_reducible rfl
      try simp only [Act.put, List.setIfInBounds_toArray, List.set_cons_zero, List.set_cons_succ]
      refine wpAnyH_take (i := 10) (oi := { dst := some 5, op := Go.Op.assign (Go.Operand.const (Go.Value.bool true)), type := 4, pos := "dma.go:42", after := #[{ on := 9, ground := Go.Ground.chain }, { on := 0, ground := Go.Ground.phase }, { on := 1, ground := Go.Ground.phase }, { on := 2, ground := Go.Ground.phase }, { on := 3, ground := Go.Ground.phase }, { on := 4, ground := Go.Ground.phase }, { on := 5, ground := Go.Ground.phase }, { on := 6, ground := Go.Ground.phase }, { on := 7, ground := Go.Ground.phase }, { on := 8, ground := Go.Ground.phase }, { on := 9, ground := Go.Ground.phase }], guard := none }) (v := ?v11) rfl (by kernel_rfl) (by kernel_rfl) (by kernel_rfl) (fun _ _ _ h => h) (Or.inl ⟨by rfl, ?y11⟩) (by assumption) ?z11
      case y11 => (intro w hSw; (try dsimp only at hSw); go_simp) <;> with_reducible rfl
      try simp only [Act.put, List.setIfInBounds_toArray, List.set_cons_zero, List.set_cons_succ]
      refine wpAnyH_done (by kernel_rfl) ?_ _
      clear hHeld
      obtain ⟨hc, hfz⟩ := R5.out.out
      go_wp2
      refine bodyPost_ret (v := .tuple #[.agg #[.int .u8 xp, .int .i64 u], .int .u16 f, .int .i64 z, .bool true]) ?_ rfl ⟨rfl, B5.out⟩
      simp [results, Try.results11, go_sem, hc, hfz]
theorem tick_c (c q : CV) (f n : Int) (b : Bool) (h : c.ok) (e : tickV c = q) (e1 : fromV c = f) (e2 : numV c = n) (e3 : busyV c = b) (w : World) : Calls Try.prog 11 #[.agg #[.int .u8 c.p, .int .i64 c.l]] w fun q_ w' => q_ = .returned (.tuple #[.agg #[.int .u8 q.p, .int .i64 q.l], .int .u16 f, .int .i64 n, .bool b]) ∧ Below w.heap.size w w' := by
  obtain ⟨⟨hp, hp2⟩, ⟨hl, hl2⟩⟩ := h
  subst e e1 e2 e3
  by_cases g : c.l ≤ 0
  · obtain ⟨i1, i2, i3, i4⟩ := tick_idle g
    rw [i1, i2, i3, i4]
    exact tick_0 c.p c.l (fun W => busy_c c _ i4 W) w
  · obtain ⟨i1, i2, i3, i4⟩ := tick_busy g
    rw [i1, i2, i3, i4]
    exact tick_1 c.p c.l (by omega) hl2 _ _ (baseV c.p) _ rfl rfl (by rw [IntKind.wrap_u16, IntKind.wrap_u16]; omega) (fun W => busy_c c _ i4 W) (fun W => start_c c.p (c.l - 1) _ hp hp2 rfl W) w
theorem rtick_c (c q : CV) (f n : Int) (b : Bool) (h : c.ok) (e : tickV c = q) (e1 : fromV c = f) (e2 : numV c = n) (e3 : busyV c = b) (w : World) : Calls Try.prog 12 #[.agg #[.int .u8 c.p, .int .i64 c.l]] w fun q_ w' => q_ = .returned (.tuple #[.agg #[.int .u8 q.p, .int .i64 q.l], .int .u16 f, .int .i64 n, .bool b]) ∧ Below w.heap.size w w' := by
  obtain ⟨⟨hp, hp2⟩, ⟨hl, hl2⟩⟩ := h
  subst e e1 e2 e3
  by_cases g : c.l ≤ 0
  · obtain ⟨i1, i2, i3, i4⟩ := tick_idle g
    rw [i1, i2, i3, i4]
    exact rtick_0 c.p c.l (by omega) w
  · obtain ⟨i1, i2, i3, i4⟩ := tick_busy g
    rw [i1, i2, i3, i4]
    by_cases g2 : 224 ≤ c.p
    · exact rtick_2 c.p c.l hp hp2 hl hl2 (by omega) _ _ _ rfl rfl g2 _ _ rfl rfl (by unfold baseV; rw [if_pos g2]) w
    · exact rtick_1 c.p c.l hp hp2 hl hl2 (by omega) _ _ _ rfl rfl g2 _ rfl (by unfold baseV; rw [if_neg g2]) w
theorem lets_c (c : CV) (a : Int) (b : Bool) (ha : 0 ≤ a) (ha2 : a < 65536) (e : letsV c a = b) (w : World) : Calls Try.prog 14 #[.agg #[.int .u8 c.p, .int .i64 c.l], .int .u16 a] w fun q_ w' => q_ = .returned (.bool b) ∧ Below w.heap.size w w' := by
  subst e
  unfold letsV
  by_cases g : c.l ≤ 0
  · rw [decide_eq_true (Or.inl g)]
    exact lets_0 c.p c.l a ha ha2 (fun W => busy_c c _ (tick_idle g).2.2.2 W) w
  · by_cases h : 65280 ≤ a
    · rw [decide_eq_true (Or.inr h)]
      exact lets_1 c.p c.l a ha ha2 h (fun W => busy_c c _ (tick_busy g).2.2.2 W) w
    · rw [decide_eq_false (by omega)]
      exact lets_2 c.p c.l a ha ha2 h (fun W => busy_c c _ (tick_busy g).2.2.2 W) w
theorem rlets_c (c : CV) (a : Int) (b : Bool) (ha : 0 ≤ a) (ha2 : a < 65536) (e : letsV c a = b) (w : World) : Calls Try.prog 15 #[.agg #[.int .u8 c.p, .int .i64 c.l], .int .u16 a] w fun q_ w' => q_ = .returned (.bool b) ∧ Below w.heap.size w w' := by
  subst e
  unfold letsV
  by_cases g : c.l ≤ 0
  · rw [decide_eq_true (Or.inl g)]
    exact rlets_0 c.p c.l a ha ha2 (by omega) w
  · by_cases h : 65280 ≤ a
    · rw [decide_eq_true (Or.inr h)]
      exact rlets_1 c.p c.l a ha ha2 (by omega) h w
    · rw [decide_eq_false (by omega)]
      exact rlets_2 c.p c.l a ha ha2 (by omega) h w
end Go.Proofs.Ytnfjgofmfaadnaa
