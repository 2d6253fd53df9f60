/-
  The walk through DmaAny: for every copier, byte and address; no condition but that each number fits.
-/
import Derived.Test.YtnfjgofmfaadnaaOpn
import Derived.Deep.Cut
import Derived.Laws.StructEq
import Derived.Laws.Tables
namespace Go.Proofs.Ytnfjgofmfaadnaa
open Go.ChangeShapes Go.WideShapes Go.ChangeAt Go.RowKit
set_option linter.unusedVariables false
set_option linter.unusedSimpArgs false
set_option maxRecDepth 100000
set_option maxHeartbeats 2000000 in
theorem any_b0 (p : CV) (x a : Int)  (g0 : p.l < -1000) (w : World) : Calls Try.prog 6 #[.agg #[.int .u8 p.p, .int .i64 p.l], .int .u8 x, .int .u16 a] w fun q_ w' => q_ = .returned (.bool true) ∧ Below w.heap.size w w' := by
  suffices hall : ∀ (n_ : Nat) (W0 : World), n_ ≤ W0.heap.size → Below n_ W0 w → Calls Try.prog 6 #[.agg #[.int .u8 p.p, .int .i64 p.l], .int .u8 x, .int .u16 a] w fun q_ w' => q_ = .returned (.bool true) ∧ Below n_ W0 w' from hall _ _ (Nat.le_refl _) (Below.refl _ _)
  intro n_ W0 hn hB
  have HN := Lib.hid hn
  have BB := Lib.hid hB
  clear hn hB
  have AW := Lib.hid awake_c
  have hnot : ∀ (x : Bool) (w : World), (Op.unary .not (.bool x)).run Try.prog w = .ok (.bool (!x)) w := fun _ _ => rfl
  go_enter Try.func6, Try.ntmps6
  have Q_ := own1 w (.cells #[.int .u8 p.p, .int .i64 p.l] 27)
  have B0 := Lib.hid (vian HN.out BB.out Q_)
  have P0 := Lib.hid (show Has (w.alloc (.cells #[.int .u8 p.p, .int .i64 p.l] 27)) w.heap.size #[.int .u8 p.p, .int .i64 p.l] by simpa using Has.new w #[.int .u8 p.p, .int .i64 p.l] 27)
  have LP := Lib.hid (show n_ ≤ w.heap.size + 0 from Nat.le_add_right_of_le (Nat.le_trans HN.out BB.out.size))
  simp only [Nat.add_zero] at LP
  clear Q_
  go_upto_region 1 with (fail)
  generalize (w.alloc (.cells #[.int .u8 p.p, .int .i64 p.l] 27)) = w0 at B0 P0 ⊢
  generalize w.heap.size = pb at P0 LP  ⊢
  obtain ⟨hc0, hf0⟩ := P0.out.out
  go_wp2_with fail
  with_reducible refine (AW.out _).mono ?_
  rintro q_ w1 ⟨rfl, hb⟩
  clear hc0 hf0
  have B1 := Lib.hid (vian HN.out B0.out hb)
  have P1 := Lib.hid (P0.out.below hb)
  clear hb B0 P0
  obtain ⟨hc0, hf0⟩ := P1.out.out
  go_wp2_with fail
  with_reducible refine (AW.out _).mono ?_
  rintro q_ w2 ⟨rfl, hb⟩
  clear hc0 hf0
  have B2 := Lib.hid (vian HN.out B1.out hb)
  have P2 := Lib.hid (P1.out.below hb)
  clear hb B1 P1
  go_wp2
  go_ret
  exact ⟨rfl, B2.out⟩
set_option maxHeartbeats 2000000 in
theorem any_b1 (p : CV) (x a : Int) (g0 : ¬ p.l < -1000) (g1 : 1000 < p.l) (w : World) : Calls Try.prog 6 #[.agg #[.int .u8 p.p, .int .i64 p.l], .int .u8 x, .int .u16 a] w fun q_ w' => q_ = .returned (.bool true) ∧ Below w.heap.size w w' := by
  suffices hall : ∀ (n_ : Nat) (W0 : World), n_ ≤ W0.heap.size → Below n_ W0 w → Calls Try.prog 6 #[.agg #[.int .u8 p.p, .int .i64 p.l], .int .u8 x, .int .u16 a] w fun q_ w' => q_ = .returned (.bool true) ∧ Below n_ W0 w' from hall _ _ (Nat.le_refl _) (Below.refl _ _)
  intro n_ W0 hn hB
  have HN := Lib.hid hn
  have BB := Lib.hid hB
  clear hn hB
  have AW := Lib.hid awake_c
  have hnot : ∀ (x : Bool) (w : World), (Op.unary .not (.bool x)).run Try.prog w = .ok (.bool (!x)) w := fun _ _ => rfl
  go_enter Try.func6, Try.ntmps6
  have Q_ := own1 w (.cells #[.int .u8 p.p, .int .i64 p.l] 27)
  have B0 := Lib.hid (vian HN.out BB.out Q_)
  have P0 := Lib.hid (show Has (w.alloc (.cells #[.int .u8 p.p, .int .i64 p.l] 27)) w.heap.size #[.int .u8 p.p, .int .i64 p.l] by simpa using Has.new w #[.int .u8 p.p, .int .i64 p.l] 27)
  have LP := Lib.hid (show n_ ≤ w.heap.size + 0 from Nat.le_add_right_of_le (Nat.le_trans HN.out BB.out.size))
  simp only [Nat.add_zero] at LP
  clear Q_
  go_upto_region 1 with (fail)
  generalize (w.alloc (.cells #[.int .u8 p.p, .int .i64 p.l] 27)) = w0 at B0 P0 ⊢
  generalize w.heap.size = pb at P0 LP  ⊢
  obtain ⟨hc0, hf0⟩ := P0.out.out
  go_wp2_with fail
  with_reducible refine (AW.out _).mono ?_
  rintro q_ w1 ⟨rfl, hb⟩
  clear hc0 hf0
  have B1 := Lib.hid (vian HN.out B0.out hb)
  have P1 := Lib.hid (P0.out.below hb)
  clear hb B0 P0
  obtain ⟨hc0, hf0⟩ := P1.out.out
  go_wp2_with fail
  with_reducible refine (AW.out _).mono ?_
  rintro q_ w2 ⟨rfl, hb⟩
  clear hc0 hf0
  have B2 := Lib.hid (vian HN.out B1.out hb)
  have P2 := Lib.hid (P1.out.below hb)
  clear hb B1 P1
  go_wp2
  go_ret
  exact ⟨rfl, B2.out⟩
set_option maxHeartbeats 4000000 in
theorem any_g (p q : CV) (f n : Int) (b s : Bool) (x a : Int) (g0 : ¬ p.l < -1000) (g1 : ¬ 1000 < p.l) (C1 : ∀ W, Calls Try.prog 11 #[.agg #[.int .u8 p.p, .int .i64 p.l]] W fun q_ w' => q_ = .returned (.tuple #[.agg #[.int .u8 q.p, .int .i64 q.l], .int .u16 f, .int .i64 n, .bool b]) ∧ Below W.heap.size W w') (C2 : ∀ W, Calls Try.prog 12 #[.agg #[.int .u8 p.p, .int .i64 p.l]] W fun q_ w' => q_ = .returned (.tuple #[.agg #[.int .u8 q.p, .int .i64 q.l], .int .u16 f, .int .i64 n, .bool b]) ∧ Below W.heap.size W w') (C3 : ∀ W, Calls Try.prog 9 #[.agg #[.int .u8 p.p, .int .i64 p.l], .int .u8 x] W fun q_ w' => q_ = .returned (.agg #[.int .u8 x, .int .i64 160]) ∧ Below W.heap.size W w') (C4 : ∀ W, Calls Try.prog 10 #[.agg #[.int .u8 p.p, .int .i64 p.l], .int .u8 x] W fun q_ w' => q_ = .returned (.agg #[.int .u8 x, .int .i64 160]) ∧ Below W.heap.size W w') (C5 : ∀ W, Calls Try.prog 14 #[.agg #[.int .u8 p.p, .int .i64 p.l], .int .u16 a] W fun q_ w' => q_ = .returned (.bool s) ∧ Below W.heap.size W w') (C6 : ∀ W, Calls Try.prog 15 #[.agg #[.int .u8 p.p, .int .i64 p.l], .int .u16 a] W fun q_ w' => q_ = .returned (.bool s) ∧ Below W.heap.size W w') (C7 : ∀ W, Calls Try.prog 13 #[.agg #[.int .u8 p.p, .int .i64 p.l]] W fun q_ w' => q_ = .returned (.bool (decide (0 < p.l))) ∧ Below W.heap.size W w') (w : World) : Calls Try.prog 6 #[.agg #[.int .u8 p.p, .int .i64 p.l], .int .u8 x, .int .u16 a] w fun q_ w' => q_ = .returned (.bool true) ∧ Below w.heap.size w w' := by
  suffices hall : ∀ (n_ : Nat) (W0 : World), n_ ≤ W0.heap.size → Below n_ W0 w → Calls Try.prog 6 #[.agg #[.int .u8 p.p, .int .i64 p.l], .int .u8 x, .int .u16 a] w fun q_ w' => q_ = .returned (.bool true) ∧ Below n_ W0 w' from hall _ _ (Nat.le_refl _) (Below.refl _ _)
  intro n_ W0 hn hB
  have HN := Lib.hid hn
  have BB := Lib.hid hB
  clear hn hB
  have H1 := Lib.hid C1
  have H2 := Lib.hid C2
  have H3 := Lib.hid C3
  have H4 := Lib.hid C4
  have H5 := Lib.hid C5
  have H6 := Lib.hid C6
  have H7 := Lib.hid C7
  clear C1 C2 C3 C4 C5 C6 C7
  have AW := Lib.hid awake_c
  have hnot : ∀ (x : Bool) (w : World), (Op.unary .not (.bool x)).run Try.prog w = .ok (.bool (!x)) w := fun _ _ => rfl
  go_enter Try.func6, Try.ntmps6
  have Q_ := own1 w (.cells #[.int .u8 p.p, .int .i64 p.l] 27)
  have B0 := Lib.hid (vian HN.out BB.out Q_)
  have P0 := Lib.hid (show Has (w.alloc (.cells #[.int .u8 p.p, .int .i64 p.l] 27)) w.heap.size #[.int .u8 p.p, .int .i64 p.l] by simpa using Has.new w #[.int .u8 p.p, .int .i64 p.l] 27)
  have LP := Lib.hid (show n_ ≤ w.heap.size + 0 from Nat.le_add_right_of_le (Nat.le_trans HN.out BB.out.size))
  simp only [Nat.add_zero] at LP
  clear Q_
  go_upto_region 1 with (fail)
  generalize (w.alloc (.cells #[.int .u8 p.p, .int .i64 p.l] 27)) = w0 at B0 P0 ⊢
  generalize w.heap.size = pb at P0 LP  ⊢
  obtain ⟨hc0, hf0⟩ := P0.out.out
  go_wp2_with fail
  with_reducible refine (AW.out _).mono ?_
  rintro q_ w1 ⟨rfl, hb⟩
  clear hc0 hf0
  have B1 := Lib.hid (vian HN.out B0.out hb)
  have P1 := Lib.hid (P0.out.below hb)
  clear hb B0 P0
  obtain ⟨hcQ, hfQ⟩ := P1.out.out
  have Q_ := own1 w1 (.cells #[.int .u8 p.p, .int .i64 p.l] 26)
  have B2 := Lib.hid (vian HN.out B1.out Q_)
  have P2 := Lib.hid (P1.out.below Q_)
  have K2 := Lib.hid (Has.new w1 #[.int .u8 p.p, .int .i64 p.l] 26)
  have LK := Lib.hid (show n_ ≤ w1.heap.size from Nat.le_trans HN.out B1.out.size)
  clear Q_
  go_upto_region 4 with (fail)
  generalize w1.alloc (.cells #[.int .u8 p.p, .int .i64 p.l] 26) = w2 at B2 P2 K2 ⊢
  generalize w1.heap.size = kb at K2 LK  ⊢
  clear B1 P1
  clear hcQ hfQ
  obtain ⟨hc0, hf0⟩ := K2.out.out
  go_wp2_with fail
  with_reducible refine (H1.out _).mono ?_
  rintro q_ w3 ⟨rfl, hb⟩
  clear hc0 hf0
  have B3 := Lib.hid (vian HN.out B2.out hb)
  have P3 := Lib.hid (P2.out.below hb)
  have K3 := Lib.hid (K2.out.below hb)
  clear hb B2 P2 K2
  have Q_ := own1 w3 (.cells #[.int .u8 q.p, .int .i64 q.l] 26)
  have B4 := Lib.hid (vian HN.out B3.out Q_)
  have P4 := Lib.hid (P3.out.below Q_)
  have K4 := Lib.hid (K3.out.below Q_)
  have A4 := Lib.hid (Has.new w3 #[.int .u8 q.p, .int .i64 q.l] 26)
  have LA := Lib.hid (show n_ ≤ w3.heap.size from Nat.le_trans HN.out B3.out.size)
  clear Q_
  go_upto_region 5 with (fail)
  generalize w3.alloc (.cells #[.int .u8 q.p, .int .i64 q.l] 26) = w4 at B4 P4 K4 A4 ⊢
  generalize w3.heap.size = ab at A4 LA  ⊢
  clear B3 P3 K3
  obtain ⟨hc0, hf0⟩ := P4.out.out
  go_wp2_with fail
  with_reducible refine (H2.out _).mono ?_
  rintro q_ w5 ⟨rfl, hb⟩
  clear hc0 hf0
  have B5 := Lib.hid (vian HN.out B4.out hb)
  have P5 := Lib.hid (P4.out.below hb)
  have K5 := Lib.hid (K4.out.below hb)
  have A5 := Lib.hid (A4.out.below hb)
  clear hb B4 P4 K4 A4
  have Q_ := own1 w5 (.cells #[.int .u8 q.p, .int .i64 q.l] 27)
  have B6 := Lib.hid (vian HN.out B5.out Q_)
  have P6 := Lib.hid (P5.out.below Q_)
  have K6 := Lib.hid (K5.out.below Q_)
  have A6 := Lib.hid (A5.out.below Q_)
  have V6 := Lib.hid (Has.new w5 #[.int .u8 q.p, .int .i64 q.l] 27)
  have LV := Lib.hid (show n_ ≤ w5.heap.size from Nat.le_trans HN.out B5.out.size)
  clear Q_
  go_upto_region 6 with (fail)
  generalize w5.alloc (.cells #[.int .u8 q.p, .int .i64 q.l] 27) = w6 at B6 P6 K6 A6 V6 ⊢
  generalize w5.heap.size = vb at V6 LV  ⊢
  clear B5 P5 K5 A5
  have B7 := Lib.hid B6.out.drew
  have P7 := Lib.hid P6.out.drew
  have K7 := Lib.hid K6.out.drew
  have A7 := Lib.hid A6.out.drew
  have V7 := Lib.hid V6.out.drew
  clear B6 P6 K6 A6 V6
  refine wp_region_held_drew (S := (fun w' => (∀ o, w'.cell? ⟨pb, o, none⟩ = #[.int .u8 p.p, .int .i64 p.l][o]?) ∧ (∀ o, w'.cell? ⟨kb, o, none⟩ = #[.int .u8 p.p, .int .i64 p.l][o]?) ∧ (∀ o, w'.cell? ⟨ab, o, none⟩ = #[.int .u8 q.p, .int .i64 q.l][o]?) ∧ (∀ o, w'.cell? ⟨vb, o, none⟩ = #[.int .u8 q.p, .int .i64 q.l][o]?))) (by kernel_rfl) ⟨P7.out.2.1, K7.out.2.1, A7.out.2.1, V7.out.2.1⟩ (fun hHeld => ?_)
  generalize World.drew w6 = u7 at hHeld B7 P7 K7 A7 V7 ⊢
  refine wpAnyH_take (i := 0) (oi := { dst := some 44, op := Go.Op.load 26 (Go.Operand.tmp 8), type := 26, pos := "law.go:90", after := #[], guard := none }) (v := ?v1) rfl (by kernel_rfl) (by kernel_rfl) (by kernel_rfl) (fun _ _ _ h => h) (Or.inl ⟨by rfl, ?y1⟩) (by assumption) ?z1
  case y1 => (intro w hSw; (try dsimp only at hSw); go_simp) <;> with_reducible rfl
  try simp only [Act.put, List.setIfInBounds_toArray, List.set_cons_zero, List.set_cons_succ]
  refine wpAnyH_take (i := 1) (oi := { dst := some 45, op := Go.Op.load 27 (Go.Operand.tmp 12), type := 27, pos := "law.go:90", after := #[], guard := none }) (v := ?v2) rfl (by kernel_rfl) (by kernel_rfl) (by kernel_rfl) (fun _ _ _ h => h) (Or.inl ⟨by rfl, ?y2⟩) (by assumption) ?z2
  case y2 => (intro w hSw; (try dsimp only at hSw); go_simp) <;> with_reducible rfl
  try simp only [Act.put, List.setIfInBounds_toArray, List.set_cons_zero, List.set_cons_succ]
  refine wpAnyH_take (i := 2) (oi := { dst := some 46, op := Go.Op.binOp Go.BinOp.eql 27 (Go.Operand.tmp 44) (Go.Operand.tmp 45) 27, type := 4, pos := "law.go:90", after := #[{ on := 0, ground := Go.Ground.data }, { on := 1, ground := Go.Ground.data }], guard := none }) (v := ?v3) rfl (by kernel_rfl) (by kernel_rfl) (by kernel_rfl) (fun _ _ _ h => h) (Or.inl ⟨by rfl, ?y3⟩) (by assumption) ?z3
  case y3 => (intro w hSw; (try dsimp only at hSw); go_simp) <;> with_reducible rfl
  try simp only [Act.put, List.setIfInBounds_toArray, List.set_cons_zero, List.set_cons_succ]
  refine wpAnyH_take (i := 3) (oi := { dst := some 47, op := Go.Op.move (Go.Operand.tmp 46), type := 4, pos := "law.go:90", after := #[{ on := 2, ground := Go.Ground.data }], guard := none }) (v := ?v4) rfl (by kernel_rfl) (by kernel_rfl) (by kernel_rfl) (fun _ _ _ h => h) (Or.inl ⟨by rfl, ?y4⟩) (by assumption) ?z4
  case y4 => (intro w hSw; (try dsimp only at hSw); go_simp) <;> with_reducible rfl
  try simp only [Act.put, List.setIfInBounds_toArray, List.set_cons_zero, List.set_cons_succ]
  refine wpAnyH_take (i := 4) (oi := { dst := some 48, op := Go.Op.move (Go.Operand.tmp 9), type := 23, pos := "law.go:90", after := #[{ on := 3, ground := Go.Ground.guard }], guard := some (3, true) }) (v := ?v5) rfl (by kernel_rfl) (by kernel_rfl) (by kernel_rfl) (fun _ _ _ h => h) (Or.inl ⟨by rfl, ?y5⟩) (by assumption) ?z5
  case y5 => (intro w hSw; (try dsimp only at hSw); go_simp) <;> with_reducible rfl
  try simp only [Act.put, List.setIfInBounds_toArray, List.set_cons_zero, List.set_cons_succ]
  refine wpAnyH_take (i := 5) (oi := { dst := some 49, op := Go.Op.move (Go.Operand.tmp 13), type := 23, pos := "law.go:90", after := #[{ on := 3, ground := Go.Ground.guard }], guard := some (3, true) }) (v := ?v6) rfl (by kernel_rfl) (by kernel_rfl) (by kernel_rfl) (fun _ _ _ h => h) (Or.inl ⟨by rfl, ?y6⟩) (by assumption) ?z6
  case y6 => (intro w hSw; (try dsimp only at hSw); go_simp) <;> with_reducible rfl
  try simp only [Act.put, List.setIfInBounds_toArray, List.set_cons_zero, List.set_cons_succ]
  refine wpAnyH_take (i := 6) (oi := { dst := some 50, op := Go.Op.binOp Go.BinOp.eql 23 (Go.Operand.tmp 48) (Go.Operand.tmp 49) 23, type := 4, pos := "law.go:90", after := #[{ on := 4, ground := Go.Ground.data }, { on := 5, ground := Go.Ground.data }, { on := 3, ground := Go.Ground.guard }], guard := some (3, true) }) (v := ?v7) rfl (by kernel_rfl) (by kernel_rfl) (by kernel_rfl) (fun _ _ _ h => h) (Or.inl ⟨by rfl, ?y7⟩) (by assumption) ?z7
  case y7 => (intro w hSw; (try dsimp only at hSw); go_simp) <;> with_reducible rfl
  try simp only [Act.put, List.setIfInBounds_toArray, List.set_cons_zero, List.set_cons_succ]
  refine wpAnyH_take (i := 7) (oi := { dst := some 51, op := Go.Op.pick (Go.Operand.tmp 47) (Go.Operand.tmp 50) (Go.Operand.const (Go.Value.bool false)), type := 4, pos := "law.go:90", after := #[{ on := 3, ground := Go.Ground.data }, { on := 6, ground := Go.Ground.data }], guard := none }) (v := ?v8) rfl (by kernel_rfl) (by kernel_rfl) (by kernel_rfl) (fun _ _ _ h => h) (Or.inl ⟨by rfl, ?y8⟩) (by assumption) ?z8
  case y8 => (intro w hSw; (try dsimp only at hSw); go_simp) <;> with_reducible rfl
  try simp only [Act.put, List.setIfInBounds_toArray, List.set_cons_zero, List.set_cons_succ]
  refine wpAnyH_take (i := 8) (oi := { dst := some 52, op := Go.Op.move (Go.Operand.tmp 51), type := 4, pos := "law.go:90", after := #[{ on := 7, ground := Go.Ground.data }, { on := 3, ground := Go.Ground.chain }], guard := none }) (v := ?v9) rfl (by kernel_rfl) (by kernel_rfl) (by kernel_rfl) (fun _ _ _ h => h) (Or.inl ⟨by rfl, ?y9⟩) (by assumption) ?z9
  case y9 => (intro w hSw; (try dsimp only at hSw); go_simp) <;> with_reducible rfl
  try simp only [Act.put, List.setIfInBounds_toArray, List.set_cons_zero, List.set_cons_succ]
  refine wpAnyH_take (i := 9) (oi := { dst := some 53, op := Go.Op.move (Go.Operand.tmp 10), type := 3, pos := "law.go:90", after := #[{ on := 8, ground := Go.Ground.guard }], guard := some (8, true) }) (v := ?v10) rfl (by kernel_rfl) (by kernel_rfl) (by kernel_rfl) (fun _ _ _ h => h) (Or.inl ⟨by rfl, ?y10⟩) (by assumption) ?z10
  case y10 => (intro w hSw; (try dsimp only at hSw); go_simp) <;> with_reducible rfl
  try simp only [Act.put, List.setIfInBounds_toArray, List.set_cons_zero, List.set_cons_succ]
  refine wpAnyH_take (i := 10) (oi := { dst := some 54, op := Go.Op.move (Go.Operand.tmp 14), type := 3, pos := "law.go:90", after := #[{ on := 8, ground := Go.Ground.guard }], guard := some (8, true) }) (v := ?v11) rfl (by kernel_rfl) (by kernel_rfl) (by kernel_rfl) (fun _ _ _ h => h) (Or.inl ⟨by rfl, ?y11⟩) (by assumption) ?z11
  case y11 => (intro w hSw; (try dsimp only at hSw); go_simp) <;> with_reducible rfl
  try simp only [Act.put, List.setIfInBounds_toArray, List.set_cons_zero, List.set_cons_succ]
  refine wpAnyH_take (i := 11) (oi := { dst := some 55, op := Go.Op.binOp Go.BinOp.eql 3 (Go.Operand.tmp 53) (Go.Operand.tmp 54) 3, type := 4, pos := "law.go:90", after := #[{ on := 9, ground := Go.Ground.data }, { on := 10, ground := Go.Ground.data }, { on := 8, ground := Go.Ground.guard }], guard := some (8, true) }) (v := ?v12) rfl (by kernel_rfl) (by kernel_rfl) (by kernel_rfl) (fun _ _ _ h => h) (Or.inl ⟨by rfl, ?y12⟩) (by assumption) ?z12
  case y12 => (intro w hSw; (try dsimp only at hSw); go_simp) <;> with_reducible rfl
  try simp only [Act.put, List.setIfInBounds_toArray, List.set_cons_zero, List.set_cons_succ]
  refine wpAnyH_take (i := 12) (oi := { dst := some 56, op := Go.Op.pick (Go.Operand.tmp 52) (Go.Operand.tmp 55) (Go.Operand.const (Go.Value.bool false)), type := 4, pos := "law.go:90", after := #[{ on := 8, ground := Go.Ground.data }, { on := 11, ground := Go.Ground.data }], guard := none }) (v := ?v13) rfl (by kernel_rfl) (by kernel_rfl) (by kernel_rfl) (fun _ _ _ h => h) (Or.inl ⟨by rfl, ?y13⟩) (by assumption) ?z13
  case y13 => (intro w hSw; (try dsimp only at hSw); go_simp) <;> with_reducible rfl
  try simp only [Act.put, List.setIfInBounds_toArray, List.set_cons_zero, List.set_cons_succ]
  refine wpAnyH_take (i := 13) (oi := { dst := some 57, op := Go.Op.move (Go.Operand.tmp 56), type := 4, pos := "law.go:90", after := #[{ on := 12, ground := Go.Ground.data }, { on := 8, ground := Go.Ground.chain }], guard := none }) (v := ?v14) rfl (by kernel_rfl) (by kernel_rfl) (by kernel_rfl) (fun _ _ _ h => h) (Or.inl ⟨by rfl, ?y14⟩) (by assumption) ?z14
  case y14 => (intro w hSw; (try dsimp only at hSw); go_simp) <;> with_reducible rfl
  try simp only [Act.put, List.setIfInBounds_toArray, List.set_cons_zero, List.set_cons_succ]
  refine wpAnyH_take (i := 14) (oi := { dst := some 58, op := Go.Op.move (Go.Operand.tmp 11), type := 4, pos := "law.go:90", after := #[{ on := 13, ground := Go.Ground.guard }], guard := some (13, true) }) (v := ?v15) rfl (by kernel_rfl) (by kernel_rfl) (by kernel_rfl) (fun _ _ _ h => h) (Or.inl ⟨by rfl, ?y15⟩) (by assumption) ?z15
  case y15 => (intro w hSw; (try dsimp only at hSw); go_simp) <;> with_reducible rfl
  try simp only [Act.put, List.setIfInBounds_toArray, List.set_cons_zero, List.set_cons_succ]
  refine wpAnyH_take (i := 15) (oi := { dst := some 59, op := Go.Op.move (Go.Operand.tmp 15), type := 4, pos := "law.go:90", after := #[{ on := 13, ground := Go.Ground.guard }], guard := some (13, true) }) (v := ?v16) rfl (by kernel_rfl) (by kernel_rfl) (by kernel_rfl) (fun _ _ _ h => h) (Or.inl ⟨by rfl, ?y16⟩) (by assumption) ?z16
  case y16 => (intro w hSw; (try dsimp only at hSw); go_simp) <;> with_reducible rfl
  try simp only [Act.put, List.setIfInBounds_toArray, List.set_cons_zero, List.set_cons_succ]
  refine wpAnyH_take (i := 16) (oi := { dst := some 60, op := Go.Op.binOp Go.BinOp.eql 4 (Go.Operand.tmp 58) (Go.Operand.tmp 59) 4, type := 4, pos := "law.go:90", after := #[{ on := 14, ground := Go.Ground.data }, { on := 15, ground := Go.Ground.data }, { on := 13, ground := Go.Ground.guard }], guard := some (13, true) }) (v := ?v17) rfl (by kernel_rfl) (by kernel_rfl) (by kernel_rfl) (fun _ _ _ h => h) (Or.inl ⟨by rfl, ?y17⟩) (by assumption) ?z17
  case y17 => (intro w hSw; (try dsimp only at hSw); go_simp) <;> with_reducible rfl
  try simp only [Act.put, List.setIfInBounds_toArray, List.set_cons_zero, List.set_cons_succ]
  refine wpAnyH_take (i := 17) (oi := { dst := some 61, op := Go.Op.pick (Go.Operand.tmp 57) (Go.Operand.tmp 60) (Go.Operand.const (Go.Value.bool false)), type := 4, pos := "law.go:90", after := #[{ on := 13, ground := Go.Ground.data }, { on := 16, ground := Go.Ground.data }], guard := none }) (v := ?v18) rfl (by kernel_rfl) (by kernel_rfl) (by kernel_rfl) (fun _ _ _ h => h) (Or.inl ⟨by rfl, ?y18⟩) (by assumption) ?z18
  case y18 => (intro w hSw; (try dsimp only at hSw); go_simp) <;> with_reducible rfl
  try simp only [Act.put, List.setIfInBounds_toArray, List.set_cons_zero, List.set_cons_succ]
  refine wpAnyH_take (i := 18) (oi := { dst := some 62, op := Go.Op.move (Go.Operand.tmp 61), type := 4, pos := "law.go:90", after := #[{ on := 17, ground := Go.Ground.data }, { on := 13, ground := Go.Ground.chain }], guard := none }) (v := ?v19) rfl (by kernel_rfl) (by kernel_rfl) (by kernel_rfl) (fun _ _ _ h => h) (Or.inl ⟨by rfl, ?y19⟩) (by assumption) ?z19
  case y19 => (intro w hSw; (try dsimp only at hSw); go_simp) <;> with_reducible rfl
  try simp only [Act.put, List.setIfInBounds_toArray, List.set_cons_zero, List.set_cons_succ]
  refine wpAnyH_take (i := 19) (oi := { dst := some 63, op := Go.Op.load 26 (Go.Operand.tmp 7), type := 26, pos := "law.go:90", after := #[{ on := 18, ground := Go.Ground.guard }], guard := some (18, true) }) (v := ?v20) rfl (by kernel_rfl) (by kernel_rfl) (by kernel_rfl) (fun _ _ _ h => h) (Or.inl ⟨by rfl, ?y20⟩) (by assumption) ?z20
  case y20 => (intro w hSw; (try dsimp only at hSw); go_simp) <;> with_reducible rfl
  try simp only [Act.put, List.setIfInBounds_toArray, List.set_cons_zero, List.set_cons_succ]
  refine wpAnyH_take (i := 20) (oi := { dst := some 64, op := Go.Op.move (Go.Operand.tmp 1), type := 5, pos := "law.go:90", after := #[{ on := 18, ground := Go.Ground.guard }], guard := some (18, true) }) (v := ?v21) rfl (by kernel_rfl) (by kernel_rfl) (by kernel_rfl) (fun _ _ _ h => h) (Or.inl ⟨by rfl, ?y21⟩) (by assumption) ?z21
  case y21 => (intro w hSw; (try dsimp only at hSw); go_simp) <;> with_reducible rfl
  try simp only [Act.put, List.setIfInBounds_toArray, List.set_cons_zero, List.set_cons_succ]
  refine wpAnyH_take (i := 22) (oi := { dst := some 66, op := Go.Op.load 27 (Go.Operand.tmp 3), type := 27, pos := "law.go:90", after := #[{ on := 18, ground := Go.Ground.guard }], guard := some (18, true) }) (v := ?v22) rfl (by kernel_rfl) (by kernel_rfl) (by kernel_rfl) (fun _ _ _ h => h) (Or.inl ⟨by rfl, ?y22⟩) (by assumption) ?z22
  case y22 => (intro w hSw; (try dsimp only at hSw); go_simp) <;> with_reducible rfl
  try simp only [Act.put, List.setIfInBounds_toArray, List.set_cons_zero, List.set_cons_succ]
  refine wpAnyH_take (i := 23) (oi := { dst := some 67, op := Go.Op.move (Go.Operand.tmp 1), type := 5, pos := "law.go:90", after := #[{ on := 18, ground := Go.Ground.guard }], guard := some (18, true) }) (v := ?v23) rfl (by kernel_rfl) (by kernel_rfl) (by kernel_rfl) (fun _ _ _ h => h) (Or.inl ⟨by rfl, ?y23⟩) (by assumption) ?z23
  case y23 => (intro w hSw; (try dsimp only at hSw); go_simp) <;> with_reducible rfl
  try simp only [Act.put, List.setIfInBounds_toArray, List.set_cons_zero, List.set_cons_succ]
  refine wpAnyH_ready (rs := [21]) (by kernel_rfl) (by simp) ?_
  refine (AllReadyH.cons (o := { dst := some 65, op := Go.Op.call { callee := Go.Callee.value (Go.Operand.func 9), args := #[Go.Operand.tmp 63, Go.Operand.tmp 64], argTypes := #[26, 5] }, type := 26, pos := "law.go:90", after := #[{ on := 19, ground := Go.Ground.data }, { on := 20, ground := Go.Ground.data }, { on := 18, ground := Go.Ground.chain }, { on := 18, ground := Go.Ground.guard }], guard := some (18, true) }) rfl (fun K hK => ?_) AllReadyH.nil)
  · skip
    go_simp
    with_reducible refine (H3.out _).mono ?_
    rintro q_ u8 ⟨rfl, hb⟩
    have B8 := Lib.hid (vian HN.out B7.out hb)
    have P8 := Lib.hid (P7.out.below hb)
    have K8 := Lib.hid (K7.out.below hb)
    have A8 := Lib.hid (A7.out.below hb)
    have V8 := Lib.hid (V7.out.below hb)
    clear hb
    clear B7 P7 K7 A7 V7
    refine hK.out _ _ ?s24 (fun hNew => ?r24)
    case s24 => exact ⟨P8.out.2.1, K8.out.2.1, A8.out.2.1, V8.out.2.1⟩
    clear hK K hHeld
    have hHeld := hNew
    clear hNew
    refine wpAnyH_ready (rs := [24]) (by kernel_rfl) (by simp) ?_
    refine (AllReadyH.cons (o := { dst := some 68, op := Go.Op.call { callee := Go.Callee.value (Go.Operand.func 10), args := #[Go.Operand.tmp 66, Go.Operand.tmp 67], argTypes := #[27, 5] }, type := 27, pos := "law.go:90", after := #[{ on := 22, ground := Go.Ground.data }, { on := 23, ground := Go.Ground.data }, { on := 21, ground := Go.Ground.chain }, { on := 18, ground := Go.Ground.guard }], guard := some (18, true) }) rfl (fun K hK => ?_) AllReadyH.nil)
    · skip
      go_simp
      with_reducible refine (H4.out _).mono ?_
      rintro q_ u9 ⟨rfl, hb⟩
      have B9 := Lib.hid (vian HN.out B8.out hb)
      have P9 := Lib.hid (P8.out.below hb)
      have K9 := Lib.hid (K8.out.below hb)
      have A9 := Lib.hid (A8.out.below hb)
      have V9 := Lib.hid (V8.out.below hb)
      clear hb
      clear B8 P8 K8 A8 V8
      refine hK.out _ _ ?s25 (fun hNew => ?r25)
      case s25 => exact ⟨P9.out.2.1, K9.out.2.1, A9.out.2.1, V9.out.2.1⟩
      clear hK K hHeld
      have hHeld := hNew
      clear hNew
      refine wpAnyH_take (i := 25) (oi := { dst := some 69, op := Go.Op.binOp Go.BinOp.eql 27 (Go.Operand.tmp 65) (Go.Operand.tmp 68) 27, type := 4, pos := "law.go:90", after := #[{ on := 21, ground := Go.Ground.data }, { on := 24, ground := Go.Ground.data }, { on := 18, ground := Go.Ground.guard }], guard := some (18, true) }) (v := ?v26) rfl (by kernel_rfl) (by kernel_rfl) (by kernel_rfl) (fun _ _ _ h => h) (Or.inl ⟨by rfl, ?y26⟩) (by assumption) ?z26
      case y26 => (intro w hSw; (try dsimp only at hSw); go_simp) <;> with_reducible rfl
      try simp only [Act.put, List.setIfInBounds_toArray, List.set_cons_zero, List.set_cons_succ]
      refine wpAnyH_take (i := 26) (oi := { dst := some 70, op := Go.Op.pick (Go.Operand.tmp 62) (Go.Operand.tmp 69) (Go.Operand.const (Go.Value.bool false)), type := 4, pos := "law.go:90", after := #[{ on := 18, ground := Go.Ground.data }, { on := 25, ground := Go.Ground.data }], guard := none }) (v := ?v27) rfl (by kernel_rfl) (by kernel_rfl) (by kernel_rfl) (fun _ _ _ h => h) (Or.inl ⟨by rfl, ?y27⟩) (by assumption) ?z27
      case y27 => (intro w hSw; (try dsimp only at hSw); go_simp) <;> with_reducible rfl
      try simp only [Act.put, List.setIfInBounds_toArray, List.set_cons_zero, List.set_cons_succ]
      refine wpAnyH_take (i := 27) (oi := { dst := some 71, op := Go.Op.move (Go.Operand.tmp 70), type := 4, pos := "law.go:90", after := #[{ on := 26, ground := Go.Ground.data }, { on := 24, ground := Go.Ground.chain }], guard := none }) (v := ?v28) rfl (by kernel_rfl) (by kernel_rfl) (by kernel_rfl) (fun _ _ _ h => h) (Or.inl ⟨by rfl, ?y28⟩) (by assumption) ?z28
      case y28 => (intro w hSw; (try dsimp only at hSw); go_simp) <;> with_reducible rfl
      try simp only [Act.put, List.setIfInBounds_toArray, List.set_cons_zero, List.set_cons_succ]
      refine wpAnyH_take (i := 28) (oi := { dst := some 72, op := Go.Op.load 26 (Go.Operand.tmp 7), type := 26, pos := "law.go:90", after := #[{ on := 27, ground := Go.Ground.guard }], guard := some (27, true) }) (v := ?v29) rfl (by kernel_rfl) (by kernel_rfl) (by kernel_rfl) (fun _ _ _ h => h) (Or.inl ⟨by rfl, ?y29⟩) (by assumption) ?z29
      case y29 => (intro w hSw; (try dsimp only at hSw); go_simp) <;> with_reducible rfl
      try simp only [Act.put, List.setIfInBounds_toArray, List.set_cons_zero, List.set_cons_succ]
      refine wpAnyH_take (i := 29) (oi := { dst := some 73, op := Go.Op.move (Go.Operand.tmp 2), type := 23, pos := "law.go:90", after := #[{ on := 27, ground := Go.Ground.guard }], guard := some (27, true) }) (v := ?v30) rfl (by kernel_rfl) (by kernel_rfl) (by kernel_rfl) (fun _ _ _ h => h) (Or.inl ⟨by rfl, ?y30⟩) (by assumption) ?z30
      case y30 => (intro w hSw; (try dsimp only at hSw); go_simp) <;> with_reducible rfl
      try simp only [Act.put, List.setIfInBounds_toArray, List.set_cons_zero, List.set_cons_succ]
      refine wpAnyH_take (i := 31) (oi := { dst := some 75, op := Go.Op.load 27 (Go.Operand.tmp 3), type := 27, pos := "law.go:90", after := #[{ on := 27, ground := Go.Ground.guard }], guard := some (27, true) }) (v := ?v31) rfl (by kernel_rfl) (by kernel_rfl) (by kernel_rfl) (fun _ _ _ h => h) (Or.inl ⟨by rfl, ?y31⟩) (by assumption) ?z31
      case y31 => (intro w hSw; (try dsimp only at hSw); go_simp) <;> with_reducible rfl
      try simp only [Act.put, List.setIfInBounds_toArray, List.set_cons_zero, List.set_cons_succ]
      refine wpAnyH_take (i := 32) (oi := { dst := some 76, op := Go.Op.move (Go.Operand.tmp 2), type := 23, pos := "law.go:90", after := #[{ on := 27, ground := Go.Ground.guard }], guard := some (27, true) }) (v := ?v32) rfl (by kernel_rfl) (by kernel_rfl) (by kernel_rfl) (fun _ _ _ h => h) (Or.inl ⟨by rfl, ?y32⟩) (by assumption) ?z32
      case y32 => (intro w hSw; (try dsimp only at hSw); go_simp) <;> with_reducible rfl
      try simp only [Act.put, List.setIfInBounds_toArray, List.set_cons_zero, List.set_cons_succ]
      refine wpAnyH_ready (rs := [30]) (by kernel_rfl) (by simp) ?_
      refine (AllReadyH.cons (o := { dst := some 74, op := Go.Op.call { callee := Go.Callee.value (Go.Operand.func 14), args := #[Go.Operand.tmp 72, Go.Operand.tmp 73], argTypes := #[26, 23] }, type := 4, pos := "law.go:90", after := #[{ on := 28, ground := Go.Ground.data }, { on := 29, ground := Go.Ground.data }, { on := 27, ground := Go.Ground.chain }, { on := 27, ground := Go.Ground.guard }], guard := some (27, true) }) rfl (fun K hK => ?_) AllReadyH.nil)
      · skip
        go_simp
        with_reducible refine (H5.out _).mono ?_
        rintro q_ u10 ⟨rfl, hb⟩
        have B10 := Lib.hid (vian HN.out B9.out hb)
        have P10 := Lib.hid (P9.out.below hb)
        have K10 := Lib.hid (K9.out.below hb)
        have A10 := Lib.hid (A9.out.below hb)
        have V10 := Lib.hid (V9.out.below hb)
        clear hb
        clear B9 P9 K9 A9 V9
        refine hK.out _ _ ?s33 (fun hNew => ?r33)
        case s33 => exact ⟨P10.out.2.1, K10.out.2.1, A10.out.2.1, V10.out.2.1⟩
        clear hK K hHeld
        have hHeld := hNew
        clear hNew
        refine wpAnyH_ready (rs := [33]) (by kernel_rfl) (by simp) ?_
        refine (AllReadyH.cons (o := { dst := some 77, op := Go.Op.call { callee := Go.Callee.value (Go.Operand.func 15), args := #[Go.Operand.tmp 75, Go.Operand.tmp 76], argTypes := #[27, 23] }, type := 4, pos := "law.go:90", after := #[{ on := 31, ground := Go.Ground.data }, { on := 32, ground := Go.Ground.data }, { on := 30, ground := Go.Ground.chain }, { on := 27, ground := Go.Ground.guard }], guard := some (27, true) }) rfl (fun K hK => ?_) AllReadyH.nil)
        · skip
          go_simp
          with_reducible refine (H6.out _).mono ?_
          rintro q_ u11 ⟨rfl, hb⟩
          have B11 := Lib.hid (vian HN.out B10.out hb)
          have P11 := Lib.hid (P10.out.below hb)
          have K11 := Lib.hid (K10.out.below hb)
          have A11 := Lib.hid (A10.out.below hb)
          have V11 := Lib.hid (V10.out.below hb)
          clear hb
          clear B10 P10 K10 A10 V10
          refine hK.out _ _ ?s34 (fun hNew => ?r34)
          case s34 => exact ⟨P11.out.2.1, K11.out.2.1, A11.out.2.1, V11.out.2.1⟩
          clear hK K hHeld
          have hHeld := hNew
          clear hNew
          refine wpAnyH_take (i := 34) (oi := { dst := some 78, op := Go.Op.binOp Go.BinOp.eql 4 (Go.Operand.tmp 74) (Go.Operand.tmp 77) 4, type := 4, pos := "law.go:90", after := #[{ on := 30, ground := Go.Ground.data }, { on := 33, ground := Go.Ground.data }, { on := 27, ground := Go.Ground.guard }], guard := some (27, true) }) (v := ?v35) rfl (by kernel_rfl) (by kernel_rfl) (by kernel_rfl) (fun _ _ _ h => h) (Or.inl ⟨by rfl, ?y35⟩) (by assumption) ?z35
          case y35 => (intro w hSw; (try dsimp only at hSw); go_simp) <;> with_reducible rfl
          try simp only [Act.put, List.setIfInBounds_toArray, List.set_cons_zero, List.set_cons_succ]
          refine wpAnyH_take (i := 35) (oi := { dst := some 79, op := Go.Op.pick (Go.Operand.tmp 71) (Go.Operand.tmp 78) (Go.Operand.const (Go.Value.bool false)), type := 4, pos := "law.go:90", after := #[{ on := 27, ground := Go.Ground.data }, { on := 34, ground := Go.Ground.data }], guard := none }) (v := ?v36) rfl (by kernel_rfl) (by kernel_rfl) (by kernel_rfl) (fun _ _ _ h => h) (Or.inl ⟨by rfl, ?y36⟩) (by assumption) ?z36
          case y36 => (intro w hSw; (try dsimp only at hSw); go_simp) <;> with_reducible rfl
          try simp only [Act.put, List.setIfInBounds_toArray, List.set_cons_zero, List.set_cons_succ]
          refine wpAnyH_take (i := 36) (oi := { dst := some 80, op := Go.Op.move (Go.Operand.tmp 79), type := 4, pos := "law.go:90", after := #[{ on := 35, ground := Go.Ground.data }, { on := 33, ground := Go.Ground.chain }], guard := none }) (v := ?v37) rfl (by kernel_rfl) (by kernel_rfl) (by kernel_rfl) (fun _ _ _ h => h) (Or.inl ⟨by rfl, ?y37⟩) (by assumption) ?z37
          case y37 => (intro w hSw; (try dsimp only at hSw); go_simp) <;> with_reducible rfl
          try simp only [Act.put, List.setIfInBounds_toArray, List.set_cons_zero, List.set_cons_succ]
          refine wpAnyH_take (i := 37) (oi := { dst := some 81, op := Go.Op.load 26 (Go.Operand.tmp 7), type := 26, pos := "law.go:90", after := #[{ on := 36, ground := Go.Ground.guard }], guard := some (36, true) }) (v := ?v38) rfl (by kernel_rfl) (by kernel_rfl) (by kernel_rfl) (fun _ _ _ h => h) (Or.inl ⟨by rfl, ?y38⟩) (by assumption) ?z38
          case y38 => (intro w hSw; (try dsimp only at hSw); go_simp) <;> with_reducible rfl
          try simp only [Act.put, List.setIfInBounds_toArray, List.set_cons_zero, List.set_cons_succ]
          refine wpAnyH_take (i := 39) (oi := { dst := some 83, op := Go.Op.fieldAddr 27 (Go.Operand.tmp 3) 1, type := 0, pos := "law.go:90", after := #[{ on := 36, ground := Go.Ground.guard }], guard := some (36, true) }) (v := ?v39) rfl (by kernel_rfl) (by kernel_rfl) (by kernel_rfl) (fun _ _ _ h => h) (Or.inl ⟨by rfl, ?y39⟩) (by assumption) ?z39
          case y39 => (intro w hSw; (try dsimp only at hSw); go_simp) <;> with_reducible rfl
          try simp only [Act.put, List.setIfInBounds_toArray, List.set_cons_zero, List.set_cons_succ]
          refine wpAnyH_take (i := 40) (oi := { dst := some 84, op := Go.Op.load 3 (Go.Operand.tmp 83), type := 3, pos := "law.go:90", after := #[{ on := 39, ground := Go.Ground.data }, { on := 36, ground := Go.Ground.guard }], guard := some (36, true) }) (v := ?v40) rfl (by kernel_rfl) (by kernel_rfl) (by kernel_rfl) (fun _ _ _ h => h) (Or.inl ⟨by rfl, ?y40⟩) (by assumption) ?z40
          case y40 => (intro w hSw; (try dsimp only at hSw); go_simp) <;> with_reducible rfl
          try simp only [Act.put, List.setIfInBounds_toArray, List.set_cons_zero, List.set_cons_succ]
          refine wpAnyH_take (i := 41) (oi := { dst := some 85, op := Go.Op.binOp Go.BinOp.gtr 3 (Go.Operand.tmp 84) (Go.Operand.const (Go.Value.int Go.IntKind.i64 0)) 3, type := 4, pos := "law.go:90", after := #[{ on := 40, ground := Go.Ground.data }, { on := 36, ground := Go.Ground.guard }], guard := some (36, true) }) (v := ?v41) rfl (by kernel_rfl) (by kernel_rfl) (by kernel_rfl) (fun _ _ _ h => h) (Or.inl ⟨by rfl, ?y41⟩) (by assumption) ?z41
          case y41 => (intro w hSw; (try dsimp only at hSw); go_simp) <;> with_reducible rfl
          try simp only [Act.put, List.setIfInBounds_toArray, List.set_cons_zero, List.set_cons_succ]
          refine wpAnyH_ready (rs := [38]) (by kernel_rfl) (by simp) ?_
          refine (AllReadyH.cons (o := { dst := some 82, op := Go.Op.call { callee := Go.Callee.value (Go.Operand.func 13), args := #[Go.Operand.tmp 81], argTypes := #[26] }, type := 4, pos := "law.go:90", after := #[{ on := 37, ground := Go.Ground.data }, { on := 36, ground := Go.Ground.chain }, { on := 36, ground := Go.Ground.guard }], guard := some (36, true) }) rfl (fun K hK => ?_) AllReadyH.nil)
          · skip
            go_simp
            with_reducible refine (H7.out _).mono ?_
            rintro q_ u12 ⟨rfl, hb⟩
            have B12 := Lib.hid (vian HN.out B11.out hb)
            have P12 := Lib.hid (P11.out.below hb)
            have K12 := Lib.hid (K11.out.below hb)
            have A12 := Lib.hid (A11.out.below hb)
            have V12 := Lib.hid (V11.out.below hb)
            clear hb
            clear B11 P11 K11 A11 V11
            refine hK.out _ _ ?s42 (fun hNew => ?r42)
            case s42 => exact ⟨P12.out.2.1, K12.out.2.1, A12.out.2.1, V12.out.2.1⟩
            clear hK K hHeld
            have hHeld := hNew
            clear hNew
            refine wpAnyH_take (i := 42) (oi := { dst := some 86, op := Go.Op.binOp Go.BinOp.eql 4 (Go.Operand.tmp 82) (Go.Operand.tmp 85) 4, type := 4, pos := "law.go:90", after := #[{ on := 38, ground := Go.Ground.data }, { on := 41, ground := Go.Ground.data }, { on := 36, ground := Go.Ground.guard }], guard := some (36, true) }) (v := ?v43) rfl (by kernel_rfl) (by kernel_rfl) (by kernel_rfl) (fun _ _ _ h => h) (Or.inl ⟨by rfl, ?y43⟩) (by assumption) ?z43
            case y43 => (intro w hSw; (try dsimp only at hSw); go_simp) <;> with_reducible rfl
            try simp only [Act.put, List.setIfInBounds_toArray, List.set_cons_zero, List.set_cons_succ]
            refine wpAnyH_take (i := 43) (oi := { dst := some 87, op := Go.Op.pick (Go.Operand.tmp 80) (Go.Operand.tmp 86) (Go.Operand.const (Go.Value.bool false)), type := 4, pos := "law.go:90", after := #[{ on := 36, ground := Go.Ground.data }, { on := 42, ground := Go.Ground.data }], guard := none }) (v := ?v44) rfl (by kernel_rfl) (by kernel_rfl) (by kernel_rfl) (fun _ _ _ h => h) (Or.inl ⟨by rfl, ?y44⟩) (by assumption) ?z44
            case y44 => (intro w hSw; (try dsimp only at hSw); go_simp) <;> with_reducible rfl
            try simp only [Act.put, List.setIfInBounds_toArray, List.set_cons_zero, List.set_cons_succ]
            refine wpAnyH_take (i := 44) (oi := { dst := some 6, op := Go.Op.assign (Go.Operand.tmp 87), type := 4, pos := "law.go:90", after := #[{ on := 43, ground := Go.Ground.data }, { on := 38, ground := Go.Ground.chain }, { on := 0, ground := Go.Ground.phase }, { on := 1, ground := Go.Ground.phase }, { on := 2, ground := Go.Ground.phase }, { on := 3, ground := Go.Ground.phase }, { on := 4, ground := Go.Ground.phase }, { on := 5, ground := Go.Ground.phase }, { on := 6, ground := Go.Ground.phase }, { on := 7, ground := Go.Ground.phase }, { on := 8, ground := Go.Ground.phase }, { on := 9, ground := Go.Ground.phase }, { on := 10, ground := Go.Ground.phase }, { on := 11, ground := Go.Ground.phase }, { on := 12, ground := Go.Ground.phase }, { on := 13, ground := Go.Ground.phase }, { on := 14, ground := Go.Ground.phase }, { on := 15, ground := Go.Ground.phase }, { on := 16, ground := Go.Ground.phase }, { on := 17, ground := Go.Ground.phase }, { on := 18, ground := Go.Ground.phase }, { on := 19, ground := Go.Ground.phase }, { on := 20, ground := Go.Ground.phase }, { on := 21, ground := Go.Ground.phase }, { on := 22, ground := Go.Ground.phase }, { on := 23, ground := Go.Ground.phase }, { on := 24, ground := Go.Ground.phase }, { on := 25, ground := Go.Ground.phase }, { on := 26, ground := Go.Ground.phase }, { on := 27, ground := Go.Ground.phase }, { on := 28, ground := Go.Ground.phase }, { on := 29, ground := Go.Ground.phase }, { on := 30, ground := Go.Ground.phase }, { on := 31, ground := Go.Ground.phase }, { on := 32, ground := Go.Ground.phase }, { on := 33, ground := Go.Ground.phase }, { on := 34, ground := Go.Ground.phase }, { on := 35, ground := Go.Ground.phase }, { on := 36, ground := Go.Ground.phase }, { on := 37, ground := Go.Ground.phase }, { on := 38, ground := Go.Ground.phase }, { on := 39, ground := Go.Ground.phase }, { on := 40, ground := Go.Ground.phase }, { on := 41, ground := Go.Ground.phase }, { on := 42, ground := Go.Ground.phase }, { on := 43, ground := Go.Ground.phase }], guard := none }) (v := ?v45) rfl (by kernel_rfl) (by kernel_rfl) (by kernel_rfl) (fun _ _ _ h => h) (Or.inl ⟨by rfl, ?y45⟩) (by assumption) ?z45
            case y45 => (intro w hSw; (try dsimp only at hSw); go_simp) <;> with_reducible rfl
            try simp only [Act.put, List.setIfInBounds_toArray, List.set_cons_zero, List.set_cons_succ]
            refine wpAnyH_done (by kernel_rfl) ?_ _
            clear hHeld
            go_wp2
            go_ret
            exact ⟨rfl, B12.out⟩
theorem any_walk (p : CV) (x a : Int) (hd : 0 ≤ p.p ∧ p.p < 256) (x0 : 0 ≤ x) (x1 : x < 256) (a0 : 0 ≤ a) (a1 : a < 65536) (w : World) : Calls Try.prog 6 #[.agg #[.int .u8 p.p, .int .i64 p.l], .int .u8 x, .int .u16 a] w fun q_ w' => q_ = .returned (.bool true) ∧ Below w.heap.size w w' := by
  by_cases g0 : p.l < -1000
  · exact any_b0 p x a g0 w
  by_cases g1 : 1000 < p.l
  · exact any_b1 p x a g0 g1 w
  have ok : p.ok := ⟨hd, by omega, by omega⟩
  exact any_g p _ _ _ _ _ x a g0 g1 (fun W => tick_c p _ _ _ _ ok rfl rfl rfl rfl W) (fun W => rtick_c p _ _ _ _ ok rfl rfl rfl rfl W) (fun W => write_c p.p p.l x x0 x1 W) (fun W => rwrite_c p.p p.l x x0 x1 W) (fun W => lets_c p a _ a0 a1 rfl W) (fun W => rlets_c p a _ a0 a1 rfl W) (fun W => busy_c p _ rfl W) w
end Go.Proofs.Ytnfjgofmfaadnaa
