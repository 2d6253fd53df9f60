/-
  The walk through TimerReads: for every timer; no condition but that each number fits, and that the table lies as it is laid.
-/
import Derived.Test.YtjjmnjkmfkcdoaaDoorOpn
import Derived.Test.YtjjmnjkmfkcdoaaDoorAwk
import Derived.Deep.Cut
import Derived.LoopN
import Derived.Laws.StructEq
import Derived.Laws.Tables
namespace Go.Proofs.YtjjmnjkmfkcdoaaDoor
open Go.ChangeShapes Go.WideShapes Go.ChangeAt Go.RowKit
set_option linter.unusedVariables false
set_option linter.unusedSimpArgs false
set_option maxRecDepth 100000
set_option maxHeartbeats 8000000 in
theorem reads_20 (c a m k kk : Int) (o : Bool) (n : Nat) (x od y0 y3 wv : Int) (RA : TV) (hk0 : 0 ≤ k) (hk1 : k < 256) (hkk : k % 8 = kk) (hx0 : 0 ≤ x) (hx1 : x < 256) (hn0 : n < 256) (hn1 : n % 3 = 1) (hw_ : x = wv) (h1_ : ∀ W, Glob W → Calls Tryd.prog 12 #[.agg #[.int .u16 c, .int .u8 a, .int .u8 m, .int .u8 kk, .bool o], .int .i64 2, .int .u8 x] W fun q_ w' => q_ = .returned (.agg #[.int .u16 RA.c, .int .u8 RA.a, .int .u8 RA.m, .int .u8 RA.k, .bool RA.o]) ∧ Below W.heap.size W w') (h2_ : ∀ W, Calls Tryd.prog 14 #[.agg #[.int .u16 RA.c, .int .u8 RA.a, .int .u8 RA.m, .int .u8 RA.k, .bool RA.o], .int .i64 2] W fun q_ w' => q_ = .returned (.int .u8 wv) ∧ Below W.heap.size W w') (ra0 : ∀ W, Calls Tryd.prog 14 #[.agg #[.int .u16 RA.c, .int .u8 RA.a, .int .u8 RA.m, .int .u8 RA.k, .bool RA.o], .int .i64 0] W fun q_ w' => q_ = .returned (.int .u8 y0) ∧ Below W.heap.size W w') (rt0 : ∀ W, Calls Tryd.prog 14 #[.agg #[.int .u16 c, .int .u8 a, .int .u8 m, .int .u8 kk, .bool o], .int .i64 0] W fun q_ w' => q_ = .returned (.int .u8 y0) ∧ Below W.heap.size W w') (ra3 : ∀ W, Calls Tryd.prog 14 #[.agg #[.int .u16 RA.c, .int .u8 RA.a, .int .u8 RA.m, .int .u8 RA.k, .bool RA.o], .int .i64 3] W fun q_ w' => q_ = .returned (.int .u8 y3) ∧ Below W.heap.size W w') (rt3 : ∀ W, Calls Tryd.prog 14 #[.agg #[.int .u16 c, .int .u8 a, .int .u8 m, .int .u8 kk, .bool o], .int .i64 3] W fun q_ w' => q_ = .returned (.int .u8 y3) ∧ Below W.heap.size W w') (o0 : 0 ≤ od) (o3 : od ≤ 3) (w : World) (hglob : Glob w) : Calls Tryd.prog 7 #[.agg #[.int .u16 c, .int .u8 a, .int .u8 m, .int .u8 k, .bool o], .int .u8 n, .int .u8 x, .int .i64 od] w fun q_ w' => q_ = .returned (.bool true) ∧ Below w.heap.size w w' := by
  suffices hall : ∀ (n_ : Nat) (W0 : World), n_ ≤ W0.heap.size → Below n_ W0 w → Tab n_ W0 → Calls Tryd.prog 7 #[.agg #[.int .u16 c, .int .u8 a, .int .u8 m, .int .u8 k, .bool o], .int .u8 n, .int .u8 x, .int .i64 od] w fun q_ w' => q_ = .returned (.bool true) ∧ Below n_ W0 w' from hall _ _ (Nat.le_refl _) (Below.refl _ _) ⟨hglob.1, hglob⟩
  intro n_ W0 hn hB hT
  have HN := Lib.hid hn
  have BB := Lib.hid hB
  have TT := Lib.hid hT
  clear hn hB hT hglob
  have AW := Lib.hid awake_c
  have hnot : ∀ (x : Bool) (w : World), (Op.unary .not (.bool x)).run Tryd.prog w = .ok (.bool (!x)) w := fun _ _ => rfl
  have H1 := Lib.hid h1_
  have H2 := Lib.hid h2_
  have HA0 := Lib.hid ra0
  have HA3 := Lib.hid ra3
  have HT0 := Lib.hid rt0
  have HT3 := Lib.hid rt3
  clear h1_ h2_ ra0 ra3 rt0 rt3
  have e1 : bits .and .u8 k 7 = kk := (and7 k hk0 hk1).trans hkk
  subst hw_
  have e3 : (n : Int).tmod 3 = 1 := by rw [Int.tmod_eq_emod_of_nonneg (by omega)]; omega
  have e4 : (n : Int) % 3 = 1 := by omega
  clear hn1
  go_enter Tryd.func7, Tryd.ntmps7
  have B0 := Lib.hid (vian HN.out BB.out (own1 w (.cells #[.int .u16 c, .int .u8 a, .int .u8 m, .int .u8 k, .bool o] 24)))
  have V0 := Lib.hid (Has.new w #[.int .u16 c, .int .u8 a, .int .u8 m, .int .u8 k, .bool o] 24)
  have LV := Lib.hid (Nat.le_trans HN.out BB.out.size)
  go_upto_region 1 with (fail)
  generalize w.alloc (.cells #[.int .u16 c, .int .u8 a, .int .u8 m, .int .u8 k, .bool o] 24) = w0 at B0 V0 ⊢
  generalize w.heap.size = vb at V0 LV ⊢
  go_wp2_with fail
  with_reducible refine (AW.out _ (TT.out.next B0.out).g).mono ?_
  rintro q_ w1 ⟨rfl, hb⟩
  have B1 := Lib.hid (vian HN.out B0.out hb)
  have V1 := Lib.hid (V0.out.below hb)
  clear hb B0 V0
  have T2 := Lib.hid (Has.new w1 #[.int .u16 c, .int .u8 a, .int .u8 m, .int .u8 k, .bool o] 27)
  have V2 := Lib.hid (V1.out.alloc (.cells #[.int .u16 c, .int .u8 a, .int .u8 m, .int .u8 k, .bool o] 27))
  have B2 := Lib.hid (vian HN.out B1.out (own1 w1 (.cells #[.int .u16 c, .int .u8 a, .int .u8 m, .int .u8 k, .bool o] 27)))
  have LT := Lib.hid (Nat.le_trans HN.out B1.out.size)
  have NVT := Lib.hid (show vb ≠ w1.heap.size from fun e => absurd V1.out.1 (Nat.not_lt.2 (Nat.le_of_eq e.symm)))
  obtain ⟨hc, hf⟩ := V1.out.out
  go_upto_region 4 with (fail)
  generalize w1.alloc (.cells #[.int .u16 c, .int .u8 a, .int .u8 m, .int .u8 k, .bool o] 27) = w2 at T2 V2 B2 ⊢
  generalize w1.heap.size = tb at T2 LT NVT ⊢
  clear B1 V1
  clear hc hf V2 NVT LV
  have T3 := Lib.hid (show Has (w2.setCell ⟨tb, 3, none⟩ (.int .u8 kk)) tb #[.int .u16 c, .int .u8 a, .int .u8 m, .int .u8 kk, .bool o] by simpa using T2.out.set 3 (.int .u8 kk) (by simp))
  have B3 := Lib.hid (store1 B2.out LT.out 3 (.int .u8 kk))
  obtain ⟨hc, hf⟩ := T2.out.out
  go_upto_region 5 with (fail)
  clear hc hf
  generalize w2.setCell ⟨tb, 3, none⟩ (.int .u8 kk) = w3 at T3 B3 ⊢
  clear T2 B2
  obtain ⟨hc, hf⟩ := T3.out.out
  go_wp2_with fail
  with_reducible refine (H1.out _ (TT.out.next B3.out).g).mono ?_
  rintro q_ w4 ⟨rfl, hb⟩
  have B4 := Lib.hid (vian HN.out B3.out hb)
  have T4 := Lib.hid (T3.out.below hb)
  clear hb hc hf B3 T3
  have T5 := Lib.hid (T4.out.alloc (.cells #[.int .u16 RA.c, .int .u8 RA.a, .int .u8 RA.m, .int .u8 RA.k, .bool RA.o] 27))
  have U5 := Lib.hid (Has.new w4 #[.int .u16 RA.c, .int .u8 RA.a, .int .u8 RA.m, .int .u8 RA.k, .bool RA.o] 27)
  have B5 := Lib.hid (vian HN.out B4.out (own1 w4 (.cells #[.int .u16 RA.c, .int .u8 RA.a, .int .u8 RA.m, .int .u8 RA.k, .bool RA.o] 27)))
  go_upto_region 10 with (fail)
  generalize w4.alloc (.cells #[.int .u16 RA.c, .int .u8 RA.a, .int .u8 RA.m, .int .u8 RA.k, .bool RA.o] 27) = w5 at T5 U5 B5 ⊢
  generalize w4.heap.size = ub at U5 ⊢
  clear T4 B4
  go_wp2
  refine wp_loop_rounds 5 ?_
  rw [rounds_succ]
  go_upto_region 13 with (fail)
  have B6 := Lib.hid B5.out.drew
  have T6 := Lib.hid T5.out.drew
  have U6 := Lib.hid U5.out.drew
  refine wp_region_held_drew (S := (fun w' => (∀ o_, w'.cell? ⟨tb, o_, none⟩ = #[.int .u16 c, .int .u8 a, .int .u8 m, .int .u8 kk, .bool o][o_]?) ∧ (∀ o_, w'.cell? ⟨ub, o_, none⟩ = #[.int .u16 RA.c, .int .u8 RA.a, .int .u8 RA.m, .int .u8 RA.k, .bool RA.o][o_]?))) (by kernel_rfl) ⟨T6.out.2.1, U6.out.2.1⟩ (fun hHeld => ?_)
  generalize World.drew w5 = w6 at hHeld B6 T6 U6 ⊢
  clear B5 T5 U5
  refine wpAnyH_take (i := 0) (oi := { dst := some 37, op := Go.Op.move (Go.Operand.tmp 13), type := 3, pos := "law.go:132", after := #[], guard := none }) (v := ?v1) rfl (by kernel_rfl) (by kernel_rfl) (by kernel_rfl) (fun _ _ _ h => h) (Or.inl ⟨by rfl, ?y1⟩) (by assumption) ?z1
  case y1 => (intro w hSw; (try dsimp only at hSw); go_simp) <;> with_reducible rfl
  try simp only [Act.put, List.setIfInBounds_toArray, List.set_cons_zero, List.set_cons_succ]
  refine wpAnyH_take (i := 1) (oi := { dst := some 38, op := Go.Op.move (Go.Operand.tmp 10), type := 3, pos := "law.go:132", after := #[], guard := none }) (v := ?v2) rfl (by kernel_rfl) (by kernel_rfl) (by kernel_rfl) (fun _ _ _ h => h) (Or.inl ⟨by rfl, ?y2⟩) (by assumption) ?z2
  case y2 => (intro w hSw; (try dsimp only at hSw); go_simp) <;> with_reducible rfl
  try simp only [Act.put, List.setIfInBounds_toArray, List.set_cons_zero, List.set_cons_succ]
  refine wpAnyH_take (i := 2) (oi := { dst := some 39, op := Go.Op.binOp Go.BinOp.neq 3 (Go.Operand.tmp 37) (Go.Operand.tmp 38) 3, type := 4, pos := "law.go:132", after := #[{ on := 0, ground := Go.Ground.data }, { on := 1, ground := Go.Ground.data }], guard := none }) (v := ?v3) rfl (by kernel_rfl) (by kernel_rfl) (by kernel_rfl) (fun _ _ _ h => h) (Or.inl ⟨by rfl, ?y3⟩) (by assumption) ?z3
  case y3 => (intro w hSw; (try dsimp only at hSw); go_simp) <;> with_reducible rfl
  try simp only [Act.put, List.setIfInBounds_toArray, List.set_cons_zero, List.set_cons_succ]
  refine wpAnyH_take (i := 3) (oi := { dst := some 40, op := Go.Op.move (Go.Operand.tmp 39), type := 4, pos := "law.go:132", after := #[{ on := 2, ground := Go.Ground.data }], guard := none }) (v := ?v4) rfl (by kernel_rfl) (by kernel_rfl) (by kernel_rfl) (fun _ _ _ h => h) (Or.inl ⟨by rfl, ?y4⟩) (by assumption) ?z4
  case y4 => (intro w hSw; (try dsimp only at hSw); go_simp) <;> with_reducible rfl
  try simp only [Act.put, List.setIfInBounds_toArray, List.set_cons_zero, List.set_cons_succ]
  refine wpAnyH_take (i := 4) (oi := { dst := some 41, op := Go.Op.move (Go.Operand.tmp 13), type := 3, pos := "law.go:132", after := #[{ on := 3, ground := Go.Ground.guard }], guard := some (3, true) }) (v := ?v5) rfl (by kernel_rfl) (by kernel_rfl) (by kernel_rfl) (fun _ _ _ h => h) (Or.inl ⟨by rfl, ?y5⟩) (by assumption) ?z5
  case y5 => (intro w hSw; (try dsimp only at hSw); go_simp) <;> with_reducible rfl
  try simp only [Act.put, List.setIfInBounds_toArray, List.set_cons_zero, List.set_cons_succ]
  refine wpAnyH_take (i := 5) (oi := { dst := some 42, op := Go.Op.binOp Go.BinOp.neq 3 (Go.Operand.tmp 41) (Go.Operand.const (Go.Value.int Go.IntKind.i64 1)) 3, type := 4, pos := "law.go:132", after := #[{ on := 4, ground := Go.Ground.data }, { on := 3, ground := Go.Ground.guard }], guard := some (3, true) }) (v := ?v6) rfl (by kernel_rfl) (by kernel_rfl) (by kernel_rfl) (fun _ _ _ h => h) (Or.inl ⟨by rfl, ?y6⟩) (by assumption) ?z6
  case y6 => (intro w hSw; (try dsimp only at hSw); go_simp) <;> with_reducible rfl
  try simp only [Act.put, List.setIfInBounds_toArray, List.set_cons_zero, List.set_cons_succ]
  refine wpAnyH_take (i := 6) (oi := { dst := some 43, op := Go.Op.pick (Go.Operand.tmp 40) (Go.Operand.tmp 42) (Go.Operand.const (Go.Value.bool false)), type := 4, pos := "law.go:132", after := #[{ on := 3, ground := Go.Ground.data }, { on := 5, ground := Go.Ground.data }], guard := none }) (v := ?v7) rfl (by kernel_rfl) (by kernel_rfl) (by kernel_rfl) (fun _ _ _ h => h) (Or.inl ⟨by rfl, ?y7⟩) (by assumption) ?z7
  case y7 => (intro w hSw; (try dsimp only at hSw); go_simp) <;> with_reducible rfl
  try simp only [Act.put, List.setIfInBounds_toArray, List.set_cons_zero, List.set_cons_succ]
  refine wpAnyH_take (i := 7) (oi := { dst := some 44, op := Go.Op.move (Go.Operand.tmp 43), type := 4, pos := "law.go:132", after := #[{ on := 6, ground := Go.Ground.data }, { on := 3, ground := Go.Ground.chain }], guard := none }) (v := ?v8) rfl (by kernel_rfl) (by kernel_rfl) (by kernel_rfl) (fun _ _ _ h => h) (Or.inl ⟨by rfl, ?y8⟩) (by assumption) ?z8
  case y8 => (intro w hSw; (try dsimp only at hSw); go_simp) <;> with_reducible rfl
  try simp only [Act.put, List.setIfInBounds_toArray, List.set_cons_zero, List.set_cons_succ]
  refine wpAnyH_take (i := 8) (oi := { dst := some 45, op := Go.Op.load 27 (Go.Operand.tmp 11), type := 27, pos := "law.go:132", after := #[{ on := 7, ground := Go.Ground.guard }], guard := some (7, true) }) (v := ?v9) rfl (by kernel_rfl) (by kernel_rfl) (by kernel_rfl) (fun _ _ _ h => h) (Or.inl ⟨by rfl, ?y9⟩) (by assumption) ?z9
  case y9 => (intro w hSw; (try dsimp only at hSw); go_simp) <;> with_reducible rfl
  try simp only [Act.put, List.setIfInBounds_toArray, List.set_cons_zero, List.set_cons_succ]
  refine wpAnyH_take (i := 9) (oi := { dst := some 46, op := Go.Op.move (Go.Operand.tmp 13), type := 3, pos := "law.go:132", after := #[{ on := 7, ground := Go.Ground.guard }], guard := some (7, true) }) (v := ?v10) rfl (by kernel_rfl) (by kernel_rfl) (by kernel_rfl) (fun _ _ _ h => h) (Or.inl ⟨by rfl, ?y10⟩) (by assumption) ?z10
  case y10 => (intro w hSw; (try dsimp only at hSw); go_simp) <;> with_reducible rfl
  try simp only [Act.put, List.setIfInBounds_toArray, List.set_cons_zero, List.set_cons_succ]
  refine wpAnyH_take (i := 11) (oi := { dst := some 48, op := Go.Op.load 27 (Go.Operand.tmp 9), type := 27, pos := "law.go:132", after := #[{ on := 7, ground := Go.Ground.guard }], guard := some (7, true) }) (v := ?v11) rfl (by kernel_rfl) (by kernel_rfl) (by kernel_rfl) (fun _ _ _ h => h) (Or.inl ⟨by rfl, ?y11⟩) (by assumption) ?z11
  case y11 => (intro w hSw; (try dsimp only at hSw); go_simp) <;> with_reducible rfl
  try simp only [Act.put, List.setIfInBounds_toArray, List.set_cons_zero, List.set_cons_succ]
  refine wpAnyH_take (i := 12) (oi := { dst := some 49, op := Go.Op.move (Go.Operand.tmp 13), type := 3, pos := "law.go:132", after := #[{ on := 7, ground := Go.Ground.guard }], guard := some (7, true) }) (v := ?v12) rfl (by kernel_rfl) (by kernel_rfl) (by kernel_rfl) (fun _ _ _ h => h) (Or.inl ⟨by rfl, ?y12⟩) (by assumption) ?z12
  case y12 => (intro w hSw; (try dsimp only at hSw); go_simp) <;> with_reducible rfl
  try simp only [Act.put, List.setIfInBounds_toArray, List.set_cons_zero, List.set_cons_succ]
  refine wpAnyH_ready (rs := [10]) (by kernel_rfl) (by simp) ?_
  refine (AllReadyH.cons (o := { dst := some 47, op := Go.Op.call { callee := Go.Callee.value (Go.Operand.func 14), args := #[Go.Operand.tmp 45, Go.Operand.tmp 46], argTypes := #[27, 3] }, type := 5, pos := "law.go:132", after := #[{ on := 8, ground := Go.Ground.data }, { on := 9, ground := Go.Ground.data }, { on := 7, ground := Go.Ground.chain }, { on := 7, ground := Go.Ground.guard }], guard := some (7, true) }) rfl (fun K hK => ?_) AllReadyH.nil)
  · skip
    go_simp
    with_reducible refine (HA0.out _).mono ?_
    rintro q_ w7 ⟨rfl, hb⟩
    have B7 := Lib.hid (vian HN.out B6.out hb)
    have T7 := Lib.hid (T6.out.below hb)
    have U7 := Lib.hid (U6.out.below hb)
    clear hb B6 T6 U6
    refine hK.out _ _ ?s13 (fun hNew => ?r13)
    case s13 => exact ⟨T7.out.2.1, U7.out.2.1⟩
    clear hK K hHeld
    have hHeld := hNew
    clear hNew
    refine wpAnyH_ready (rs := [13]) (by kernel_rfl) (by simp) ?_
    refine (AllReadyH.cons (o := { dst := some 50, op := Go.Op.call { callee := Go.Callee.value (Go.Operand.func 14), args := #[Go.Operand.tmp 48, Go.Operand.tmp 49], argTypes := #[27, 3] }, type := 5, pos := "law.go:132", after := #[{ on := 11, ground := Go.Ground.data }, { on := 12, ground := Go.Ground.data }, { on := 10, ground := Go.Ground.chain }, { on := 7, ground := Go.Ground.guard }], guard := some (7, true) }) rfl (fun K hK => ?_) AllReadyH.nil)
    · skip
      go_simp
      with_reducible refine (HT0.out _).mono ?_
      rintro q_ w8 ⟨rfl, hb⟩
      have B8 := Lib.hid (vian HN.out B7.out hb)
      have T8 := Lib.hid (T7.out.below hb)
      have U8 := Lib.hid (U7.out.below hb)
      clear hb B7 T7 U7
      refine hK.out _ _ ?s14 (fun hNew => ?r14)
      case s14 => exact ⟨T8.out.2.1, U8.out.2.1⟩
      clear hK K hHeld
      have hHeld := hNew
      clear hNew
      refine wpAnyH_take (i := 14) (oi := { dst := some 51, op := Go.Op.binOp Go.BinOp.neq 5 (Go.Operand.tmp 47) (Go.Operand.tmp 50) 5, type := 4, pos := "law.go:132", after := #[{ on := 10, ground := Go.Ground.data }, { on := 13, ground := Go.Ground.data }, { on := 7, ground := Go.Ground.guard }], guard := some (7, true) }) (v := ?v15) rfl (by kernel_rfl) (by kernel_rfl) (by kernel_rfl) (fun _ _ _ h => h) (Or.inl ⟨by rfl, ?y15⟩) (by assumption) ?z15
      case y15 => (intro w hSw; (try dsimp only at hSw); go_simp) <;> with_reducible rfl
      try simp only [Act.put, List.setIfInBounds_toArray, List.set_cons_zero, List.set_cons_succ]
      refine wpAnyH_take (i := 15) (oi := { dst := some 52, op := Go.Op.pick (Go.Operand.tmp 44) (Go.Operand.tmp 51) (Go.Operand.const (Go.Value.bool false)), type := 4, pos := "law.go:132", after := #[{ on := 7, ground := Go.Ground.data }, { on := 14, ground := Go.Ground.data }], guard := none }) (v := ?v16) rfl (by kernel_rfl) (by kernel_rfl) (by kernel_rfl) (fun _ _ _ h => h) (Or.inl ⟨by rfl, ?y16⟩) (by assumption) ?z16
      case y16 => (intro w hSw; (try dsimp only at hSw); go_simp) <;> with_reducible rfl
      try simp only [Act.put, List.setIfInBounds_toArray, List.set_cons_zero, List.set_cons_succ]
      refine wpAnyH_done (by kernel_rfl) ?_ _
      clear hHeld
      go_wp2
      rw [rounds_succ]
      go_upto_region 13 with (fail)
      have B9 := Lib.hid B8.out.drew
      have T9 := Lib.hid T8.out.drew
      have U9 := Lib.hid U8.out.drew
      refine wp_region_held_drew (S := (fun w' => (∀ o_, w'.cell? ⟨tb, o_, none⟩ = #[.int .u16 c, .int .u8 a, .int .u8 m, .int .u8 kk, .bool o][o_]?) ∧ (∀ o_, w'.cell? ⟨ub, o_, none⟩ = #[.int .u16 RA.c, .int .u8 RA.a, .int .u8 RA.m, .int .u8 RA.k, .bool RA.o][o_]?))) (by kernel_rfl) ⟨T9.out.2.1, U9.out.2.1⟩ (fun hHeld => ?_)
      generalize World.drew w8 = w9 at hHeld B9 T9 U9 ⊢
      clear B8 T8 U8
      refine wpAnyH_take (i := 0) (oi := { dst := some 37, op := Go.Op.move (Go.Operand.tmp 13), type := 3, pos := "law.go:132", after := #[], guard := none }) (v := ?v17) rfl (by kernel_rfl) (by kernel_rfl) (by kernel_rfl) (fun _ _ _ h => h) (Or.inl ⟨by rfl, ?y17⟩) (by assumption) ?z17
      case y17 => (intro w hSw; (try dsimp only at hSw); go_simp) <;> with_reducible rfl
      try simp only [Act.put, List.setIfInBounds_toArray, List.set_cons_zero, List.set_cons_succ]
      refine wpAnyH_take (i := 1) (oi := { dst := some 38, op := Go.Op.move (Go.Operand.tmp 10), type := 3, pos := "law.go:132", after := #[], guard := none }) (v := ?v18) rfl (by kernel_rfl) (by kernel_rfl) (by kernel_rfl) (fun _ _ _ h => h) (Or.inl ⟨by rfl, ?y18⟩) (by assumption) ?z18
      case y18 => (intro w hSw; (try dsimp only at hSw); go_simp) <;> with_reducible rfl
      try simp only [Act.put, List.setIfInBounds_toArray, List.set_cons_zero, List.set_cons_succ]
      refine wpAnyH_take (i := 2) (oi := { dst := some 39, op := Go.Op.binOp Go.BinOp.neq 3 (Go.Operand.tmp 37) (Go.Operand.tmp 38) 3, type := 4, pos := "law.go:132", after := #[{ on := 0, ground := Go.Ground.data }, { on := 1, ground := Go.Ground.data }], guard := none }) (v := ?v19) rfl (by kernel_rfl) (by kernel_rfl) (by kernel_rfl) (fun _ _ _ h => h) (Or.inl ⟨by rfl, ?y19⟩) (by assumption) ?z19
      case y19 => (intro w hSw; (try dsimp only at hSw); go_simp) <;> with_reducible rfl
      try simp only [Act.put, List.setIfInBounds_toArray, List.set_cons_zero, List.set_cons_succ]
      refine wpAnyH_take (i := 3) (oi := { dst := some 40, op := Go.Op.move (Go.Operand.tmp 39), type := 4, pos := "law.go:132", after := #[{ on := 2, ground := Go.Ground.data }], guard := none }) (v := ?v20) rfl (by kernel_rfl) (by kernel_rfl) (by kernel_rfl) (fun _ _ _ h => h) (Or.inl ⟨by rfl, ?y20⟩) (by assumption) ?z20
      case y20 => (intro w hSw; (try dsimp only at hSw); go_simp) <;> with_reducible rfl
      try simp only [Act.put, List.setIfInBounds_toArray, List.set_cons_zero, List.set_cons_succ]
      refine wpAnyH_take (i := 4) (oi := { dst := some 41, op := Go.Op.move (Go.Operand.tmp 13), type := 3, pos := "law.go:132", after := #[{ on := 3, ground := Go.Ground.guard }], guard := some (3, true) }) (v := ?v21) rfl (by kernel_rfl) (by kernel_rfl) (by kernel_rfl) (fun _ _ _ h => h) (Or.inl ⟨by rfl, ?y21⟩) (by assumption) ?z21
      case y21 => (intro w hSw; (try dsimp only at hSw); go_simp) <;> with_reducible rfl
      try simp only [Act.put, List.setIfInBounds_toArray, List.set_cons_zero, List.set_cons_succ]
      refine wpAnyH_take (i := 5) (oi := { dst := some 42, op := Go.Op.binOp Go.BinOp.neq 3 (Go.Operand.tmp 41) (Go.Operand.const (Go.Value.int Go.IntKind.i64 1)) 3, type := 4, pos := "law.go:132", after := #[{ on := 4, ground := Go.Ground.data }, { on := 3, ground := Go.Ground.guard }], guard := some (3, true) }) (v := ?v22) rfl (by kernel_rfl) (by kernel_rfl) (by kernel_rfl) (fun _ _ _ h => h) (Or.inl ⟨by rfl, ?y22⟩) (by assumption) ?z22
      case y22 => (intro w hSw; (try dsimp only at hSw); go_simp) <;> with_reducible rfl
      try simp only [Act.put, List.setIfInBounds_toArray, List.set_cons_zero, List.set_cons_succ]
      refine wpAnyH_take (i := 6) (oi := { dst := some 43, op := Go.Op.pick (Go.Operand.tmp 40) (Go.Operand.tmp 42) (Go.Operand.const (Go.Value.bool false)), type := 4, pos := "law.go:132", after := #[{ on := 3, ground := Go.Ground.data }, { on := 5, ground := Go.Ground.data }], guard := none }) (v := ?v23) rfl (by kernel_rfl) (by kernel_rfl) (by kernel_rfl) (fun _ _ _ h => h) (Or.inl ⟨by rfl, ?y23⟩) (by assumption) ?z23
      case y23 => (intro w hSw; (try dsimp only at hSw); go_simp) <;> with_reducible rfl
      try simp only [Act.put, List.setIfInBounds_toArray, List.set_cons_zero, List.set_cons_succ]
      refine wpAnyH_take (i := 7) (oi := { dst := some 44, op := Go.Op.move (Go.Operand.tmp 43), type := 4, pos := "law.go:132", after := #[{ on := 6, ground := Go.Ground.data }, { on := 3, ground := Go.Ground.chain }], guard := none }) (v := ?v24) rfl (by kernel_rfl) (by kernel_rfl) (by kernel_rfl) (fun _ _ _ h => h) (Or.inl ⟨by rfl, ?y24⟩) (by assumption) ?z24
      case y24 => (intro w hSw; (try dsimp only at hSw); go_simp) <;> with_reducible rfl
      try simp only [Act.put, List.setIfInBounds_toArray, List.set_cons_zero, List.set_cons_succ]
      refine wpAnyH_take (i := 8) (oi := { dst := some 45, op := Go.Op.load 27 (Go.Operand.tmp 11), type := 27, pos := "law.go:132", after := #[{ on := 7, ground := Go.Ground.guard }], guard := some (7, true) }) (v := undef) rfl (by kernel_rfl) (by kernel_rfl) (by kernel_rfl) (fun _ _ _ h => h) (Or.inr ⟨by rfl, rfl⟩) (by assumption) ?_
      try simp only [Act.put, List.setIfInBounds_toArray, List.set_cons_zero, List.set_cons_succ]
      refine wpAnyH_take (i := 9) (oi := { dst := some 46, op := Go.Op.move (Go.Operand.tmp 13), type := 3, pos := "law.go:132", after := #[{ on := 7, ground := Go.Ground.guard }], guard := some (7, true) }) (v := undef) rfl (by kernel_rfl) (by kernel_rfl) (by kernel_rfl) (fun _ _ _ h => h) (Or.inr ⟨by rfl, rfl⟩) (by assumption) ?_
      try simp only [Act.put, List.setIfInBounds_toArray, List.set_cons_zero, List.set_cons_succ]
      refine wpAnyH_take (i := 10) (oi := { dst := some 47, op := Go.Op.call { callee := Go.Callee.value (Go.Operand.func 14), args := #[Go.Operand.tmp 45, Go.Operand.tmp 46], argTypes := #[27, 3] }, type := 5, pos := "law.go:132", after := #[{ on := 8, ground := Go.Ground.data }, { on := 9, ground := Go.Ground.data }, { on := 7, ground := Go.Ground.chain }, { on := 7, ground := Go.Ground.guard }], guard := some (7, true) }) (v := undef) rfl (by kernel_rfl) (by kernel_rfl) (by kernel_rfl) (fun _ _ _ h => h) (Or.inr ⟨by rfl, rfl⟩) (by assumption) ?_
      try simp only [Act.put, List.setIfInBounds_toArray, List.set_cons_zero, List.set_cons_succ]
      refine wpAnyH_take (i := 11) (oi := { dst := some 48, op := Go.Op.load 27 (Go.Operand.tmp 9), type := 27, pos := "law.go:132", after := #[{ on := 7, ground := Go.Ground.guard }], guard := some (7, true) }) (v := undef) rfl (by kernel_rfl) (by kernel_rfl) (by kernel_rfl) (fun _ _ _ h => h) (Or.inr ⟨by rfl, rfl⟩) (by assumption) ?_
      try simp only [Act.put, List.setIfInBounds_toArray, List.set_cons_zero, List.set_cons_succ]
      refine wpAnyH_take (i := 12) (oi := { dst := some 49, op := Go.Op.move (Go.Operand.tmp 13), type := 3, pos := "law.go:132", after := #[{ on := 7, ground := Go.Ground.guard }], guard := some (7, true) }) (v := undef) rfl (by kernel_rfl) (by kernel_rfl) (by kernel_rfl) (fun _ _ _ h => h) (Or.inr ⟨by rfl, rfl⟩) (by assumption) ?_
      try simp only [Act.put, List.setIfInBounds_toArray, List.set_cons_zero, List.set_cons_succ]
      refine wpAnyH_take (i := 13) (oi := { dst := some 50, op := Go.Op.call { callee := Go.Callee.value (Go.Operand.func 14), args := #[Go.Operand.tmp 48, Go.Operand.tmp 49], argTypes := #[27, 3] }, type := 5, pos := "law.go:132", after := #[{ on := 11, ground := Go.Ground.data }, { on := 12, ground := Go.Ground.data }, { on := 10, ground := Go.Ground.chain }, { on := 7, ground := Go.Ground.guard }], guard := some (7, true) }) (v := undef) rfl (by kernel_rfl) (by kernel_rfl) (by kernel_rfl) (fun _ _ _ h => h) (Or.inr ⟨by rfl, rfl⟩) (by assumption) ?_
      try simp only [Act.put, List.setIfInBounds_toArray, List.set_cons_zero, List.set_cons_succ]
      refine wpAnyH_take (i := 14) (oi := { dst := some 51, op := Go.Op.binOp Go.BinOp.neq 5 (Go.Operand.tmp 47) (Go.Operand.tmp 50) 5, type := 4, pos := "law.go:132", after := #[{ on := 10, ground := Go.Ground.data }, { on := 13, ground := Go.Ground.data }, { on := 7, ground := Go.Ground.guard }], guard := some (7, true) }) (v := undef) rfl (by kernel_rfl) (by kernel_rfl) (by kernel_rfl) (fun _ _ _ h => h) (Or.inr ⟨by rfl, rfl⟩) (by assumption) ?_
      try simp only [Act.put, List.setIfInBounds_toArray, List.set_cons_zero, List.set_cons_succ]
      refine wpAnyH_take (i := 15) (oi := { dst := some 52, op := Go.Op.pick (Go.Operand.tmp 44) (Go.Operand.tmp 51) (Go.Operand.const (Go.Value.bool false)), type := 4, pos := "law.go:132", after := #[{ on := 7, ground := Go.Ground.data }, { on := 14, ground := Go.Ground.data }], guard := none }) (v := ?v32) rfl (by kernel_rfl) (by kernel_rfl) (by kernel_rfl) (fun _ _ _ h => h) (Or.inl ⟨by rfl, ?y32⟩) (by assumption) ?z32
      case y32 => (intro w hSw; (try dsimp only at hSw); go_simp) <;> with_reducible rfl
      try simp only [Act.put, List.setIfInBounds_toArray, List.set_cons_zero, List.set_cons_succ]
      refine wpAnyH_done (by kernel_rfl) ?_ _
      clear hHeld
      go_wp2
      rw [rounds_succ]
      go_upto_region 13 with (fail)
      have B10 := Lib.hid B9.out.drew
      have T10 := Lib.hid T9.out.drew
      have U10 := Lib.hid U9.out.drew
      refine wp_region_held_drew (S := (fun w' => (∀ o_, w'.cell? ⟨tb, o_, none⟩ = #[.int .u16 c, .int .u8 a, .int .u8 m, .int .u8 kk, .bool o][o_]?) ∧ (∀ o_, w'.cell? ⟨ub, o_, none⟩ = #[.int .u16 RA.c, .int .u8 RA.a, .int .u8 RA.m, .int .u8 RA.k, .bool RA.o][o_]?))) (by kernel_rfl) ⟨T10.out.2.1, U10.out.2.1⟩ (fun hHeld => ?_)
      generalize World.drew w9 = w10 at hHeld B10 T10 U10 ⊢
      clear B9 T9 U9
      refine wpAnyH_take (i := 0) (oi := { dst := some 37, op := Go.Op.move (Go.Operand.tmp 13), type := 3, pos := "law.go:132", after := #[], guard := none }) (v := ?v33) rfl (by kernel_rfl) (by kernel_rfl) (by kernel_rfl) (fun _ _ _ h => h) (Or.inl ⟨by rfl, ?y33⟩) (by assumption) ?z33
      case y33 => (intro w hSw; (try dsimp only at hSw); go_simp) <;> with_reducible rfl
      try simp only [Act.put, List.setIfInBounds_toArray, List.set_cons_zero, List.set_cons_succ]
      refine wpAnyH_take (i := 1) (oi := { dst := some 38, op := Go.Op.move (Go.Operand.tmp 10), type := 3, pos := "law.go:132", after := #[], guard := none }) (v := ?v34) rfl (by kernel_rfl) (by kernel_rfl) (by kernel_rfl) (fun _ _ _ h => h) (Or.inl ⟨by rfl, ?y34⟩) (by assumption) ?z34
      case y34 => (intro w hSw; (try dsimp only at hSw); go_simp) <;> with_reducible rfl
      try simp only [Act.put, List.setIfInBounds_toArray, List.set_cons_zero, List.set_cons_succ]
      refine wpAnyH_take (i := 2) (oi := { dst := some 39, op := Go.Op.binOp Go.BinOp.neq 3 (Go.Operand.tmp 37) (Go.Operand.tmp 38) 3, type := 4, pos := "law.go:132", after := #[{ on := 0, ground := Go.Ground.data }, { on := 1, ground := Go.Ground.data }], guard := none }) (v := ?v35) rfl (by kernel_rfl) (by kernel_rfl) (by kernel_rfl) (fun _ _ _ h => h) (Or.inl ⟨by rfl, ?y35⟩) (by assumption) ?z35
      case y35 => (intro w hSw; (try dsimp only at hSw); go_simp) <;> with_reducible rfl
      try simp only [Act.put, List.setIfInBounds_toArray, List.set_cons_zero, List.set_cons_succ]
      refine wpAnyH_take (i := 3) (oi := { dst := some 40, op := Go.Op.move (Go.Operand.tmp 39), type := 4, pos := "law.go:132", after := #[{ on := 2, ground := Go.Ground.data }], guard := none }) (v := ?v36) rfl (by kernel_rfl) (by kernel_rfl) (by kernel_rfl) (fun _ _ _ h => h) (Or.inl ⟨by rfl, ?y36⟩) (by assumption) ?z36
      case y36 => (intro w hSw; (try dsimp only at hSw); go_simp) <;> with_reducible rfl
      try simp only [Act.put, List.setIfInBounds_toArray, List.set_cons_zero, List.set_cons_succ]
      refine wpAnyH_take (i := 4) (oi := { dst := some 41, op := Go.Op.move (Go.Operand.tmp 13), type := 3, pos := "law.go:132", after := #[{ on := 3, ground := Go.Ground.guard }], guard := some (3, true) }) (v := undef) rfl (by kernel_rfl) (by kernel_rfl) (by kernel_rfl) (fun _ _ _ h => h) (Or.inr ⟨by rfl, rfl⟩) (by assumption) ?_
      try simp only [Act.put, List.setIfInBounds_toArray, List.set_cons_zero, List.set_cons_succ]
      refine wpAnyH_take (i := 5) (oi := { dst := some 42, op := Go.Op.binOp Go.BinOp.neq 3 (Go.Operand.tmp 41) (Go.Operand.const (Go.Value.int Go.IntKind.i64 1)) 3, type := 4, pos := "law.go:132", after := #[{ on := 4, ground := Go.Ground.data }, { on := 3, ground := Go.Ground.guard }], guard := some (3, true) }) (v := undef) rfl (by kernel_rfl) (by kernel_rfl) (by kernel_rfl) (fun _ _ _ h => h) (Or.inr ⟨by rfl, rfl⟩) (by assumption) ?_
      try simp only [Act.put, List.setIfInBounds_toArray, List.set_cons_zero, List.set_cons_succ]
      refine wpAnyH_take (i := 6) (oi := { dst := some 43, op := Go.Op.pick (Go.Operand.tmp 40) (Go.Operand.tmp 42) (Go.Operand.const (Go.Value.bool false)), type := 4, pos := "law.go:132", after := #[{ on := 3, ground := Go.Ground.data }, { on := 5, ground := Go.Ground.data }], guard := none }) (v := ?v39) rfl (by kernel_rfl) (by kernel_rfl) (by kernel_rfl) (fun _ _ _ h => h) (Or.inl ⟨by rfl, ?y39⟩) (by assumption) ?z39
      case y39 => (intro w hSw; (try dsimp only at hSw); go_simp) <;> with_reducible rfl
      try simp only [Act.put, List.setIfInBounds_toArray, List.set_cons_zero, List.set_cons_succ]
      refine wpAnyH_take (i := 7) (oi := { dst := some 44, op := Go.Op.move (Go.Operand.tmp 43), type := 4, pos := "law.go:132", after := #[{ on := 6, ground := Go.Ground.data }, { on := 3, ground := Go.Ground.chain }], guard := none }) (v := ?v40) rfl (by kernel_rfl) (by kernel_rfl) (by kernel_rfl) (fun _ _ _ h => h) (Or.inl ⟨by rfl, ?y40⟩) (by assumption) ?z40
      case y40 => (intro w hSw; (try dsimp only at hSw); go_simp) <;> with_reducible rfl
      try simp only [Act.put, List.setIfInBounds_toArray, List.set_cons_zero, List.set_cons_succ]
      refine wpAnyH_take (i := 8) (oi := { dst := some 45, op := Go.Op.load 27 (Go.Operand.tmp 11), type := 27, pos := "law.go:132", after := #[{ on := 7, ground := Go.Ground.guard }], guard := some (7, true) }) (v := undef) rfl (by kernel_rfl) (by kernel_rfl) (by kernel_rfl) (fun _ _ _ h => h) (Or.inr ⟨by rfl, rfl⟩) (by assumption) ?_
      try simp only [Act.put, List.setIfInBounds_toArray, List.set_cons_zero, List.set_cons_succ]
      refine wpAnyH_take (i := 9) (oi := { dst := some 46, op := Go.Op.move (Go.Operand.tmp 13), type := 3, pos := "law.go:132", after := #[{ on := 7, ground := Go.Ground.guard }], guard := some (7, true) }) (v := undef) rfl (by kernel_rfl) (by kernel_rfl) (by kernel_rfl) (fun _ _ _ h => h) (Or.inr ⟨by rfl, rfl⟩) (by assumption) ?_
      try simp only [Act.put, List.setIfInBounds_toArray, List.set_cons_zero, List.set_cons_succ]
      refine wpAnyH_take (i := 10) (oi := { dst := some 47, op := Go.Op.call { callee := Go.Callee.value (Go.Operand.func 14), args := #[Go.Operand.tmp 45, Go.Operand.tmp 46], argTypes := #[27, 3] }, type := 5, pos := "law.go:132", after := #[{ on := 8, ground := Go.Ground.data }, { on := 9, ground := Go.Ground.data }, { on := 7, ground := Go.Ground.chain }, { on := 7, ground := Go.Ground.guard }], guard := some (7, true) }) (v := undef) rfl (by kernel_rfl) (by kernel_rfl) (by kernel_rfl) (fun _ _ _ h => h) (Or.inr ⟨by rfl, rfl⟩) (by assumption) ?_
      try simp only [Act.put, List.setIfInBounds_toArray, List.set_cons_zero, List.set_cons_succ]
      refine wpAnyH_take (i := 11) (oi := { dst := some 48, op := Go.Op.load 27 (Go.Operand.tmp 9), type := 27, pos := "law.go:132", after := #[{ on := 7, ground := Go.Ground.guard }], guard := some (7, true) }) (v := undef) rfl (by kernel_rfl) (by kernel_rfl) (by kernel_rfl) (fun _ _ _ h => h) (Or.inr ⟨by rfl, rfl⟩) (by assumption) ?_
      try simp only [Act.put, List.setIfInBounds_toArray, List.set_cons_zero, List.set_cons_succ]
      refine wpAnyH_take (i := 12) (oi := { dst := some 49, op := Go.Op.move (Go.Operand.tmp 13), type := 3, pos := "law.go:132", after := #[{ on := 7, ground := Go.Ground.guard }], guard := some (7, true) }) (v := undef) rfl (by kernel_rfl) (by kernel_rfl) (by kernel_rfl) (fun _ _ _ h => h) (Or.inr ⟨by rfl, rfl⟩) (by assumption) ?_
      try simp only [Act.put, List.setIfInBounds_toArray, List.set_cons_zero, List.set_cons_succ]
      refine wpAnyH_take (i := 13) (oi := { dst := some 50, op := Go.Op.call { callee := Go.Callee.value (Go.Operand.func 14), args := #[Go.Operand.tmp 48, Go.Operand.tmp 49], argTypes := #[27, 3] }, type := 5, pos := "law.go:132", after := #[{ on := 11, ground := Go.Ground.data }, { on := 12, ground := Go.Ground.data }, { on := 10, ground := Go.Ground.chain }, { on := 7, ground := Go.Ground.guard }], guard := some (7, true) }) (v := undef) rfl (by kernel_rfl) (by kernel_rfl) (by kernel_rfl) (fun _ _ _ h => h) (Or.inr ⟨by rfl, rfl⟩) (by assumption) ?_
      try simp only [Act.put, List.setIfInBounds_toArray, List.set_cons_zero, List.set_cons_succ]
      refine wpAnyH_take (i := 14) (oi := { dst := some 51, op := Go.Op.binOp Go.BinOp.neq 5 (Go.Operand.tmp 47) (Go.Operand.tmp 50) 5, type := 4, pos := "law.go:132", after := #[{ on := 10, ground := Go.Ground.data }, { on := 13, ground := Go.Ground.data }, { on := 7, ground := Go.Ground.guard }], guard := some (7, true) }) (v := undef) rfl (by kernel_rfl) (by kernel_rfl) (by kernel_rfl) (fun _ _ _ h => h) (Or.inr ⟨by rfl, rfl⟩) (by assumption) ?_
      try simp only [Act.put, List.setIfInBounds_toArray, List.set_cons_zero, List.set_cons_succ]
      refine wpAnyH_take (i := 15) (oi := { dst := some 52, op := Go.Op.pick (Go.Operand.tmp 44) (Go.Operand.tmp 51) (Go.Operand.const (Go.Value.bool false)), type := 4, pos := "law.go:132", after := #[{ on := 7, ground := Go.Ground.data }, { on := 14, ground := Go.Ground.data }], guard := none }) (v := ?v48) rfl (by kernel_rfl) (by kernel_rfl) (by kernel_rfl) (fun _ _ _ h => h) (Or.inl ⟨by rfl, ?y48⟩) (by assumption) ?z48
      case y48 => (intro w hSw; (try dsimp only at hSw); go_simp) <;> with_reducible rfl
      try simp only [Act.put, List.setIfInBounds_toArray, List.set_cons_zero, List.set_cons_succ]
      refine wpAnyH_done (by kernel_rfl) ?_ _
      clear hHeld
      go_wp2
      rw [rounds_succ]
      go_upto_region 13 with (fail)
      have B11 := Lib.hid B10.out.drew
      have T11 := Lib.hid T10.out.drew
      have U11 := Lib.hid U10.out.drew
      refine wp_region_held_drew (S := (fun w' => (∀ o_, w'.cell? ⟨tb, o_, none⟩ = #[.int .u16 c, .int .u8 a, .int .u8 m, .int .u8 kk, .bool o][o_]?) ∧ (∀ o_, w'.cell? ⟨ub, o_, none⟩ = #[.int .u16 RA.c, .int .u8 RA.a, .int .u8 RA.m, .int .u8 RA.k, .bool RA.o][o_]?))) (by kernel_rfl) ⟨T11.out.2.1, U11.out.2.1⟩ (fun hHeld => ?_)
      generalize World.drew w10 = w11 at hHeld B11 T11 U11 ⊢
      clear B10 T10 U10
      refine wpAnyH_take (i := 0) (oi := { dst := some 37, op := Go.Op.move (Go.Operand.tmp 13), type := 3, pos := "law.go:132", after := #[], guard := none }) (v := ?v49) rfl (by kernel_rfl) (by kernel_rfl) (by kernel_rfl) (fun _ _ _ h => h) (Or.inl ⟨by rfl, ?y49⟩) (by assumption) ?z49
      case y49 => (intro w hSw; (try dsimp only at hSw); go_simp) <;> with_reducible rfl
      try simp only [Act.put, List.setIfInBounds_toArray, List.set_cons_zero, List.set_cons_succ]
      refine wpAnyH_take (i := 1) (oi := { dst := some 38, op := Go.Op.move (Go.Operand.tmp 10), type := 3, pos := "law.go:132", after := #[], guard := none }) (v := ?v50) rfl (by kernel_rfl) (by kernel_rfl) (by kernel_rfl) (fun _ _ _ h => h) (Or.inl ⟨by rfl, ?y50⟩) (by assumption) ?z50
      case y50 => (intro w hSw; (try dsimp only at hSw); go_simp) <;> with_reducible rfl
      try simp only [Act.put, List.setIfInBounds_toArray, List.set_cons_zero, List.set_cons_succ]
      refine wpAnyH_take (i := 2) (oi := { dst := some 39, op := Go.Op.binOp Go.BinOp.neq 3 (Go.Operand.tmp 37) (Go.Operand.tmp 38) 3, type := 4, pos := "law.go:132", after := #[{ on := 0, ground := Go.Ground.data }, { on := 1, ground := Go.Ground.data }], guard := none }) (v := ?v51) rfl (by kernel_rfl) (by kernel_rfl) (by kernel_rfl) (fun _ _ _ h => h) (Or.inl ⟨by rfl, ?y51⟩) (by assumption) ?z51
      case y51 => (intro w hSw; (try dsimp only at hSw); go_simp) <;> with_reducible rfl
      try simp only [Act.put, List.setIfInBounds_toArray, List.set_cons_zero, List.set_cons_succ]
      refine wpAnyH_take (i := 3) (oi := { dst := some 40, op := Go.Op.move (Go.Operand.tmp 39), type := 4, pos := "law.go:132", after := #[{ on := 2, ground := Go.Ground.data }], guard := none }) (v := ?v52) rfl (by kernel_rfl) (by kernel_rfl) (by kernel_rfl) (fun _ _ _ h => h) (Or.inl ⟨by rfl, ?y52⟩) (by assumption) ?z52
      case y52 => (intro w hSw; (try dsimp only at hSw); go_simp) <;> with_reducible rfl
      try simp only [Act.put, List.setIfInBounds_toArray, List.set_cons_zero, List.set_cons_succ]
      refine wpAnyH_take (i := 4) (oi := { dst := some 41, op := Go.Op.move (Go.Operand.tmp 13), type := 3, pos := "law.go:132", after := #[{ on := 3, ground := Go.Ground.guard }], guard := some (3, true) }) (v := ?v53) rfl (by kernel_rfl) (by kernel_rfl) (by kernel_rfl) (fun _ _ _ h => h) (Or.inl ⟨by rfl, ?y53⟩) (by assumption) ?z53
      case y53 => (intro w hSw; (try dsimp only at hSw); go_simp) <;> with_reducible rfl
      try simp only [Act.put, List.setIfInBounds_toArray, List.set_cons_zero, List.set_cons_succ]
      refine wpAnyH_take (i := 5) (oi := { dst := some 42, op := Go.Op.binOp Go.BinOp.neq 3 (Go.Operand.tmp 41) (Go.Operand.const (Go.Value.int Go.IntKind.i64 1)) 3, type := 4, pos := "law.go:132", after := #[{ on := 4, ground := Go.Ground.data }, { on := 3, ground := Go.Ground.guard }], guard := some (3, true) }) (v := ?v54) rfl (by kernel_rfl) (by kernel_rfl) (by kernel_rfl) (fun _ _ _ h => h) (Or.inl ⟨by rfl, ?y54⟩) (by assumption) ?z54
      case y54 => (intro w hSw; (try dsimp only at hSw); go_simp) <;> with_reducible rfl
      try simp only [Act.put, List.setIfInBounds_toArray, List.set_cons_zero, List.set_cons_succ]
      refine wpAnyH_take (i := 6) (oi := { dst := some 43, op := Go.Op.pick (Go.Operand.tmp 40) (Go.Operand.tmp 42) (Go.Operand.const (Go.Value.bool false)), type := 4, pos := "law.go:132", after := #[{ on := 3, ground := Go.Ground.data }, { on := 5, ground := Go.Ground.data }], guard := none }) (v := ?v55) rfl (by kernel_rfl) (by kernel_rfl) (by kernel_rfl) (fun _ _ _ h => h) (Or.inl ⟨by rfl, ?y55⟩) (by assumption) ?z55
      case y55 => (intro w hSw; (try dsimp only at hSw); go_simp) <;> with_reducible rfl
      try simp only [Act.put, List.setIfInBounds_toArray, List.set_cons_zero, List.set_cons_succ]
      refine wpAnyH_take (i := 7) (oi := { dst := some 44, op := Go.Op.move (Go.Operand.tmp 43), type := 4, pos := "law.go:132", after := #[{ on := 6, ground := Go.Ground.data }, { on := 3, ground := Go.Ground.chain }], guard := none }) (v := ?v56) rfl (by kernel_rfl) (by kernel_rfl) (by kernel_rfl) (fun _ _ _ h => h) (Or.inl ⟨by rfl, ?y56⟩) (by assumption) ?z56
      case y56 => (intro w hSw; (try dsimp only at hSw); go_simp) <;> with_reducible rfl
      try simp only [Act.put, List.setIfInBounds_toArray, List.set_cons_zero, List.set_cons_succ]
      refine wpAnyH_take (i := 8) (oi := { dst := some 45, op := Go.Op.load 27 (Go.Operand.tmp 11), type := 27, pos := "law.go:132", after := #[{ on := 7, ground := Go.Ground.guard }], guard := some (7, true) }) (v := ?v57) rfl (by kernel_rfl) (by kernel_rfl) (by kernel_rfl) (fun _ _ _ h => h) (Or.inl ⟨by rfl, ?y57⟩) (by assumption) ?z57
      case y57 => (intro w hSw; (try dsimp only at hSw); go_simp) <;> with_reducible rfl
      try simp only [Act.put, List.setIfInBounds_toArray, List.set_cons_zero, List.set_cons_succ]
      refine wpAnyH_take (i := 9) (oi := { dst := some 46, op := Go.Op.move (Go.Operand.tmp 13), type := 3, pos := "law.go:132", after := #[{ on := 7, ground := Go.Ground.guard }], guard := some (7, true) }) (v := ?v58) rfl (by kernel_rfl) (by kernel_rfl) (by kernel_rfl) (fun _ _ _ h => h) (Or.inl ⟨by rfl, ?y58⟩) (by assumption) ?z58
      case y58 => (intro w hSw; (try dsimp only at hSw); go_simp) <;> with_reducible rfl
      try simp only [Act.put, List.setIfInBounds_toArray, List.set_cons_zero, List.set_cons_succ]
      refine wpAnyH_take (i := 11) (oi := { dst := some 48, op := Go.Op.load 27 (Go.Operand.tmp 9), type := 27, pos := "law.go:132", after := #[{ on := 7, ground := Go.Ground.guard }], guard := some (7, true) }) (v := ?v59) rfl (by kernel_rfl) (by kernel_rfl) (by kernel_rfl) (fun _ _ _ h => h) (Or.inl ⟨by rfl, ?y59⟩) (by assumption) ?z59
      case y59 => (intro w hSw; (try dsimp only at hSw); go_simp) <;> with_reducible rfl
      try simp only [Act.put, List.setIfInBounds_toArray, List.set_cons_zero, List.set_cons_succ]
      refine wpAnyH_take (i := 12) (oi := { dst := some 49, op := Go.Op.move (Go.Operand.tmp 13), type := 3, pos := "law.go:132", after := #[{ on := 7, ground := Go.Ground.guard }], guard := some (7, true) }) (v := ?v60) rfl (by kernel_rfl) (by kernel_rfl) (by kernel_rfl) (fun _ _ _ h => h) (Or.inl ⟨by rfl, ?y60⟩) (by assumption) ?z60
      case y60 => (intro w hSw; (try dsimp only at hSw); go_simp) <;> with_reducible rfl
      try simp only [Act.put, List.setIfInBounds_toArray, List.set_cons_zero, List.set_cons_succ]
      refine wpAnyH_ready (rs := [10]) (by kernel_rfl) (by simp) ?_
      refine (AllReadyH.cons (o := { dst := some 47, op := Go.Op.call { callee := Go.Callee.value (Go.Operand.func 14), args := #[Go.Operand.tmp 45, Go.Operand.tmp 46], argTypes := #[27, 3] }, type := 5, pos := "law.go:132", after := #[{ on := 8, ground := Go.Ground.data }, { on := 9, ground := Go.Ground.data }, { on := 7, ground := Go.Ground.chain }, { on := 7, ground := Go.Ground.guard }], guard := some (7, true) }) rfl (fun K hK => ?_) AllReadyH.nil)
      · skip
        go_simp
        with_reducible refine (HA3.out _).mono ?_
        rintro q_ w12 ⟨rfl, hb⟩
        have B12 := Lib.hid (vian HN.out B11.out hb)
        have T12 := Lib.hid (T11.out.below hb)
        have U12 := Lib.hid (U11.out.below hb)
        clear hb B11 T11 U11
        refine hK.out _ _ ?s61 (fun hNew => ?r61)
        case s61 => exact ⟨T12.out.2.1, U12.out.2.1⟩
        clear hK K hHeld
        have hHeld := hNew
        clear hNew
        refine wpAnyH_ready (rs := [13]) (by kernel_rfl) (by simp) ?_
        refine (AllReadyH.cons (o := { dst := some 50, op := Go.Op.call { callee := Go.Callee.value (Go.Operand.func 14), args := #[Go.Operand.tmp 48, Go.Operand.tmp 49], argTypes := #[27, 3] }, type := 5, pos := "law.go:132", after := #[{ on := 11, ground := Go.Ground.data }, { on := 12, ground := Go.Ground.data }, { on := 10, ground := Go.Ground.chain }, { on := 7, ground := Go.Ground.guard }], guard := some (7, true) }) rfl (fun K hK => ?_) AllReadyH.nil)
        · skip
          go_simp
          with_reducible refine (HT3.out _).mono ?_
          rintro q_ w13 ⟨rfl, hb⟩
          have B13 := Lib.hid (vian HN.out B12.out hb)
          have T13 := Lib.hid (T12.out.below hb)
          have U13 := Lib.hid (U12.out.below hb)
          clear hb B12 T12 U12
          refine hK.out _ _ ?s62 (fun hNew => ?r62)
          case s62 => exact ⟨T13.out.2.1, U13.out.2.1⟩
          clear hK K hHeld
          have hHeld := hNew
          clear hNew
          refine wpAnyH_take (i := 14) (oi := { dst := some 51, op := Go.Op.binOp Go.BinOp.neq 5 (Go.Operand.tmp 47) (Go.Operand.tmp 50) 5, type := 4, pos := "law.go:132", after := #[{ on := 10, ground := Go.Ground.data }, { on := 13, ground := Go.Ground.data }, { on := 7, ground := Go.Ground.guard }], guard := some (7, true) }) (v := ?v63) rfl (by kernel_rfl) (by kernel_rfl) (by kernel_rfl) (fun _ _ _ h => h) (Or.inl ⟨by rfl, ?y63⟩) (by assumption) ?z63
          case y63 => (intro w hSw; (try dsimp only at hSw); go_simp) <;> with_reducible rfl
          try simp only [Act.put, List.setIfInBounds_toArray, List.set_cons_zero, List.set_cons_succ]
          refine wpAnyH_take (i := 15) (oi := { dst := some 52, op := Go.Op.pick (Go.Operand.tmp 44) (Go.Operand.tmp 51) (Go.Operand.const (Go.Value.bool false)), type := 4, pos := "law.go:132", after := #[{ on := 7, ground := Go.Ground.data }, { on := 14, ground := Go.Ground.data }], guard := none }) (v := ?v64) rfl (by kernel_rfl) (by kernel_rfl) (by kernel_rfl) (fun _ _ _ h => h) (Or.inl ⟨by rfl, ?y64⟩) (by assumption) ?z64
          case y64 => (intro w hSw; (try dsimp only at hSw); go_simp) <;> with_reducible rfl
          try simp only [Act.put, List.setIfInBounds_toArray, List.set_cons_zero, List.set_cons_succ]
          refine wpAnyH_done (by kernel_rfl) ?_ _
          clear hHeld
          go_wp2
          rw [rounds_succ]
          go_upto_region 16 with (fail)
          have B14 := Lib.hid B13.out.drew
          have T14 := Lib.hid T13.out.drew
          have U14 := Lib.hid U13.out.drew
          refine wp_region_held_drew (S := (fun w' => (∀ o_, w'.cell? ⟨tb, o_, none⟩ = #[.int .u16 c, .int .u8 a, .int .u8 m, .int .u8 kk, .bool o][o_]?) ∧ (∀ o_, w'.cell? ⟨ub, o_, none⟩ = #[.int .u16 RA.c, .int .u8 RA.a, .int .u8 RA.m, .int .u8 RA.k, .bool RA.o][o_]?))) (by kernel_rfl) ⟨T14.out.2.1, U14.out.2.1⟩ (fun hHeld => ?_)
          generalize World.drew w13 = w14 at hHeld B14 T14 U14 ⊢
          clear B13 T13 U13
          refine wpAnyH_take (i := 0) (oi := { dst := some 54, op := Go.Op.load 27 (Go.Operand.tmp 11), type := 27, pos := "law.go:136", after := #[], guard := none }) (v := ?v65) rfl (by kernel_rfl) (by kernel_rfl) (by kernel_rfl) (fun _ _ _ h => h) (Or.inl ⟨by rfl, ?y65⟩) (by assumption) ?z65
          case y65 => (intro w hSw; (try dsimp only at hSw); go_simp) <;> with_reducible rfl
          try simp only [Act.put, List.setIfInBounds_toArray, List.set_cons_zero, List.set_cons_succ]
          refine wpAnyH_take (i := 1) (oi := { dst := some 55, op := Go.Op.move (Go.Operand.tmp 10), type := 3, pos := "law.go:136", after := #[], guard := none }) (v := ?v66) rfl (by kernel_rfl) (by kernel_rfl) (by kernel_rfl) (fun _ _ _ h => h) (Or.inl ⟨by rfl, ?y66⟩) (by assumption) ?z66
          case y66 => (intro w hSw; (try dsimp only at hSw); go_simp) <;> with_reducible rfl
          try simp only [Act.put, List.setIfInBounds_toArray, List.set_cons_zero, List.set_cons_succ]
          refine wpAnyH_take (i := 3) (oi := { dst := some 57, op := Go.Op.move (Go.Operand.tmp 12), type := 5, pos := "law.go:136", after := #[], guard := none }) (v := ?v67) rfl (by kernel_rfl) (by kernel_rfl) (by kernel_rfl) (fun _ _ _ h => h) (Or.inl ⟨by rfl, ?y67⟩) (by assumption) ?z67
          case y67 => (intro w hSw; (try dsimp only at hSw); go_simp) <;> with_reducible rfl
          try simp only [Act.put, List.setIfInBounds_toArray, List.set_cons_zero, List.set_cons_succ]
          refine wpAnyH_ready (rs := [2]) (by kernel_rfl) (by simp) ?_
          refine (AllReadyH.cons (o := { dst := some 56, op := Go.Op.call { callee := Go.Callee.value (Go.Operand.func 14), args := #[Go.Operand.tmp 54, Go.Operand.tmp 55], argTypes := #[27, 3] }, type := 5, pos := "law.go:136", after := #[{ on := 0, ground := Go.Ground.data }, { on := 1, ground := Go.Ground.data }], guard := none }) rfl (fun K hK => ?_) AllReadyH.nil)
          · skip
            go_simp
            with_reducible refine (H2.out _).mono ?_
            rintro q_ w15 ⟨rfl, hb⟩
            have B15 := Lib.hid (vian HN.out B14.out hb)
            have T15 := Lib.hid (T14.out.below hb)
            have U15 := Lib.hid (U14.out.below hb)
            clear hb B14 T14 U14
            refine hK.out _ _ ?s68 (fun hNew => ?r68)
            case s68 => exact ⟨T15.out.2.1, U15.out.2.1⟩
            clear hK K hHeld
            have hHeld := hNew
            clear hNew
            refine wpAnyH_take (i := 4) (oi := { dst := some 58, op := Go.Op.binOp Go.BinOp.eql 5 (Go.Operand.tmp 56) (Go.Operand.tmp 57) 5, type := 4, pos := "law.go:136", after := #[{ on := 2, ground := Go.Ground.data }, { on := 3, ground := Go.Ground.data }], guard := none }) (v := ?v69) rfl (by kernel_rfl) (by kernel_rfl) (by kernel_rfl) (fun _ _ _ h => h) (Or.inl ⟨by rfl, ?y69⟩) (by assumption) ?z69
            case y69 => (intro w hSw; (try dsimp only at hSw); go_simp) <;> with_reducible rfl
            try simp only [Act.put, List.setIfInBounds_toArray, List.set_cons_zero, List.set_cons_succ]
            refine wpAnyH_take (i := 5) (oi := { dst := some 59, op := Go.Op.move (Go.Operand.tmp 58), type := 4, pos := "law.go:136", after := #[{ on := 4, ground := Go.Ground.data }, { on := 2, ground := Go.Ground.chain }], guard := none }) (v := ?v70) rfl (by kernel_rfl) (by kernel_rfl) (by kernel_rfl) (fun _ _ _ h => h) (Or.inl ⟨by rfl, ?y70⟩) (by assumption) ?z70
            case y70 => (intro w hSw; (try dsimp only at hSw); go_simp) <;> with_reducible rfl
            try simp only [Act.put, List.setIfInBounds_toArray, List.set_cons_zero, List.set_cons_succ]
            refine wpAnyH_take (i := 6) (oi := { dst := some 60, op := Go.Op.move (Go.Operand.tmp 3), type := 3, pos := "law.go:136", after := #[{ on := 5, ground := Go.Ground.guard }], guard := some (5, true) }) (v := ?v71) rfl (by kernel_rfl) (by kernel_rfl) (by kernel_rfl) (fun _ _ _ h => h) (Or.inl ⟨by rfl, ?y71⟩) (by assumption) ?z71
            case y71 => (intro w hSw; (try dsimp only at hSw); go_simp) <;> with_reducible rfl
            try simp only [Act.put, List.setIfInBounds_toArray, List.set_cons_zero, List.set_cons_succ]
            refine wpAnyH_take (i := 7) (oi := { dst := some 61, op := Go.Op.binOp Go.BinOp.geq 3 (Go.Operand.tmp 60) (Go.Operand.const (Go.Value.int Go.IntKind.i64 0)) 3, type := 4, pos := "law.go:136", after := #[{ on := 6, ground := Go.Ground.data }, { on := 5, ground := Go.Ground.guard }], guard := some (5, true) }) (v := ?v72) rfl (by kernel_rfl) (by kernel_rfl) (by kernel_rfl) (fun _ _ _ h => h) (Or.inl ⟨by rfl, ?y72⟩) (by assumption) ?z72
            case y72 => (intro w hSw; (try dsimp only at hSw); go_simp) <;> with_reducible rfl
            try simp only [Act.put, List.setIfInBounds_toArray, List.set_cons_zero, List.set_cons_succ]
            refine wpAnyH_take (i := 8) (oi := { dst := some 62, op := Go.Op.move (Go.Operand.tmp 61), type := 4, pos := "law.go:136", after := #[{ on := 7, ground := Go.Ground.data }, { on := 5, ground := Go.Ground.chain }, { on := 5, ground := Go.Ground.guard }], guard := some (5, true) }) (v := ?v73) rfl (by kernel_rfl) (by kernel_rfl) (by kernel_rfl) (fun _ _ _ h => h) (Or.inl ⟨by rfl, ?y73⟩) (by assumption) ?z73
            case y73 => (intro w hSw; (try dsimp only at hSw); go_simp) <;> with_reducible rfl
            try simp only [Act.put, List.setIfInBounds_toArray, List.set_cons_zero, List.set_cons_succ]
            refine wpAnyH_take (i := 9) (oi := { dst := some 63, op := Go.Op.move (Go.Operand.tmp 3), type := 3, pos := "law.go:136", after := #[{ on := 8, ground := Go.Ground.guard }], guard := some (8, true) }) (v := ?v74) rfl (by kernel_rfl) (by kernel_rfl) (by kernel_rfl) (fun _ _ _ h => h) (Or.inl ⟨by rfl, ?y74⟩) (by assumption) ?z74
            case y74 => (intro w hSw; (try dsimp only at hSw); go_simp) <;> with_reducible rfl
            try simp only [Act.put, List.setIfInBounds_toArray, List.set_cons_zero, List.set_cons_succ]
            refine wpAnyH_take (i := 10) (oi := { dst := some 64, op := Go.Op.binOp Go.BinOp.leq 3 (Go.Operand.tmp 63) (Go.Operand.const (Go.Value.int Go.IntKind.i64 3)) 3, type := 4, pos := "law.go:136", after := #[{ on := 9, ground := Go.Ground.data }, { on := 8, ground := Go.Ground.guard }], guard := some (8, true) }) (v := ?v75) rfl (by kernel_rfl) (by kernel_rfl) (by kernel_rfl) (fun _ _ _ h => h) (Or.inl ⟨by rfl, ?y75⟩) (by assumption) ?z75
            case y75 => (intro w hSw; (try dsimp only at hSw); go_simp) <;> with_reducible rfl
            try simp only [Act.put, List.setIfInBounds_toArray, List.set_cons_zero, List.set_cons_succ]
            refine wpAnyH_take (i := 11) (oi := { dst := some 65, op := Go.Op.pick (Go.Operand.tmp 62) (Go.Operand.tmp 64) (Go.Operand.const (Go.Value.bool false)), type := 4, pos := "law.go:136", after := #[{ on := 8, ground := Go.Ground.data }, { on := 10, ground := Go.Ground.data }, { on := 5, ground := Go.Ground.guard }], guard := some (5, true) }) (v := ?v76) rfl (by kernel_rfl) (by kernel_rfl) (by kernel_rfl) (fun _ _ _ h => h) (Or.inl ⟨by rfl, ?y76⟩) (by assumption) ?z76
            case y76 => (intro w hSw; (try dsimp only at hSw); go_simp) <;> with_reducible rfl
            try simp only [Act.put, List.setIfInBounds_toArray, List.set_cons_zero, List.set_cons_succ]
            refine wpAnyH_take (i := 12) (oi := { dst := some 66, op := Go.Op.move (Go.Operand.tmp 65), type := 4, pos := "law.go:136", after := #[{ on := 11, ground := Go.Ground.data }, { on := 8, ground := Go.Ground.chain }, { on := 5, ground := Go.Ground.guard }], guard := some (5, true) }) (v := ?v77) rfl (by kernel_rfl) (by kernel_rfl) (by kernel_rfl) (fun _ _ _ h => h) (Or.inl ⟨by rfl, ?y77⟩) (by assumption) ?z77
            case y77 => (intro w hSw; (try dsimp only at hSw); go_simp) <;> with_reducible rfl
            try simp only [Act.put, List.setIfInBounds_toArray, List.set_cons_zero, List.set_cons_succ]
            refine wpAnyH_take (i := 13) (oi := { dst := some 67, op := Go.Op.load 27 (Go.Operand.tmp 9), type := 27, pos := "law.go:136", after := #[{ on := 12, ground := Go.Ground.guard }], guard := some (12, false) }) (v := undef) rfl (by kernel_rfl) (by kernel_rfl) (by kernel_rfl) (fun _ _ _ h => h) (Or.inr ⟨by rfl, rfl⟩) (by assumption) ?_
            try simp only [Act.put, List.setIfInBounds_toArray, List.set_cons_zero, List.set_cons_succ]
            refine wpAnyH_take (i := 14) (oi := { dst := some 68, op := Go.Op.move (Go.Operand.tmp 3), type := 3, pos := "law.go:136", after := #[{ on := 12, ground := Go.Ground.guard }], guard := some (12, false) }) (v := undef) rfl (by kernel_rfl) (by kernel_rfl) (by kernel_rfl) (fun _ _ _ h => h) (Or.inr ⟨by rfl, rfl⟩) (by assumption) ?_
            try simp only [Act.put, List.setIfInBounds_toArray, List.set_cons_zero, List.set_cons_succ]
            refine wpAnyH_take (i := 15) (oi := { dst := some 69, op := Go.Op.call { callee := Go.Callee.value (Go.Operand.func 14), args := #[Go.Operand.tmp 67, Go.Operand.tmp 68], argTypes := #[27, 3] }, type := 5, pos := "law.go:136", after := #[{ on := 13, ground := Go.Ground.data }, { on := 14, ground := Go.Ground.data }, { on := 12, ground := Go.Ground.chain }, { on := 12, ground := Go.Ground.guard }], guard := some (12, false) }) (v := undef) rfl (by kernel_rfl) (by kernel_rfl) (by kernel_rfl) (fun _ _ _ h => h) (Or.inr ⟨by rfl, rfl⟩) (by assumption) ?_
            try simp only [Act.put, List.setIfInBounds_toArray, List.set_cons_zero, List.set_cons_succ]
            refine wpAnyH_take (i := 16) (oi := { dst := some 70, op := Go.Op.binOp Go.BinOp.eql 5 (Go.Operand.tmp 69) (Go.Operand.const (Go.Value.int Go.IntKind.u8 255)) 5, type := 4, pos := "law.go:136", after := #[{ on := 15, ground := Go.Ground.data }, { on := 12, ground := Go.Ground.guard }], guard := some (12, false) }) (v := undef) rfl (by kernel_rfl) (by kernel_rfl) (by kernel_rfl) (fun _ _ _ h => h) (Or.inr ⟨by rfl, rfl⟩) (by assumption) ?_
            try simp only [Act.put, List.setIfInBounds_toArray, List.set_cons_zero, List.set_cons_succ]
            refine wpAnyH_take (i := 17) (oi := { dst := some 71, op := Go.Op.move (Go.Operand.tmp 70), type := 4, pos := "law.go:136", after := #[{ on := 16, ground := Go.Ground.data }, { on := 15, ground := Go.Ground.chain }, { on := 12, ground := Go.Ground.guard }], guard := some (12, false) }) (v := undef) rfl (by kernel_rfl) (by kernel_rfl) (by kernel_rfl) (fun _ _ _ h => h) (Or.inr ⟨by rfl, rfl⟩) (by assumption) ?_
            try simp only [Act.put, List.setIfInBounds_toArray, List.set_cons_zero, List.set_cons_succ]
            refine wpAnyH_take (i := 18) (oi := { dst := some 72, op := Go.Op.load 27 (Go.Operand.tmp 9), type := 27, pos := "law.go:136", after := #[{ on := 17, ground := Go.Ground.guard }], guard := some (17, true) }) (v := undef) rfl (by kernel_rfl) (by kernel_rfl) (by kernel_rfl) (fun _ _ _ h => h) (Or.inr ⟨by rfl, rfl⟩) (by assumption) ?_
            try simp only [Act.put, List.setIfInBounds_toArray, List.set_cons_zero, List.set_cons_succ]
            refine wpAnyH_take (i := 19) (oi := { dst := some 73, op := Go.Op.move (Go.Operand.tmp 3), type := 3, pos := "law.go:136", after := #[{ on := 17, ground := Go.Ground.guard }], guard := some (17, true) }) (v := undef) rfl (by kernel_rfl) (by kernel_rfl) (by kernel_rfl) (fun _ _ _ h => h) (Or.inr ⟨by rfl, rfl⟩) (by assumption) ?_
            try simp only [Act.put, List.setIfInBounds_toArray, List.set_cons_zero, List.set_cons_succ]
            refine wpAnyH_take (i := 20) (oi := { dst := some 74, op := Go.Op.move (Go.Operand.tmp 2), type := 5, pos := "law.go:136", after := #[{ on := 17, ground := Go.Ground.guard }], guard := some (17, true) }) (v := undef) rfl (by kernel_rfl) (by kernel_rfl) (by kernel_rfl) (fun _ _ _ h => h) (Or.inr ⟨by rfl, rfl⟩) (by assumption) ?_
            try simp only [Act.put, List.setIfInBounds_toArray, List.set_cons_zero, List.set_cons_succ]
            refine wpAnyH_take (i := 21) (oi := { dst := some 75, op := Go.Op.call { callee := Go.Callee.value (Go.Operand.func 12), args := #[Go.Operand.tmp 72, Go.Operand.tmp 73, Go.Operand.tmp 74], argTypes := #[27, 3, 5] }, type := 27, pos := "law.go:136", after := #[{ on := 18, ground := Go.Ground.data }, { on := 19, ground := Go.Ground.data }, { on := 20, ground := Go.Ground.data }, { on := 17, ground := Go.Ground.chain }, { on := 17, ground := Go.Ground.guard }], guard := some (17, true) }) (v := undef) rfl (by kernel_rfl) (by kernel_rfl) (by kernel_rfl) (fun _ _ _ h => h) (Or.inr ⟨by rfl, rfl⟩) (by assumption) ?_
            try simp only [Act.put, List.setIfInBounds_toArray, List.set_cons_zero, List.set_cons_succ]
            refine wpAnyH_take (i := 22) (oi := { dst := some 76, op := Go.Op.load 27 (Go.Operand.tmp 9), type := 27, pos := "law.go:136", after := #[{ on := 17, ground := Go.Ground.guard }], guard := some (17, true) }) (v := undef) rfl (by kernel_rfl) (by kernel_rfl) (by kernel_rfl) (fun _ _ _ h => h) (Or.inr ⟨by rfl, rfl⟩) (by assumption) ?_
            try simp only [Act.put, List.setIfInBounds_toArray, List.set_cons_zero, List.set_cons_succ]
            refine wpAnyH_take (i := 23) (oi := { dst := some 77, op := Go.Op.binOp Go.BinOp.eql 27 (Go.Operand.tmp 75) (Go.Operand.tmp 76) 27, type := 4, pos := "law.go:136", after := #[{ on := 21, ground := Go.Ground.data }, { on := 22, ground := Go.Ground.data }, { on := 17, ground := Go.Ground.guard }], guard := some (17, true) }) (v := undef) rfl (by kernel_rfl) (by kernel_rfl) (by kernel_rfl) (fun _ _ _ h => h) (Or.inr ⟨by rfl, rfl⟩) (by assumption) ?_
            try simp only [Act.put, List.setIfInBounds_toArray, List.set_cons_zero, List.set_cons_succ]
            refine wpAnyH_take (i := 24) (oi := { dst := some 78, op := Go.Op.pick (Go.Operand.tmp 71) (Go.Operand.tmp 77) (Go.Operand.const (Go.Value.bool false)), type := 4, pos := "law.go:136", after := #[{ on := 17, ground := Go.Ground.data }, { on := 23, ground := Go.Ground.data }, { on := 12, ground := Go.Ground.guard }], guard := some (12, false) }) (v := undef) rfl (by kernel_rfl) (by kernel_rfl) (by kernel_rfl) (fun _ _ _ h => h) (Or.inr ⟨by rfl, rfl⟩) (by assumption) ?_
            try simp only [Act.put, List.setIfInBounds_toArray, List.set_cons_zero, List.set_cons_succ]
            refine wpAnyH_take (i := 25) (oi := { dst := some 79, op := Go.Op.pick (Go.Operand.tmp 66) (Go.Operand.const (Go.Value.bool true)) (Go.Operand.tmp 78), type := 4, pos := "law.go:136", after := #[{ on := 12, ground := Go.Ground.data }, { on := 24, ground := Go.Ground.data }, { on := 5, ground := Go.Ground.guard }], guard := some (5, true) }) (v := ?v90) rfl (by kernel_rfl) (by kernel_rfl) (by kernel_rfl) (fun _ _ _ h => h) (Or.inl ⟨by rfl, ?y90⟩) (by assumption) ?z90
            case y90 => (intro w hSw; (try dsimp only at hSw); go_simp) <;> with_reducible rfl
            try simp only [Act.put, List.setIfInBounds_toArray, List.set_cons_zero, List.set_cons_succ]
            refine wpAnyH_take (i := 26) (oi := { dst := some 80, op := Go.Op.pick (Go.Operand.tmp 59) (Go.Operand.tmp 79) (Go.Operand.const (Go.Value.bool false)), type := 4, pos := "law.go:136", after := #[{ on := 5, ground := Go.Ground.data }, { on := 25, ground := Go.Ground.data }], guard := none }) (v := ?v91) rfl (by kernel_rfl) (by kernel_rfl) (by kernel_rfl) (fun _ _ _ h => h) (Or.inl ⟨by rfl, ?y91⟩) (by assumption) ?z91
            case y91 => (intro w hSw; (try dsimp only at hSw); go_simp) <;> with_reducible rfl
            try simp only [Act.put, List.setIfInBounds_toArray, List.set_cons_zero, List.set_cons_succ]
            refine wpAnyH_take (i := 27) (oi := { dst := some 8, op := Go.Op.assign (Go.Operand.tmp 80), type := 4, pos := "law.go:136", after := #[{ on := 26, ground := Go.Ground.data }, { on := 21, ground := Go.Ground.chain }, { on := 0, ground := Go.Ground.phase }, { on := 1, ground := Go.Ground.phase }, { on := 2, ground := Go.Ground.phase }, { on := 3, ground := Go.Ground.phase }, { on := 4, ground := Go.Ground.phase }, { on := 5, ground := Go.Ground.phase }, { on := 6, ground := Go.Ground.phase }, { on := 7, ground := Go.Ground.phase }, { on := 8, ground := Go.Ground.phase }, { on := 9, ground := Go.Ground.phase }, { on := 10, ground := Go.Ground.phase }, { on := 11, ground := Go.Ground.phase }, { on := 12, ground := Go.Ground.phase }, { on := 13, ground := Go.Ground.phase }, { on := 14, ground := Go.Ground.phase }, { on := 15, ground := Go.Ground.phase }, { on := 16, ground := Go.Ground.phase }, { on := 17, ground := Go.Ground.phase }, { on := 18, ground := Go.Ground.phase }, { on := 19, ground := Go.Ground.phase }, { on := 20, ground := Go.Ground.phase }, { on := 21, ground := Go.Ground.phase }, { on := 22, ground := Go.Ground.phase }, { on := 23, ground := Go.Ground.phase }, { on := 24, ground := Go.Ground.phase }, { on := 25, ground := Go.Ground.phase }, { on := 26, ground := Go.Ground.phase }], guard := none }) (v := ?v92) rfl (by kernel_rfl) (by kernel_rfl) (by kernel_rfl) (fun _ _ _ h => h) (Or.inl ⟨by rfl, ?y92⟩) (by assumption) ?z92
            case y92 => (intro w hSw; (try dsimp only at hSw); go_simp) <;> with_reducible rfl
            try simp only [Act.put, List.setIfInBounds_toArray, List.set_cons_zero, List.set_cons_succ]
            refine wpAnyH_done (by kernel_rfl) ?_ _
            clear hHeld
            go_wp2
            go_ret
            exact ⟨rfl, B15.out⟩
set_option maxHeartbeats 8000000 in
theorem reads_21 (c a m k kk : Int) (o : Bool) (n : Nat) (x od y0 y3 wv : Int) (RA : TV) (hk0 : 0 ≤ k) (hk1 : k < 256) (hkk : k % 8 = kk) (hx0 : 0 ≤ x) (hx1 : x < 256) (hn0 : n < 256) (hn1 : n % 3 = 1) (hw_ : x = wv) (h1_ : ∀ W, Glob W → Calls Tryd.prog 12 #[.agg #[.int .u16 c, .int .u8 a, .int .u8 m, .int .u8 kk, .bool o], .int .i64 2, .int .u8 x] W fun q_ w' => q_ = .returned (.agg #[.int .u16 RA.c, .int .u8 RA.a, .int .u8 RA.m, .int .u8 RA.k, .bool RA.o]) ∧ Below W.heap.size W w') (h2_ : ∀ W, Calls Tryd.prog 14 #[.agg #[.int .u16 RA.c, .int .u8 RA.a, .int .u8 RA.m, .int .u8 RA.k, .bool RA.o], .int .i64 2] W fun q_ w' => q_ = .returned (.int .u8 wv) ∧ Below W.heap.size W w') (ra0 : ∀ W, Calls Tryd.prog 14 #[.agg #[.int .u16 RA.c, .int .u8 RA.a, .int .u8 RA.m, .int .u8 RA.k, .bool RA.o], .int .i64 0] W fun q_ w' => q_ = .returned (.int .u8 y0) ∧ Below W.heap.size W w') (rt0 : ∀ W, Calls Tryd.prog 14 #[.agg #[.int .u16 c, .int .u8 a, .int .u8 m, .int .u8 kk, .bool o], .int .i64 0] W fun q_ w' => q_ = .returned (.int .u8 y0) ∧ Below W.heap.size W w') (ra3 : ∀ W, Calls Tryd.prog 14 #[.agg #[.int .u16 RA.c, .int .u8 RA.a, .int .u8 RA.m, .int .u8 RA.k, .bool RA.o], .int .i64 3] W fun q_ w' => q_ = .returned (.int .u8 y3) ∧ Below W.heap.size W w') (rt3 : ∀ W, Calls Tryd.prog 14 #[.agg #[.int .u16 c, .int .u8 a, .int .u8 m, .int .u8 kk, .bool o], .int .i64 3] W fun q_ w' => q_ = .returned (.int .u8 y3) ∧ Below W.heap.size W w') (o0 : od < 0) (h15_ : ∀ W, Calls Tryd.prog 14 #[.agg #[.int .u16 c, .int .u8 a, .int .u8 m, .int .u8 kk, .bool o], .int .i64 od] W fun q_ w' => q_ = .returned (.int .u8 255) ∧ Below W.heap.size W w') (h21_ : ∀ W, Glob W → Calls Tryd.prog 12 #[.agg #[.int .u16 c, .int .u8 a, .int .u8 m, .int .u8 kk, .bool o], .int .i64 od, .int .u8 x] W fun q_ w' => q_ = .returned (.agg #[.int .u16 c, .int .u8 a, .int .u8 m, .int .u8 kk, .bool o]) ∧ Below W.heap.size W w') (w : World) (hglob : Glob w) : Calls Tryd.prog 7 #[.agg #[.int .u16 c, .int .u8 a, .int .u8 m, .int .u8 k, .bool o], .int .u8 n, .int .u8 x, .int .i64 od] w fun q_ w' => q_ = .returned (.bool true) ∧ Below w.heap.size w w' := by
  suffices hall : ∀ (n_ : Nat) (W0 : World), n_ ≤ W0.heap.size → Below n_ W0 w → Tab n_ W0 → Calls Tryd.prog 7 #[.agg #[.int .u16 c, .int .u8 a, .int .u8 m, .int .u8 k, .bool o], .int .u8 n, .int .u8 x, .int .i64 od] w fun q_ w' => q_ = .returned (.bool true) ∧ Below n_ W0 w' from hall _ _ (Nat.le_refl _) (Below.refl _ _) ⟨hglob.1, hglob⟩
  intro n_ W0 hn hB hT
  have HN := Lib.hid hn
  have BB := Lib.hid hB
  have TT := Lib.hid hT
  clear hn hB hT hglob
  have AW := Lib.hid awake_c
  have hnot : ∀ (x : Bool) (w : World), (Op.unary .not (.bool x)).run Tryd.prog w = .ok (.bool (!x)) w := fun _ _ => rfl
  have p0 : ¬ 0 ≤ od := by omega
  have p1 : decide (0 ≤ od) = false := decide_eq_false p0
  have H1 := Lib.hid h1_
  have H2 := Lib.hid h2_
  have HA0 := Lib.hid ra0
  have HA3 := Lib.hid ra3
  have HT0 := Lib.hid rt0
  have HT3 := Lib.hid rt3
  have H15 := Lib.hid h15_
  have H21 := Lib.hid h21_
  clear h1_ h2_ ra0 ra3 rt0 rt3 h15_ h21_
  have e1 : bits .and .u8 k 7 = kk := (and7 k hk0 hk1).trans hkk
  subst hw_
  have e3 : (n : Int).tmod 3 = 1 := by rw [Int.tmod_eq_emod_of_nonneg (by omega)]; omega
  have e4 : (n : Int) % 3 = 1 := by omega
  clear hn1
  go_enter Tryd.func7, Tryd.ntmps7
  have B0 := Lib.hid (vian HN.out BB.out (own1 w (.cells #[.int .u16 c, .int .u8 a, .int .u8 m, .int .u8 k, .bool o] 24)))
  have V0 := Lib.hid (Has.new w #[.int .u16 c, .int .u8 a, .int .u8 m, .int .u8 k, .bool o] 24)
  have LV := Lib.hid (Nat.le_trans HN.out BB.out.size)
  go_upto_region 1 with (fail)
  generalize w.alloc (.cells #[.int .u16 c, .int .u8 a, .int .u8 m, .int .u8 k, .bool o] 24) = w0 at B0 V0 ⊢
  generalize w.heap.size = vb at V0 LV ⊢
  go_wp2_with fail
  with_reducible refine (AW.out _ (TT.out.next B0.out).g).mono ?_
  rintro q_ w1 ⟨rfl, hb⟩
  have B1 := Lib.hid (vian HN.out B0.out hb)
  have V1 := Lib.hid (V0.out.below hb)
  clear hb B0 V0
  have T2 := Lib.hid (Has.new w1 #[.int .u16 c, .int .u8 a, .int .u8 m, .int .u8 k, .bool o] 27)
  have V2 := Lib.hid (V1.out.alloc (.cells #[.int .u16 c, .int .u8 a, .int .u8 m, .int .u8 k, .bool o] 27))
  have B2 := Lib.hid (vian HN.out B1.out (own1 w1 (.cells #[.int .u16 c, .int .u8 a, .int .u8 m, .int .u8 k, .bool o] 27)))
  have LT := Lib.hid (Nat.le_trans HN.out B1.out.size)
  have NVT := Lib.hid (show vb ≠ w1.heap.size from fun e => absurd V1.out.1 (Nat.not_lt.2 (Nat.le_of_eq e.symm)))
  obtain ⟨hc, hf⟩ := V1.out.out
  go_upto_region 4 with (fail)
  generalize w1.alloc (.cells #[.int .u16 c, .int .u8 a, .int .u8 m, .int .u8 k, .bool o] 27) = w2 at T2 V2 B2 ⊢
  generalize w1.heap.size = tb at T2 LT NVT ⊢
  clear B1 V1
  clear hc hf V2 NVT LV
  have T3 := Lib.hid (show Has (w2.setCell ⟨tb, 3, none⟩ (.int .u8 kk)) tb #[.int .u16 c, .int .u8 a, .int .u8 m, .int .u8 kk, .bool o] by simpa using T2.out.set 3 (.int .u8 kk) (by simp))
  have B3 := Lib.hid (store1 B2.out LT.out 3 (.int .u8 kk))
  obtain ⟨hc, hf⟩ := T2.out.out
  go_upto_region 5 with (fail)
  clear hc hf
  generalize w2.setCell ⟨tb, 3, none⟩ (.int .u8 kk) = w3 at T3 B3 ⊢
  clear T2 B2
  obtain ⟨hc, hf⟩ := T3.out.out
  go_wp2_with fail
  with_reducible refine (H1.out _ (TT.out.next B3.out).g).mono ?_
  rintro q_ w4 ⟨rfl, hb⟩
  have B4 := Lib.hid (vian HN.out B3.out hb)
  have T4 := Lib.hid (T3.out.below hb)
  clear hb hc hf B3 T3
  have T5 := Lib.hid (T4.out.alloc (.cells #[.int .u16 RA.c, .int .u8 RA.a, .int .u8 RA.m, .int .u8 RA.k, .bool RA.o] 27))
  have U5 := Lib.hid (Has.new w4 #[.int .u16 RA.c, .int .u8 RA.a, .int .u8 RA.m, .int .u8 RA.k, .bool RA.o] 27)
  have B5 := Lib.hid (vian HN.out B4.out (own1 w4 (.cells #[.int .u16 RA.c, .int .u8 RA.a, .int .u8 RA.m, .int .u8 RA.k, .bool RA.o] 27)))
  go_upto_region 10 with (fail)
  generalize w4.alloc (.cells #[.int .u16 RA.c, .int .u8 RA.a, .int .u8 RA.m, .int .u8 RA.k, .bool RA.o] 27) = w5 at T5 U5 B5 ⊢
  generalize w4.heap.size = ub at U5 ⊢
  clear T4 B4
  go_wp2
  refine wp_loop_rounds 5 ?_
  rw [rounds_succ]
  go_upto_region 13 with (fail)
  have B6 := Lib.hid B5.out.drew
  have T6 := Lib.hid T5.out.drew
  have U6 := Lib.hid U5.out.drew
  refine wp_region_held_drew (S := (fun w' => (∀ o_, w'.cell? ⟨tb, o_, none⟩ = #[.int .u16 c, .int .u8 a, .int .u8 m, .int .u8 kk, .bool o][o_]?) ∧ (∀ o_, w'.cell? ⟨ub, o_, none⟩ = #[.int .u16 RA.c, .int .u8 RA.a, .int .u8 RA.m, .int .u8 RA.k, .bool RA.o][o_]?))) (by kernel_rfl) ⟨T6.out.2.1, U6.out.2.1⟩ (fun hHeld => ?_)
  generalize World.drew w5 = w6 at hHeld B6 T6 U6 ⊢
  clear B5 T5 U5
  refine wpAnyH_take (i := 0) (oi := { dst := some 37, op := Go.Op.move (Go.Operand.tmp 13), type := 3, pos := "law.go:132", after := #[], guard := none }) (v := ?v93) rfl (by kernel_rfl) (by kernel_rfl) (by kernel_rfl) (fun _ _ _ h => h) (Or.inl ⟨by rfl, ?y93⟩) (by assumption) ?z93
  case y93 => (intro w hSw; (try dsimp only at hSw); go_simp) <;> with_reducible rfl
  try simp only [Act.put, List.setIfInBounds_toArray, List.set_cons_zero, List.set_cons_succ]
  refine wpAnyH_take (i := 1) (oi := { dst := some 38, op := Go.Op.move (Go.Operand.tmp 10), type := 3, pos := "law.go:132", after := #[], guard := none }) (v := ?v94) rfl (by kernel_rfl) (by kernel_rfl) (by kernel_rfl) (fun _ _ _ h => h) (Or.inl ⟨by rfl, ?y94⟩) (by assumption) ?z94
  case y94 => (intro w hSw; (try dsimp only at hSw); go_simp) <;> with_reducible rfl
  try simp only [Act.put, List.setIfInBounds_toArray, List.set_cons_zero, List.set_cons_succ]
  refine wpAnyH_take (i := 2) (oi := { dst := some 39, op := Go.Op.binOp Go.BinOp.neq 3 (Go.Operand.tmp 37) (Go.Operand.tmp 38) 3, type := 4, pos := "law.go:132", after := #[{ on := 0, ground := Go.Ground.data }, { on := 1, ground := Go.Ground.data }], guard := none }) (v := ?v95) rfl (by kernel_rfl) (by kernel_rfl) (by kernel_rfl) (fun _ _ _ h => h) (Or.inl ⟨by rfl, ?y95⟩) (by assumption) ?z95
  case y95 => (intro w hSw; (try dsimp only at hSw); go_simp) <;> with_reducible rfl
  try simp only [Act.put, List.setIfInBounds_toArray, List.set_cons_zero, List.set_cons_succ]
  refine wpAnyH_take (i := 3) (oi := { dst := some 40, op := Go.Op.move (Go.Operand.tmp 39), type := 4, pos := "law.go:132", after := #[{ on := 2, ground := Go.Ground.data }], guard := none }) (v := ?v96) rfl (by kernel_rfl) (by kernel_rfl) (by kernel_rfl) (fun _ _ _ h => h) (Or.inl ⟨by rfl, ?y96⟩) (by assumption) ?z96
  case y96 => (intro w hSw; (try dsimp only at hSw); go_simp) <;> with_reducible rfl
  try simp only [Act.put, List.setIfInBounds_toArray, List.set_cons_zero, List.set_cons_succ]
  refine wpAnyH_take (i := 4) (oi := { dst := some 41, op := Go.Op.move (Go.Operand.tmp 13), type := 3, pos := "law.go:132", after := #[{ on := 3, ground := Go.Ground.guard }], guard := some (3, true) }) (v := ?v97) rfl (by kernel_rfl) (by kernel_rfl) (by kernel_rfl) (fun _ _ _ h => h) (Or.inl ⟨by rfl, ?y97⟩) (by assumption) ?z97
  case y97 => (intro w hSw; (try dsimp only at hSw); go_simp) <;> with_reducible rfl
  try simp only [Act.put, List.setIfInBounds_toArray, List.set_cons_zero, List.set_cons_succ]
  refine wpAnyH_take (i := 5) (oi := { dst := some 42, op := Go.Op.binOp Go.BinOp.neq 3 (Go.Operand.tmp 41) (Go.Operand.const (Go.Value.int Go.IntKind.i64 1)) 3, type := 4, pos := "law.go:132", after := #[{ on := 4, ground := Go.Ground.data }, { on := 3, ground := Go.Ground.guard }], guard := some (3, true) }) (v := ?v98) rfl (by kernel_rfl) (by kernel_rfl) (by kernel_rfl) (fun _ _ _ h => h) (Or.inl ⟨by rfl, ?y98⟩) (by assumption) ?z98
  case y98 => (intro w hSw; (try dsimp only at hSw); go_simp) <;> with_reducible rfl
  try simp only [Act.put, List.setIfInBounds_toArray, List.set_cons_zero, List.set_cons_succ]
  refine wpAnyH_take (i := 6) (oi := { dst := some 43, op := Go.Op.pick (Go.Operand.tmp 40) (Go.Operand.tmp 42) (Go.Operand.const (Go.Value.bool false)), type := 4, pos := "law.go:132", after := #[{ on := 3, ground := Go.Ground.data }, { on := 5, ground := Go.Ground.data }], guard := none }) (v := ?v99) rfl (by kernel_rfl) (by kernel_rfl) (by kernel_rfl) (fun _ _ _ h => h) (Or.inl ⟨by rfl, ?y99⟩) (by assumption) ?z99
  case y99 => (intro w hSw; (try dsimp only at hSw); go_simp) <;> with_reducible rfl
  try simp only [Act.put, List.setIfInBounds_toArray, List.set_cons_zero, List.set_cons_succ]
  refine wpAnyH_take (i := 7) (oi := { dst := some 44, op := Go.Op.move (Go.Operand.tmp 43), type := 4, pos := "law.go:132", after := #[{ on := 6, ground := Go.Ground.data }, { on := 3, ground := Go.Ground.chain }], guard := none }) (v := ?v100) rfl (by kernel_rfl) (by kernel_rfl) (by kernel_rfl) (fun _ _ _ h => h) (Or.inl ⟨by rfl, ?y100⟩) (by assumption) ?z100
  case y100 => (intro w hSw; (try dsimp only at hSw); go_simp) <;> with_reducible rfl
  try simp only [Act.put, List.setIfInBounds_toArray, List.set_cons_zero, List.set_cons_succ]
  refine wpAnyH_take (i := 8) (oi := { dst := some 45, op := Go.Op.load 27 (Go.Operand.tmp 11), type := 27, pos := "law.go:132", after := #[{ on := 7, ground := Go.Ground.guard }], guard := some (7, true) }) (v := ?v101) rfl (by kernel_rfl) (by kernel_rfl) (by kernel_rfl) (fun _ _ _ h => h) (Or.inl ⟨by rfl, ?y101⟩) (by assumption) ?z101
  case y101 => (intro w hSw; (try dsimp only at hSw); go_simp) <;> with_reducible rfl
  try simp only [Act.put, List.setIfInBounds_toArray, List.set_cons_zero, List.set_cons_succ]
  refine wpAnyH_take (i := 9) (oi := { dst := some 46, op := Go.Op.move (Go.Operand.tmp 13), type := 3, pos := "law.go:132", after := #[{ on := 7, ground := Go.Ground.guard }], guard := some (7, true) }) (v := ?v102) rfl (by kernel_rfl) (by kernel_rfl) (by kernel_rfl) (fun _ _ _ h => h) (Or.inl ⟨by rfl, ?y102⟩) (by assumption) ?z102
  case y102 => (intro w hSw; (try dsimp only at hSw); go_simp) <;> with_reducible rfl
  try simp only [Act.put, List.setIfInBounds_toArray, List.set_cons_zero, List.set_cons_succ]
  refine wpAnyH_take (i := 11) (oi := { dst := some 48, op := Go.Op.load 27 (Go.Operand.tmp 9), type := 27, pos := "law.go:132", after := #[{ on := 7, ground := Go.Ground.guard }], guard := some (7, true) }) (v := ?v103) rfl (by kernel_rfl) (by kernel_rfl) (by kernel_rfl) (fun _ _ _ h => h) (Or.inl ⟨by rfl, ?y103⟩) (by assumption) ?z103
  case y103 => (intro w hSw; (try dsimp only at hSw); go_simp) <;> with_reducible rfl
  try simp only [Act.put, List.setIfInBounds_toArray, List.set_cons_zero, List.set_cons_succ]
  refine wpAnyH_take (i := 12) (oi := { dst := some 49, op := Go.Op.move (Go.Operand.tmp 13), type := 3, pos := "law.go:132", after := #[{ on := 7, ground := Go.Ground.guard }], guard := some (7, true) }) (v := ?v104) rfl (by kernel_rfl) (by kernel_rfl) (by kernel_rfl) (fun _ _ _ h => h) (Or.inl ⟨by rfl, ?y104⟩) (by assumption) ?z104
  case y104 => (intro w hSw; (try dsimp only at hSw); go_simp) <;> with_reducible rfl
  try simp only [Act.put, List.setIfInBounds_toArray, List.set_cons_zero, List.set_cons_succ]
  refine wpAnyH_ready (rs := [10]) (by kernel_rfl) (by simp) ?_
  refine (AllReadyH.cons (o := { dst := some 47, op := Go.Op.call { callee := Go.Callee.value (Go.Operand.func 14), args := #[Go.Operand.tmp 45, Go.Operand.tmp 46], argTypes := #[27, 3] }, type := 5, pos := "law.go:132", after := #[{ on := 8, ground := Go.Ground.data }, { on := 9, ground := Go.Ground.data }, { on := 7, ground := Go.Ground.chain }, { on := 7, ground := Go.Ground.guard }], guard := some (7, true) }) rfl (fun K hK => ?_) AllReadyH.nil)
  · skip
    go_simp
    with_reducible refine (HA0.out _).mono ?_
    rintro q_ w7 ⟨rfl, hb⟩
    have B7 := Lib.hid (vian HN.out B6.out hb)
    have T7 := Lib.hid (T6.out.below hb)
    have U7 := Lib.hid (U6.out.below hb)
    clear hb B6 T6 U6
    refine hK.out _ _ ?s105 (fun hNew => ?r105)
    case s105 => exact ⟨T7.out.2.1, U7.out.2.1⟩
    clear hK K hHeld
    have hHeld := hNew
    clear hNew
    refine wpAnyH_ready (rs := [13]) (by kernel_rfl) (by simp) ?_
    refine (AllReadyH.cons (o := { dst := some 50, op := Go.Op.call { callee := Go.Callee.value (Go.Operand.func 14), args := #[Go.Operand.tmp 48, Go.Operand.tmp 49], argTypes := #[27, 3] }, type := 5, pos := "law.go:132", after := #[{ on := 11, ground := Go.Ground.data }, { on := 12, ground := Go.Ground.data }, { on := 10, ground := Go.Ground.chain }, { on := 7, ground := Go.Ground.guard }], guard := some (7, true) }) rfl (fun K hK => ?_) AllReadyH.nil)
    · skip
      go_simp
      with_reducible refine (HT0.out _).mono ?_
      rintro q_ w8 ⟨rfl, hb⟩
      have B8 := Lib.hid (vian HN.out B7.out hb)
      have T8 := Lib.hid (T7.out.below hb)
      have U8 := Lib.hid (U7.out.below hb)
      clear hb B7 T7 U7
      refine hK.out _ _ ?s106 (fun hNew => ?r106)
      case s106 => exact ⟨T8.out.2.1, U8.out.2.1⟩
      clear hK K hHeld
      have hHeld := hNew
      clear hNew
      refine wpAnyH_take (i := 14) (oi := { dst := some 51, op := Go.Op.binOp Go.BinOp.neq 5 (Go.Operand.tmp 47) (Go.Operand.tmp 50) 5, type := 4, pos := "law.go:132", after := #[{ on := 10, ground := Go.Ground.data }, { on := 13, ground := Go.Ground.data }, { on := 7, ground := Go.Ground.guard }], guard := some (7, true) }) (v := ?v107) rfl (by kernel_rfl) (by kernel_rfl) (by kernel_rfl) (fun _ _ _ h => h) (Or.inl ⟨by rfl, ?y107⟩) (by assumption) ?z107
      case y107 => (intro w hSw; (try dsimp only at hSw); go_simp) <;> with_reducible rfl
      try simp only [Act.put, List.setIfInBounds_toArray, List.set_cons_zero, List.set_cons_succ]
      refine wpAnyH_take (i := 15) (oi := { dst := some 52, op := Go.Op.pick (Go.Operand.tmp 44) (Go.Operand.tmp 51) (Go.Operand.const (Go.Value.bool false)), type := 4, pos := "law.go:132", after := #[{ on := 7, ground := Go.Ground.data }, { on := 14, ground := Go.Ground.data }], guard := none }) (v := ?v108) rfl (by kernel_rfl) (by kernel_rfl) (by kernel_rfl) (fun _ _ _ h => h) (Or.inl ⟨by rfl, ?y108⟩) (by assumption) ?z108
      case y108 => (intro w hSw; (try dsimp only at hSw); go_simp) <;> with_reducible rfl
      try simp only [Act.put, List.setIfInBounds_toArray, List.set_cons_zero, List.set_cons_succ]
      refine wpAnyH_done (by kernel_rfl) ?_ _
      clear hHeld
      go_wp2
      rw [rounds_succ]
      go_upto_region 13 with (fail)
      have B9 := Lib.hid B8.out.drew
      have T9 := Lib.hid T8.out.drew
      have U9 := Lib.hid U8.out.drew
      refine wp_region_held_drew (S := (fun w' => (∀ o_, w'.cell? ⟨tb, o_, none⟩ = #[.int .u16 c, .int .u8 a, .int .u8 m, .int .u8 kk, .bool o][o_]?) ∧ (∀ o_, w'.cell? ⟨ub, o_, none⟩ = #[.int .u16 RA.c, .int .u8 RA.a, .int .u8 RA.m, .int .u8 RA.k, .bool RA.o][o_]?))) (by kernel_rfl) ⟨T9.out.2.1, U9.out.2.1⟩ (fun hHeld => ?_)
      generalize World.drew w8 = w9 at hHeld B9 T9 U9 ⊢
      clear B8 T8 U8
      refine wpAnyH_take (i := 0) (oi := { dst := some 37, op := Go.Op.move (Go.Operand.tmp 13), type := 3, pos := "law.go:132", after := #[], guard := none }) (v := ?v109) rfl (by kernel_rfl) (by kernel_rfl) (by kernel_rfl) (fun _ _ _ h => h) (Or.inl ⟨by rfl, ?y109⟩) (by assumption) ?z109
      case y109 => (intro w hSw; (try dsimp only at hSw); go_simp) <;> with_reducible rfl
      try simp only [Act.put, List.setIfInBounds_toArray, List.set_cons_zero, List.set_cons_succ]
      refine wpAnyH_take (i := 1) (oi := { dst := some 38, op := Go.Op.move (Go.Operand.tmp 10), type := 3, pos := "law.go:132", after := #[], guard := none }) (v := ?v110) rfl (by kernel_rfl) (by kernel_rfl) (by kernel_rfl) (fun _ _ _ h => h) (Or.inl ⟨by rfl, ?y110⟩) (by assumption) ?z110
      case y110 => (intro w hSw; (try dsimp only at hSw); go_simp) <;> with_reducible rfl
      try simp only [Act.put, List.setIfInBounds_toArray, List.set_cons_zero, List.set_cons_succ]
      refine wpAnyH_take (i := 2) (oi := { dst := some 39, op := Go.Op.binOp Go.BinOp.neq 3 (Go.Operand.tmp 37) (Go.Operand.tmp 38) 3, type := 4, pos := "law.go:132", after := #[{ on := 0, ground := Go.Ground.data }, { on := 1, ground := Go.Ground.data }], guard := none }) (v := ?v111) rfl (by kernel_rfl) (by kernel_rfl) (by kernel_rfl) (fun _ _ _ h => h) (Or.inl ⟨by rfl, ?y111⟩) (by assumption) ?z111
      case y111 => (intro w hSw; (try dsimp only at hSw); go_simp) <;> with_reducible rfl
      try simp only [Act.put, List.setIfInBounds_toArray, List.set_cons_zero, List.set_cons_succ]
      refine wpAnyH_take (i := 3) (oi := { dst := some 40, op := Go.Op.move (Go.Operand.tmp 39), type := 4, pos := "law.go:132", after := #[{ on := 2, ground := Go.Ground.data }], guard := none }) (v := ?v112) rfl (by kernel_rfl) (by kernel_rfl) (by kernel_rfl) (fun _ _ _ h => h) (Or.inl ⟨by rfl, ?y112⟩) (by assumption) ?z112
      case y112 => (intro w hSw; (try dsimp only at hSw); go_simp) <;> with_reducible rfl
      try simp only [Act.put, List.setIfInBounds_toArray, List.set_cons_zero, List.set_cons_succ]
      refine wpAnyH_take (i := 4) (oi := { dst := some 41, op := Go.Op.move (Go.Operand.tmp 13), type := 3, pos := "law.go:132", after := #[{ on := 3, ground := Go.Ground.guard }], guard := some (3, true) }) (v := ?v113) rfl (by kernel_rfl) (by kernel_rfl) (by kernel_rfl) (fun _ _ _ h => h) (Or.inl ⟨by rfl, ?y113⟩) (by assumption) ?z113
      case y113 => (intro w hSw; (try dsimp only at hSw); go_simp) <;> with_reducible rfl
      try simp only [Act.put, List.setIfInBounds_toArray, List.set_cons_zero, List.set_cons_succ]
      refine wpAnyH_take (i := 5) (oi := { dst := some 42, op := Go.Op.binOp Go.BinOp.neq 3 (Go.Operand.tmp 41) (Go.Operand.const (Go.Value.int Go.IntKind.i64 1)) 3, type := 4, pos := "law.go:132", after := #[{ on := 4, ground := Go.Ground.data }, { on := 3, ground := Go.Ground.guard }], guard := some (3, true) }) (v := ?v114) rfl (by kernel_rfl) (by kernel_rfl) (by kernel_rfl) (fun _ _ _ h => h) (Or.inl ⟨by rfl, ?y114⟩) (by assumption) ?z114
      case y114 => (intro w hSw; (try dsimp only at hSw); go_simp) <;> with_reducible rfl
      try simp only [Act.put, List.setIfInBounds_toArray, List.set_cons_zero, List.set_cons_succ]
      refine wpAnyH_take (i := 6) (oi := { dst := some 43, op := Go.Op.pick (Go.Operand.tmp 40) (Go.Operand.tmp 42) (Go.Operand.const (Go.Value.bool false)), type := 4, pos := "law.go:132", after := #[{ on := 3, ground := Go.Ground.data }, { on := 5, ground := Go.Ground.data }], guard := none }) (v := ?v115) rfl (by kernel_rfl) (by kernel_rfl) (by kernel_rfl) (fun _ _ _ h => h) (Or.inl ⟨by rfl, ?y115⟩) (by assumption) ?z115
      case y115 => (intro w hSw; (try dsimp only at hSw); go_simp) <;> with_reducible rfl
      try simp only [Act.put, List.setIfInBounds_toArray, List.set_cons_zero, List.set_cons_succ]
      refine wpAnyH_take (i := 7) (oi := { dst := some 44, op := Go.Op.move (Go.Operand.tmp 43), type := 4, pos := "law.go:132", after := #[{ on := 6, ground := Go.Ground.data }, { on := 3, ground := Go.Ground.chain }], guard := none }) (v := ?v116) rfl (by kernel_rfl) (by kernel_rfl) (by kernel_rfl) (fun _ _ _ h => h) (Or.inl ⟨by rfl, ?y116⟩) (by assumption) ?z116
      case y116 => (intro w hSw; (try dsimp only at hSw); go_simp) <;> with_reducible rfl
      try simp only [Act.put, List.setIfInBounds_toArray, List.set_cons_zero, List.set_cons_succ]
      refine wpAnyH_take (i := 8) (oi := { dst := some 45, op := Go.Op.load 27 (Go.Operand.tmp 11), type := 27, pos := "law.go:132", after := #[{ on := 7, ground := Go.Ground.guard }], guard := some (7, true) }) (v := undef) rfl (by kernel_rfl) (by kernel_rfl) (by kernel_rfl) (fun _ _ _ h => h) (Or.inr ⟨by rfl, rfl⟩) (by assumption) ?_
      try simp only [Act.put, List.setIfInBounds_toArray, List.set_cons_zero, List.set_cons_succ]
      refine wpAnyH_take (i := 9) (oi := { dst := some 46, op := Go.Op.move (Go.Operand.tmp 13), type := 3, pos := "law.go:132", after := #[{ on := 7, ground := Go.Ground.guard }], guard := some (7, true) }) (v := undef) rfl (by kernel_rfl) (by kernel_rfl) (by kernel_rfl) (fun _ _ _ h => h) (Or.inr ⟨by rfl, rfl⟩) (by assumption) ?_
      try simp only [Act.put, List.setIfInBounds_toArray, List.set_cons_zero, List.set_cons_succ]
      refine wpAnyH_take (i := 10) (oi := { dst := some 47, op := Go.Op.call { callee := Go.Callee.value (Go.Operand.func 14), args := #[Go.Operand.tmp 45, Go.Operand.tmp 46], argTypes := #[27, 3] }, type := 5, pos := "law.go:132", after := #[{ on := 8, ground := Go.Ground.data }, { on := 9, ground := Go.Ground.data }, { on := 7, ground := Go.Ground.chain }, { on := 7, ground := Go.Ground.guard }], guard := some (7, true) }) (v := undef) rfl (by kernel_rfl) (by kernel_rfl) (by kernel_rfl) (fun _ _ _ h => h) (Or.inr ⟨by rfl, rfl⟩) (by assumption) ?_
      try simp only [Act.put, List.setIfInBounds_toArray, List.set_cons_zero, List.set_cons_succ]
      refine wpAnyH_take (i := 11) (oi := { dst := some 48, op := Go.Op.load 27 (Go.Operand.tmp 9), type := 27, pos := "law.go:132", after := #[{ on := 7, ground := Go.Ground.guard }], guard := some (7, true) }) (v := undef) rfl (by kernel_rfl) (by kernel_rfl) (by kernel_rfl) (fun _ _ _ h => h) (Or.inr ⟨by rfl, rfl⟩) (by assumption) ?_
      try simp only [Act.put, List.setIfInBounds_toArray, List.set_cons_zero, List.set_cons_succ]
      refine wpAnyH_take (i := 12) (oi := { dst := some 49, op := Go.Op.move (Go.Operand.tmp 13), type := 3, pos := "law.go:132", after := #[{ on := 7, ground := Go.Ground.guard }], guard := some (7, true) }) (v := undef) rfl (by kernel_rfl) (by kernel_rfl) (by kernel_rfl) (fun _ _ _ h => h) (Or.inr ⟨by rfl, rfl⟩) (by assumption) ?_
      try simp only [Act.put, List.setIfInBounds_toArray, List.set_cons_zero, List.set_cons_succ]
      refine wpAnyH_take (i := 13) (oi := { dst := some 50, op := Go.Op.call { callee := Go.Callee.value (Go.Operand.func 14), args := #[Go.Operand.tmp 48, Go.Operand.tmp 49], argTypes := #[27, 3] }, type := 5, pos := "law.go:132", after := #[{ on := 11, ground := Go.Ground.data }, { on := 12, ground := Go.Ground.data }, { on := 10, ground := Go.Ground.chain }, { on := 7, ground := Go.Ground.guard }], guard := some (7, true) }) (v := undef) rfl (by kernel_rfl) (by kernel_rfl) (by kernel_rfl) (fun _ _ _ h => h) (Or.inr ⟨by rfl, rfl⟩) (by assumption) ?_
      try simp only [Act.put, List.setIfInBounds_toArray, List.set_cons_zero, List.set_cons_succ]
      refine wpAnyH_take (i := 14) (oi := { dst := some 51, op := Go.Op.binOp Go.BinOp.neq 5 (Go.Operand.tmp 47) (Go.Operand.tmp 50) 5, type := 4, pos := "law.go:132", after := #[{ on := 10, ground := Go.Ground.data }, { on := 13, ground := Go.Ground.data }, { on := 7, ground := Go.Ground.guard }], guard := some (7, true) }) (v := undef) rfl (by kernel_rfl) (by kernel_rfl) (by kernel_rfl) (fun _ _ _ h => h) (Or.inr ⟨by rfl, rfl⟩) (by assumption) ?_
      try simp only [Act.put, List.setIfInBounds_toArray, List.set_cons_zero, List.set_cons_succ]
      refine wpAnyH_take (i := 15) (oi := { dst := some 52, op := Go.Op.pick (Go.Operand.tmp 44) (Go.Operand.tmp 51) (Go.Operand.const (Go.Value.bool false)), type := 4, pos := "law.go:132", after := #[{ on := 7, ground := Go.Ground.data }, { on := 14, ground := Go.Ground.data }], guard := none }) (v := ?v124) rfl (by kernel_rfl) (by kernel_rfl) (by kernel_rfl) (fun _ _ _ h => h) (Or.inl ⟨by rfl, ?y124⟩) (by assumption) ?z124
      case y124 => (intro w hSw; (try dsimp only at hSw); go_simp) <;> with_reducible rfl
      try simp only [Act.put, List.setIfInBounds_toArray, List.set_cons_zero, List.set_cons_succ]
      refine wpAnyH_done (by kernel_rfl) ?_ _
      clear hHeld
      go_wp2
      rw [rounds_succ]
      go_upto_region 13 with (fail)
      have B10 := Lib.hid B9.out.drew
      have T10 := Lib.hid T9.out.drew
      have U10 := Lib.hid U9.out.drew
      refine wp_region_held_drew (S := (fun w' => (∀ o_, w'.cell? ⟨tb, o_, none⟩ = #[.int .u16 c, .int .u8 a, .int .u8 m, .int .u8 kk, .bool o][o_]?) ∧ (∀ o_, w'.cell? ⟨ub, o_, none⟩ = #[.int .u16 RA.c, .int .u8 RA.a, .int .u8 RA.m, .int .u8 RA.k, .bool RA.o][o_]?))) (by kernel_rfl) ⟨T10.out.2.1, U10.out.2.1⟩ (fun hHeld => ?_)
      generalize World.drew w9 = w10 at hHeld B10 T10 U10 ⊢
      clear B9 T9 U9
      refine wpAnyH_take (i := 0) (oi := { dst := some 37, op := Go.Op.move (Go.Operand.tmp 13), type := 3, pos := "law.go:132", after := #[], guard := none }) (v := ?v125) rfl (by kernel_rfl) (by kernel_rfl) (by kernel_rfl) (fun _ _ _ h => h) (Or.inl ⟨by rfl, ?y125⟩) (by assumption) ?z125
      case y125 => (intro w hSw; (try dsimp only at hSw); go_simp) <;> with_reducible rfl
      try simp only [Act.put, List.setIfInBounds_toArray, List.set_cons_zero, List.set_cons_succ]
      refine wpAnyH_take (i := 1) (oi := { dst := some 38, op := Go.Op.move (Go.Operand.tmp 10), type := 3, pos := "law.go:132", after := #[], guard := none }) (v := ?v126) rfl (by kernel_rfl) (by kernel_rfl) (by kernel_rfl) (fun _ _ _ h => h) (Or.inl ⟨by rfl, ?y126⟩) (by assumption) ?z126
      case y126 => (intro w hSw; (try dsimp only at hSw); go_simp) <;> with_reducible rfl
      try simp only [Act.put, List.setIfInBounds_toArray, List.set_cons_zero, List.set_cons_succ]
      refine wpAnyH_take (i := 2) (oi := { dst := some 39, op := Go.Op.binOp Go.BinOp.neq 3 (Go.Operand.tmp 37) (Go.Operand.tmp 38) 3, type := 4, pos := "law.go:132", after := #[{ on := 0, ground := Go.Ground.data }, { on := 1, ground := Go.Ground.data }], guard := none }) (v := ?v127) rfl (by kernel_rfl) (by kernel_rfl) (by kernel_rfl) (fun _ _ _ h => h) (Or.inl ⟨by rfl, ?y127⟩) (by assumption) ?z127
      case y127 => (intro w hSw; (try dsimp only at hSw); go_simp) <;> with_reducible rfl
      try simp only [Act.put, List.setIfInBounds_toArray, List.set_cons_zero, List.set_cons_succ]
      refine wpAnyH_take (i := 3) (oi := { dst := some 40, op := Go.Op.move (Go.Operand.tmp 39), type := 4, pos := "law.go:132", after := #[{ on := 2, ground := Go.Ground.data }], guard := none }) (v := ?v128) rfl (by kernel_rfl) (by kernel_rfl) (by kernel_rfl) (fun _ _ _ h => h) (Or.inl ⟨by rfl, ?y128⟩) (by assumption) ?z128
      case y128 => (intro w hSw; (try dsimp only at hSw); go_simp) <;> with_reducible rfl
      try simp only [Act.put, List.setIfInBounds_toArray, List.set_cons_zero, List.set_cons_succ]
      refine wpAnyH_take (i := 4) (oi := { dst := some 41, op := Go.Op.move (Go.Operand.tmp 13), type := 3, pos := "law.go:132", after := #[{ on := 3, ground := Go.Ground.guard }], guard := some (3, true) }) (v := undef) rfl (by kernel_rfl) (by kernel_rfl) (by kernel_rfl) (fun _ _ _ h => h) (Or.inr ⟨by rfl, rfl⟩) (by assumption) ?_
      try simp only [Act.put, List.setIfInBounds_toArray, List.set_cons_zero, List.set_cons_succ]
      refine wpAnyH_take (i := 5) (oi := { dst := some 42, op := Go.Op.binOp Go.BinOp.neq 3 (Go.Operand.tmp 41) (Go.Operand.const (Go.Value.int Go.IntKind.i64 1)) 3, type := 4, pos := "law.go:132", after := #[{ on := 4, ground := Go.Ground.data }, { on := 3, ground := Go.Ground.guard }], guard := some (3, true) }) (v := undef) rfl (by kernel_rfl) (by kernel_rfl) (by kernel_rfl) (fun _ _ _ h => h) (Or.inr ⟨by rfl, rfl⟩) (by assumption) ?_
      try simp only [Act.put, List.setIfInBounds_toArray, List.set_cons_zero, List.set_cons_succ]
      refine wpAnyH_take (i := 6) (oi := { dst := some 43, op := Go.Op.pick (Go.Operand.tmp 40) (Go.Operand.tmp 42) (Go.Operand.const (Go.Value.bool false)), type := 4, pos := "law.go:132", after := #[{ on := 3, ground := Go.Ground.data }, { on := 5, ground := Go.Ground.data }], guard := none }) (v := ?v131) rfl (by kernel_rfl) (by kernel_rfl) (by kernel_rfl) (fun _ _ _ h => h) (Or.inl ⟨by rfl, ?y131⟩) (by assumption) ?z131
      case y131 => (intro w hSw; (try dsimp only at hSw); go_simp) <;> with_reducible rfl
      try simp only [Act.put, List.setIfInBounds_toArray, List.set_cons_zero, List.set_cons_succ]
      refine wpAnyH_take (i := 7) (oi := { dst := some 44, op := Go.Op.move (Go.Operand.tmp 43), type := 4, pos := "law.go:132", after := #[{ on := 6, ground := Go.Ground.data }, { on := 3, ground := Go.Ground.chain }], guard := none }) (v := ?v132) rfl (by kernel_rfl) (by kernel_rfl) (by kernel_rfl) (fun _ _ _ h => h) (Or.inl ⟨by rfl, ?y132⟩) (by assumption) ?z132
      case y132 => (intro w hSw; (try dsimp only at hSw); go_simp) <;> with_reducible rfl
      try simp only [Act.put, List.setIfInBounds_toArray, List.set_cons_zero, List.set_cons_succ]
      refine wpAnyH_take (i := 8) (oi := { dst := some 45, op := Go.Op.load 27 (Go.Operand.tmp 11), type := 27, pos := "law.go:132", after := #[{ on := 7, ground := Go.Ground.guard }], guard := some (7, true) }) (v := undef) rfl (by kernel_rfl) (by kernel_rfl) (by kernel_rfl) (fun _ _ _ h => h) (Or.inr ⟨by rfl, rfl⟩) (by assumption) ?_
      try simp only [Act.put, List.setIfInBounds_toArray, List.set_cons_zero, List.set_cons_succ]
      refine wpAnyH_take (i := 9) (oi := { dst := some 46, op := Go.Op.move (Go.Operand.tmp 13), type := 3, pos := "law.go:132", after := #[{ on := 7, ground := Go.Ground.guard }], guard := some (7, true) }) (v := undef) rfl (by kernel_rfl) (by kernel_rfl) (by kernel_rfl) (fun _ _ _ h => h) (Or.inr ⟨by rfl, rfl⟩) (by assumption) ?_
      try simp only [Act.put, List.setIfInBounds_toArray, List.set_cons_zero, List.set_cons_succ]
      refine wpAnyH_take (i := 10) (oi := { dst := some 47, op := Go.Op.call { callee := Go.Callee.value (Go.Operand.func 14), args := #[Go.Operand.tmp 45, Go.Operand.tmp 46], argTypes := #[27, 3] }, type := 5, pos := "law.go:132", after := #[{ on := 8, ground := Go.Ground.data }, { on := 9, ground := Go.Ground.data }, { on := 7, ground := Go.Ground.chain }, { on := 7, ground := Go.Ground.guard }], guard := some (7, true) }) (v := undef) rfl (by kernel_rfl) (by kernel_rfl) (by kernel_rfl) (fun _ _ _ h => h) (Or.inr ⟨by rfl, rfl⟩) (by assumption) ?_
      try simp only [Act.put, List.setIfInBounds_toArray, List.set_cons_zero, List.set_cons_succ]
      refine wpAnyH_take (i := 11) (oi := { dst := some 48, op := Go.Op.load 27 (Go.Operand.tmp 9), type := 27, pos := "law.go:132", after := #[{ on := 7, ground := Go.Ground.guard }], guard := some (7, true) }) (v := undef) rfl (by kernel_rfl) (by kernel_rfl) (by kernel_rfl) (fun _ _ _ h => h) (Or.inr ⟨by rfl, rfl⟩) (by assumption) ?_
      try simp only [Act.put, List.setIfInBounds_toArray, List.set_cons_zero, List.set_cons_succ]
      refine wpAnyH_take (i := 12) (oi := { dst := some 49, op := Go.Op.move (Go.Operand.tmp 13), type := 3, pos := "law.go:132", after := #[{ on := 7, ground := Go.Ground.guard }], guard := some (7, true) }) (v := undef) rfl (by kernel_rfl) (by kernel_rfl) (by kernel_rfl) (fun _ _ _ h => h) (Or.inr ⟨by rfl, rfl⟩) (by assumption) ?_
      try simp only [Act.put, List.setIfInBounds_toArray, List.set_cons_zero, List.set_cons_succ]
      refine wpAnyH_take (i := 13) (oi := { dst := some 50, op := Go.Op.call { callee := Go.Callee.value (Go.Operand.func 14), args := #[Go.Operand.tmp 48, Go.Operand.tmp 49], argTypes := #[27, 3] }, type := 5, pos := "law.go:132", after := #[{ on := 11, ground := Go.Ground.data }, { on := 12, ground := Go.Ground.data }, { on := 10, ground := Go.Ground.chain }, { on := 7, ground := Go.Ground.guard }], guard := some (7, true) }) (v := undef) rfl (by kernel_rfl) (by kernel_rfl) (by kernel_rfl) (fun _ _ _ h => h) (Or.inr ⟨by rfl, rfl⟩) (by assumption) ?_
      try simp only [Act.put, List.setIfInBounds_toArray, List.set_cons_zero, List.set_cons_succ]
      refine wpAnyH_take (i := 14) (oi := { dst := some 51, op := Go.Op.binOp Go.BinOp.neq 5 (Go.Operand.tmp 47) (Go.Operand.tmp 50) 5, type := 4, pos := "law.go:132", after := #[{ on := 10, ground := Go.Ground.data }, { on := 13, ground := Go.Ground.data }, { on := 7, ground := Go.Ground.guard }], guard := some (7, true) }) (v := undef) rfl (by kernel_rfl) (by kernel_rfl) (by kernel_rfl) (fun _ _ _ h => h) (Or.inr ⟨by rfl, rfl⟩) (by assumption) ?_
      try simp only [Act.put, List.setIfInBounds_toArray, List.set_cons_zero, List.set_cons_succ]
      refine wpAnyH_take (i := 15) (oi := { dst := some 52, op := Go.Op.pick (Go.Operand.tmp 44) (Go.Operand.tmp 51) (Go.Operand.const (Go.Value.bool false)), type := 4, pos := "law.go:132", after := #[{ on := 7, ground := Go.Ground.data }, { on := 14, ground := Go.Ground.data }], guard := none }) (v := ?v140) rfl (by kernel_rfl) (by kernel_rfl) (by kernel_rfl) (fun _ _ _ h => h) (Or.inl ⟨by rfl, ?y140⟩) (by assumption) ?z140
      case y140 => (intro w hSw; (try dsimp only at hSw); go_simp) <;> with_reducible rfl
      try simp only [Act.put, List.setIfInBounds_toArray, List.set_cons_zero, List.set_cons_succ]
      refine wpAnyH_done (by kernel_rfl) ?_ _
      clear hHeld
      go_wp2
      rw [rounds_succ]
      go_upto_region 13 with (fail)
      have B11 := Lib.hid B10.out.drew
      have T11 := Lib.hid T10.out.drew
      have U11 := Lib.hid U10.out.drew
      refine wp_region_held_drew (S := (fun w' => (∀ o_, w'.cell? ⟨tb, o_, none⟩ = #[.int .u16 c, .int .u8 a, .int .u8 m, .int .u8 kk, .bool o][o_]?) ∧ (∀ o_, w'.cell? ⟨ub, o_, none⟩ = #[.int .u16 RA.c, .int .u8 RA.a, .int .u8 RA.m, .int .u8 RA.k, .bool RA.o][o_]?))) (by kernel_rfl) ⟨T11.out.2.1, U11.out.2.1⟩ (fun hHeld => ?_)
      generalize World.drew w10 = w11 at hHeld B11 T11 U11 ⊢
      clear B10 T10 U10
      refine wpAnyH_take (i := 0) (oi := { dst := some 37, op := Go.Op.move (Go.Operand.tmp 13), type := 3, pos := "law.go:132", after := #[], guard := none }) (v := ?v141) rfl (by kernel_rfl) (by kernel_rfl) (by kernel_rfl) (fun _ _ _ h => h) (Or.inl ⟨by rfl, ?y141⟩) (by assumption) ?z141
      case y141 => (intro w hSw; (try dsimp only at hSw); go_simp) <;> with_reducible rfl
      try simp only [Act.put, List.setIfInBounds_toArray, List.set_cons_zero, List.set_cons_succ]
      refine wpAnyH_take (i := 1) (oi := { dst := some 38, op := Go.Op.move (Go.Operand.tmp 10), type := 3, pos := "law.go:132", after := #[], guard := none }) (v := ?v142) rfl (by kernel_rfl) (by kernel_rfl) (by kernel_rfl) (fun _ _ _ h => h) (Or.inl ⟨by rfl, ?y142⟩) (by assumption) ?z142
      case y142 => (intro w hSw; (try dsimp only at hSw); go_simp) <;> with_reducible rfl
      try simp only [Act.put, List.setIfInBounds_toArray, List.set_cons_zero, List.set_cons_succ]
      refine wpAnyH_take (i := 2) (oi := { dst := some 39, op := Go.Op.binOp Go.BinOp.neq 3 (Go.Operand.tmp 37) (Go.Operand.tmp 38) 3, type := 4, pos := "law.go:132", after := #[{ on := 0, ground := Go.Ground.data }, { on := 1, ground := Go.Ground.data }], guard := none }) (v := ?v143) rfl (by kernel_rfl) (by kernel_rfl) (by kernel_rfl) (fun _ _ _ h => h) (Or.inl ⟨by rfl, ?y143⟩) (by assumption) ?z143
      case y143 => (intro w hSw; (try dsimp only at hSw); go_simp) <;> with_reducible rfl
      try simp only [Act.put, List.setIfInBounds_toArray, List.set_cons_zero, List.set_cons_succ]
      refine wpAnyH_take (i := 3) (oi := { dst := some 40, op := Go.Op.move (Go.Operand.tmp 39), type := 4, pos := "law.go:132", after := #[{ on := 2, ground := Go.Ground.data }], guard := none }) (v := ?v144) rfl (by kernel_rfl) (by kernel_rfl) (by kernel_rfl) (fun _ _ _ h => h) (Or.inl ⟨by rfl, ?y144⟩) (by assumption) ?z144
      case y144 => (intro w hSw; (try dsimp only at hSw); go_simp) <;> with_reducible rfl
      try simp only [Act.put, List.setIfInBounds_toArray, List.set_cons_zero, List.set_cons_succ]
      refine wpAnyH_take (i := 4) (oi := { dst := some 41, op := Go.Op.move (Go.Operand.tmp 13), type := 3, pos := "law.go:132", after := #[{ on := 3, ground := Go.Ground.guard }], guard := some (3, true) }) (v := ?v145) rfl (by kernel_rfl) (by kernel_rfl) (by kernel_rfl) (fun _ _ _ h => h) (Or.inl ⟨by rfl, ?y145⟩) (by assumption) ?z145
      case y145 => (intro w hSw; (try dsimp only at hSw); go_simp) <;> with_reducible rfl
      try simp only [Act.put, List.setIfInBounds_toArray, List.set_cons_zero, List.set_cons_succ]
      refine wpAnyH_take (i := 5) (oi := { dst := some 42, op := Go.Op.binOp Go.BinOp.neq 3 (Go.Operand.tmp 41) (Go.Operand.const (Go.Value.int Go.IntKind.i64 1)) 3, type := 4, pos := "law.go:132", after := #[{ on := 4, ground := Go.Ground.data }, { on := 3, ground := Go.Ground.guard }], guard := some (3, true) }) (v := ?v146) rfl (by kernel_rfl) (by kernel_rfl) (by kernel_rfl) (fun _ _ _ h => h) (Or.inl ⟨by rfl, ?y146⟩) (by assumption) ?z146
      case y146 => (intro w hSw; (try dsimp only at hSw); go_simp) <;> with_reducible rfl
      try simp only [Act.put, List.setIfInBounds_toArray, List.set_cons_zero, List.set_cons_succ]
      refine wpAnyH_take (i := 6) (oi := { dst := some 43, op := Go.Op.pick (Go.Operand.tmp 40) (Go.Operand.tmp 42) (Go.Operand.const (Go.Value.bool false)), type := 4, pos := "law.go:132", after := #[{ on := 3, ground := Go.Ground.data }, { on := 5, ground := Go.Ground.data }], guard := none }) (v := ?v147) rfl (by kernel_rfl) (by kernel_rfl) (by kernel_rfl) (fun _ _ _ h => h) (Or.inl ⟨by rfl, ?y147⟩) (by assumption) ?z147
      case y147 => (intro w hSw; (try dsimp only at hSw); go_simp) <;> with_reducible rfl
      try simp only [Act.put, List.setIfInBounds_toArray, List.set_cons_zero, List.set_cons_succ]
      refine wpAnyH_take (i := 7) (oi := { dst := some 44, op := Go.Op.move (Go.Operand.tmp 43), type := 4, pos := "law.go:132", after := #[{ on := 6, ground := Go.Ground.data }, { on := 3, ground := Go.Ground.chain }], guard := none }) (v := ?v148) rfl (by kernel_rfl) (by kernel_rfl) (by kernel_rfl) (fun _ _ _ h => h) (Or.inl ⟨by rfl, ?y148⟩) (by assumption) ?z148
      case y148 => (intro w hSw; (try dsimp only at hSw); go_simp) <;> with_reducible rfl
      try simp only [Act.put, List.setIfInBounds_toArray, List.set_cons_zero, List.set_cons_succ]
      refine wpAnyH_take (i := 8) (oi := { dst := some 45, op := Go.Op.load 27 (Go.Operand.tmp 11), type := 27, pos := "law.go:132", after := #[{ on := 7, ground := Go.Ground.guard }], guard := some (7, true) }) (v := ?v149) rfl (by kernel_rfl) (by kernel_rfl) (by kernel_rfl) (fun _ _ _ h => h) (Or.inl ⟨by rfl, ?y149⟩) (by assumption) ?z149
      case y149 => (intro w hSw; (try dsimp only at hSw); go_simp) <;> with_reducible rfl
      try simp only [Act.put, List.setIfInBounds_toArray, List.set_cons_zero, List.set_cons_succ]
      refine wpAnyH_take (i := 9) (oi := { dst := some 46, op := Go.Op.move (Go.Operand.tmp 13), type := 3, pos := "law.go:132", after := #[{ on := 7, ground := Go.Ground.guard }], guard := some (7, true) }) (v := ?v150) rfl (by kernel_rfl) (by kernel_rfl) (by kernel_rfl) (fun _ _ _ h => h) (Or.inl ⟨by rfl, ?y150⟩) (by assumption) ?z150
      case y150 => (intro w hSw; (try dsimp only at hSw); go_simp) <;> with_reducible rfl
      try simp only [Act.put, List.setIfInBounds_toArray, List.set_cons_zero, List.set_cons_succ]
      refine wpAnyH_take (i := 11) (oi := { dst := some 48, op := Go.Op.load 27 (Go.Operand.tmp 9), type := 27, pos := "law.go:132", after := #[{ on := 7, ground := Go.Ground.guard }], guard := some (7, true) }) (v := ?v151) rfl (by kernel_rfl) (by kernel_rfl) (by kernel_rfl) (fun _ _ _ h => h) (Or.inl ⟨by rfl, ?y151⟩) (by assumption) ?z151
      case y151 => (intro w hSw; (try dsimp only at hSw); go_simp) <;> with_reducible rfl
      try simp only [Act.put, List.setIfInBounds_toArray, List.set_cons_zero, List.set_cons_succ]
      refine wpAnyH_take (i := 12) (oi := { dst := some 49, op := Go.Op.move (Go.Operand.tmp 13), type := 3, pos := "law.go:132", after := #[{ on := 7, ground := Go.Ground.guard }], guard := some (7, true) }) (v := ?v152) rfl (by kernel_rfl) (by kernel_rfl) (by kernel_rfl) (fun _ _ _ h => h) (Or.inl ⟨by rfl, ?y152⟩) (by assumption) ?z152
      case y152 => (intro w hSw; (try dsimp only at hSw); go_simp) <;> with_reducible rfl
      try simp only [Act.put, List.setIfInBounds_toArray, List.set_cons_zero, List.set_cons_succ]
      refine wpAnyH_ready (rs := [10]) (by kernel_rfl) (by simp) ?_
      refine (AllReadyH.cons (o := { dst := some 47, op := Go.Op.call { callee := Go.Callee.value (Go.Operand.func 14), args := #[Go.Operand.tmp 45, Go.Operand.tmp 46], argTypes := #[27, 3] }, type := 5, pos := "law.go:132", after := #[{ on := 8, ground := Go.Ground.data }, { on := 9, ground := Go.Ground.data }, { on := 7, ground := Go.Ground.chain }, { on := 7, ground := Go.Ground.guard }], guard := some (7, true) }) rfl (fun K hK => ?_) AllReadyH.nil)
      · skip
        go_simp
        with_reducible refine (HA3.out _).mono ?_
        rintro q_ w12 ⟨rfl, hb⟩
        have B12 := Lib.hid (vian HN.out B11.out hb)
        have T12 := Lib.hid (T11.out.below hb)
        have U12 := Lib.hid (U11.out.below hb)
        clear hb B11 T11 U11
        refine hK.out _ _ ?s153 (fun hNew => ?r153)
        case s153 => exact ⟨T12.out.2.1, U12.out.2.1⟩
        clear hK K hHeld
        have hHeld := hNew
        clear hNew
        refine wpAnyH_ready (rs := [13]) (by kernel_rfl) (by simp) ?_
        refine (AllReadyH.cons (o := { dst := some 50, op := Go.Op.call { callee := Go.Callee.value (Go.Operand.func 14), args := #[Go.Operand.tmp 48, Go.Operand.tmp 49], argTypes := #[27, 3] }, type := 5, pos := "law.go:132", after := #[{ on := 11, ground := Go.Ground.data }, { on := 12, ground := Go.Ground.data }, { on := 10, ground := Go.Ground.chain }, { on := 7, ground := Go.Ground.guard }], guard := some (7, true) }) rfl (fun K hK => ?_) AllReadyH.nil)
        · skip
          go_simp
          with_reducible refine (HT3.out _).mono ?_
          rintro q_ w13 ⟨rfl, hb⟩
          have B13 := Lib.hid (vian HN.out B12.out hb)
          have T13 := Lib.hid (T12.out.below hb)
          have U13 := Lib.hid (U12.out.below hb)
          clear hb B12 T12 U12
          refine hK.out _ _ ?s154 (fun hNew => ?r154)
          case s154 => exact ⟨T13.out.2.1, U13.out.2.1⟩
          clear hK K hHeld
          have hHeld := hNew
          clear hNew
          refine wpAnyH_take (i := 14) (oi := { dst := some 51, op := Go.Op.binOp Go.BinOp.neq 5 (Go.Operand.tmp 47) (Go.Operand.tmp 50) 5, type := 4, pos := "law.go:132", after := #[{ on := 10, ground := Go.Ground.data }, { on := 13, ground := Go.Ground.data }, { on := 7, ground := Go.Ground.guard }], guard := some (7, true) }) (v := ?v155) rfl (by kernel_rfl) (by kernel_rfl) (by kernel_rfl) (fun _ _ _ h => h) (Or.inl ⟨by rfl, ?y155⟩) (by assumption) ?z155
          case y155 => (intro w hSw; (try dsimp only at hSw); go_simp) <;> with_reducible rfl
          try simp only [Act.put, List.setIfInBounds_toArray, List.set_cons_zero, List.set_cons_succ]
          refine wpAnyH_take (i := 15) (oi := { dst := some 52, op := Go.Op.pick (Go.Operand.tmp 44) (Go.Operand.tmp 51) (Go.Operand.const (Go.Value.bool false)), type := 4, pos := "law.go:132", after := #[{ on := 7, ground := Go.Ground.data }, { on := 14, ground := Go.Ground.data }], guard := none }) (v := ?v156) rfl (by kernel_rfl) (by kernel_rfl) (by kernel_rfl) (fun _ _ _ h => h) (Or.inl ⟨by rfl, ?y156⟩) (by assumption) ?z156
          case y156 => (intro w hSw; (try dsimp only at hSw); go_simp) <;> with_reducible rfl
          try simp only [Act.put, List.setIfInBounds_toArray, List.set_cons_zero, List.set_cons_succ]
          refine wpAnyH_done (by kernel_rfl) ?_ _
          clear hHeld
          go_wp2
          rw [rounds_succ]
          go_upto_region 16 with (fail)
          have B14 := Lib.hid B13.out.drew
          have T14 := Lib.hid T13.out.drew
          have U14 := Lib.hid U13.out.drew
          refine wp_region_held_drew (S := (fun w' => (∀ o_, w'.cell? ⟨tb, o_, none⟩ = #[.int .u16 c, .int .u8 a, .int .u8 m, .int .u8 kk, .bool o][o_]?) ∧ (∀ o_, w'.cell? ⟨ub, o_, none⟩ = #[.int .u16 RA.c, .int .u8 RA.a, .int .u8 RA.m, .int .u8 RA.k, .bool RA.o][o_]?))) (by kernel_rfl) ⟨T14.out.2.1, U14.out.2.1⟩ (fun hHeld => ?_)
          generalize World.drew w13 = w14 at hHeld B14 T14 U14 ⊢
          clear B13 T13 U13
          refine wpAnyH_take (i := 0) (oi := { dst := some 54, op := Go.Op.load 27 (Go.Operand.tmp 11), type := 27, pos := "law.go:136", after := #[], guard := none }) (v := ?v157) rfl (by kernel_rfl) (by kernel_rfl) (by kernel_rfl) (fun _ _ _ h => h) (Or.inl ⟨by rfl, ?y157⟩) (by assumption) ?z157
          case y157 => (intro w hSw; (try dsimp only at hSw); go_simp) <;> with_reducible rfl
          try simp only [Act.put, List.setIfInBounds_toArray, List.set_cons_zero, List.set_cons_succ]
          refine wpAnyH_take (i := 1) (oi := { dst := some 55, op := Go.Op.move (Go.Operand.tmp 10), type := 3, pos := "law.go:136", after := #[], guard := none }) (v := ?v158) rfl (by kernel_rfl) (by kernel_rfl) (by kernel_rfl) (fun _ _ _ h => h) (Or.inl ⟨by rfl, ?y158⟩) (by assumption) ?z158
          case y158 => (intro w hSw; (try dsimp only at hSw); go_simp) <;> with_reducible rfl
          try simp only [Act.put, List.setIfInBounds_toArray, List.set_cons_zero, List.set_cons_succ]
          refine wpAnyH_take (i := 3) (oi := { dst := some 57, op := Go.Op.move (Go.Operand.tmp 12), type := 5, pos := "law.go:136", after := #[], guard := none }) (v := ?v159) rfl (by kernel_rfl) (by kernel_rfl) (by kernel_rfl) (fun _ _ _ h => h) (Or.inl ⟨by rfl, ?y159⟩) (by assumption) ?z159
          case y159 => (intro w hSw; (try dsimp only at hSw); go_simp) <;> with_reducible rfl
          try simp only [Act.put, List.setIfInBounds_toArray, List.set_cons_zero, List.set_cons_succ]
          refine wpAnyH_ready (rs := [2]) (by kernel_rfl) (by simp) ?_
          refine (AllReadyH.cons (o := { dst := some 56, op := Go.Op.call { callee := Go.Callee.value (Go.Operand.func 14), args := #[Go.Operand.tmp 54, Go.Operand.tmp 55], argTypes := #[27, 3] }, type := 5, pos := "law.go:136", after := #[{ on := 0, ground := Go.Ground.data }, { on := 1, ground := Go.Ground.data }], guard := none }) rfl (fun K hK => ?_) AllReadyH.nil)
          · skip
            go_simp
            with_reducible refine (H2.out _).mono ?_
            rintro q_ w15 ⟨rfl, hb⟩
            have B15 := Lib.hid (vian HN.out B14.out hb)
            have T15 := Lib.hid (T14.out.below hb)
            have U15 := Lib.hid (U14.out.below hb)
            clear hb B14 T14 U14
            refine hK.out _ _ ?s160 (fun hNew => ?r160)
            case s160 => exact ⟨T15.out.2.1, U15.out.2.1⟩
            clear hK K hHeld
            have hHeld := hNew
            clear hNew
            refine wpAnyH_take (i := 4) (oi := { dst := some 58, op := Go.Op.binOp Go.BinOp.eql 5 (Go.Operand.tmp 56) (Go.Operand.tmp 57) 5, type := 4, pos := "law.go:136", after := #[{ on := 2, ground := Go.Ground.data }, { on := 3, ground := Go.Ground.data }], guard := none }) (v := ?v161) rfl (by kernel_rfl) (by kernel_rfl) (by kernel_rfl) (fun _ _ _ h => h) (Or.inl ⟨by rfl, ?y161⟩) (by assumption) ?z161
            case y161 => (intro w hSw; (try dsimp only at hSw); go_simp) <;> with_reducible rfl
            try simp only [Act.put, List.setIfInBounds_toArray, List.set_cons_zero, List.set_cons_succ]
            refine wpAnyH_take (i := 5) (oi := { dst := some 59, op := Go.Op.move (Go.Operand.tmp 58), type := 4, pos := "law.go:136", after := #[{ on := 4, ground := Go.Ground.data }, { on := 2, ground := Go.Ground.chain }], guard := none }) (v := ?v162) rfl (by kernel_rfl) (by kernel_rfl) (by kernel_rfl) (fun _ _ _ h => h) (Or.inl ⟨by rfl, ?y162⟩) (by assumption) ?z162
            case y162 => (intro w hSw; (try dsimp only at hSw); go_simp) <;> with_reducible rfl
            try simp only [Act.put, List.setIfInBounds_toArray, List.set_cons_zero, List.set_cons_succ]
            refine wpAnyH_take (i := 6) (oi := { dst := some 60, op := Go.Op.move (Go.Operand.tmp 3), type := 3, pos := "law.go:136", after := #[{ on := 5, ground := Go.Ground.guard }], guard := some (5, true) }) (v := ?v163) rfl (by kernel_rfl) (by kernel_rfl) (by kernel_rfl) (fun _ _ _ h => h) (Or.inl ⟨by rfl, ?y163⟩) (by assumption) ?z163
            case y163 => (intro w hSw; (try dsimp only at hSw); go_simp) <;> with_reducible rfl
            try simp only [Act.put, List.setIfInBounds_toArray, List.set_cons_zero, List.set_cons_succ]
            refine wpAnyH_take (i := 7) (oi := { dst := some 61, op := Go.Op.binOp Go.BinOp.geq 3 (Go.Operand.tmp 60) (Go.Operand.const (Go.Value.int Go.IntKind.i64 0)) 3, type := 4, pos := "law.go:136", after := #[{ on := 6, ground := Go.Ground.data }, { on := 5, ground := Go.Ground.guard }], guard := some (5, true) }) (v := ?v164) rfl (by kernel_rfl) (by kernel_rfl) (by kernel_rfl) (fun _ _ _ h => h) (Or.inl ⟨by rfl, ?y164⟩) (by assumption) ?z164
            case y164 => (intro w hSw; (try dsimp only at hSw); go_simp) <;> with_reducible rfl
            try simp only [Act.put, List.setIfInBounds_toArray, List.set_cons_zero, List.set_cons_succ]
            refine wpAnyH_take (i := 8) (oi := { dst := some 62, op := Go.Op.move (Go.Operand.tmp 61), type := 4, pos := "law.go:136", after := #[{ on := 7, ground := Go.Ground.data }, { on := 5, ground := Go.Ground.chain }, { on := 5, ground := Go.Ground.guard }], guard := some (5, true) }) (v := ?v165) rfl (by kernel_rfl) (by kernel_rfl) (by kernel_rfl) (fun _ _ _ h => h) (Or.inl ⟨by rfl, ?y165⟩) (by assumption) ?z165
            case y165 => (intro w hSw; (try dsimp only at hSw); go_simp) <;> with_reducible rfl
            try simp only [Act.put, List.setIfInBounds_toArray, List.set_cons_zero, List.set_cons_succ]
            refine wpAnyH_take (i := 9) (oi := { dst := some 63, op := Go.Op.move (Go.Operand.tmp 3), type := 3, pos := "law.go:136", after := #[{ on := 8, ground := Go.Ground.guard }], guard := some (8, true) }) (v := undef) rfl (by kernel_rfl) (by kernel_rfl) (by kernel_rfl) (fun _ _ _ h => h) (Or.inr ⟨by rfl, rfl⟩) (by assumption) ?_
            try simp only [Act.put, List.setIfInBounds_toArray, List.set_cons_zero, List.set_cons_succ]
            refine wpAnyH_take (i := 10) (oi := { dst := some 64, op := Go.Op.binOp Go.BinOp.leq 3 (Go.Operand.tmp 63) (Go.Operand.const (Go.Value.int Go.IntKind.i64 3)) 3, type := 4, pos := "law.go:136", after := #[{ on := 9, ground := Go.Ground.data }, { on := 8, ground := Go.Ground.guard }], guard := some (8, true) }) (v := undef) rfl (by kernel_rfl) (by kernel_rfl) (by kernel_rfl) (fun _ _ _ h => h) (Or.inr ⟨by rfl, rfl⟩) (by assumption) ?_
            try simp only [Act.put, List.setIfInBounds_toArray, List.set_cons_zero, List.set_cons_succ]
            refine wpAnyH_take (i := 11) (oi := { dst := some 65, op := Go.Op.pick (Go.Operand.tmp 62) (Go.Operand.tmp 64) (Go.Operand.const (Go.Value.bool false)), type := 4, pos := "law.go:136", after := #[{ on := 8, ground := Go.Ground.data }, { on := 10, ground := Go.Ground.data }, { on := 5, ground := Go.Ground.guard }], guard := some (5, true) }) (v := ?v168) rfl (by kernel_rfl) (by kernel_rfl) (by kernel_rfl) (fun _ _ _ h => h) (Or.inl ⟨by rfl, ?y168⟩) (by assumption) ?z168
            case y168 => (intro w hSw; (try dsimp only at hSw); go_simp) <;> with_reducible rfl
            try simp only [Act.put, List.setIfInBounds_toArray, List.set_cons_zero, List.set_cons_succ]
            refine wpAnyH_take (i := 12) (oi := { dst := some 66, op := Go.Op.move (Go.Operand.tmp 65), type := 4, pos := "law.go:136", after := #[{ on := 11, ground := Go.Ground.data }, { on := 8, ground := Go.Ground.chain }, { on := 5, ground := Go.Ground.guard }], guard := some (5, true) }) (v := ?v169) rfl (by kernel_rfl) (by kernel_rfl) (by kernel_rfl) (fun _ _ _ h => h) (Or.inl ⟨by rfl, ?y169⟩) (by assumption) ?z169
            case y169 => (intro w hSw; (try dsimp only at hSw); go_simp) <;> with_reducible rfl
            try simp only [Act.put, List.setIfInBounds_toArray, List.set_cons_zero, List.set_cons_succ]
            refine wpAnyH_take (i := 13) (oi := { dst := some 67, op := Go.Op.load 27 (Go.Operand.tmp 9), type := 27, pos := "law.go:136", after := #[{ on := 12, ground := Go.Ground.guard }], guard := some (12, false) }) (v := ?v170) rfl (by kernel_rfl) (by kernel_rfl) (by kernel_rfl) (fun _ _ _ h => h) (Or.inl ⟨by rfl, ?y170⟩) (by assumption) ?z170
            case y170 => (intro w hSw; (try dsimp only at hSw); go_simp) <;> with_reducible rfl
            try simp only [Act.put, List.setIfInBounds_toArray, List.set_cons_zero, List.set_cons_succ]
            refine wpAnyH_take (i := 14) (oi := { dst := some 68, op := Go.Op.move (Go.Operand.tmp 3), type := 3, pos := "law.go:136", after := #[{ on := 12, ground := Go.Ground.guard }], guard := some (12, false) }) (v := ?v171) rfl (by kernel_rfl) (by kernel_rfl) (by kernel_rfl) (fun _ _ _ h => h) (Or.inl ⟨by rfl, ?y171⟩) (by assumption) ?z171
            case y171 => (intro w hSw; (try dsimp only at hSw); go_simp) <;> with_reducible rfl
            try simp only [Act.put, List.setIfInBounds_toArray, List.set_cons_zero, List.set_cons_succ]
            refine wpAnyH_ready (rs := [15]) (by kernel_rfl) (by simp) ?_
            refine (AllReadyH.cons (o := { dst := some 69, op := Go.Op.call { callee := Go.Callee.value (Go.Operand.func 14), args := #[Go.Operand.tmp 67, Go.Operand.tmp 68], argTypes := #[27, 3] }, type := 5, pos := "law.go:136", after := #[{ on := 13, ground := Go.Ground.data }, { on := 14, ground := Go.Ground.data }, { on := 12, ground := Go.Ground.chain }, { on := 12, ground := Go.Ground.guard }], guard := some (12, false) }) rfl (fun K hK => ?_) AllReadyH.nil)
            · skip
              go_simp
              with_reducible refine (H15.out _).mono ?_
              rintro q_ w16 ⟨rfl, hb⟩
              have B16 := Lib.hid (vian HN.out B15.out hb)
              have T16 := Lib.hid (T15.out.below hb)
              have U16 := Lib.hid (U15.out.below hb)
              clear hb B15 T15 U15
              refine hK.out _ _ ?s172 (fun hNew => ?r172)
              case s172 => exact ⟨T16.out.2.1, U16.out.2.1⟩
              clear hK K hHeld
              have hHeld := hNew
              clear hNew
              refine wpAnyH_take (i := 16) (oi := { dst := some 70, op := Go.Op.binOp Go.BinOp.eql 5 (Go.Operand.tmp 69) (Go.Operand.const (Go.Value.int Go.IntKind.u8 255)) 5, type := 4, pos := "law.go:136", after := #[{ on := 15, ground := Go.Ground.data }, { on := 12, ground := Go.Ground.guard }], guard := some (12, false) }) (v := ?v173) rfl (by kernel_rfl) (by kernel_rfl) (by kernel_rfl) (fun _ _ _ h => h) (Or.inl ⟨by rfl, ?y173⟩) (by assumption) ?z173
              case y173 => (intro w hSw; (try dsimp only at hSw); go_simp) <;> with_reducible rfl
              try simp only [Act.put, List.setIfInBounds_toArray, List.set_cons_zero, List.set_cons_succ]
              refine wpAnyH_take (i := 17) (oi := { dst := some 71, op := Go.Op.move (Go.Operand.tmp 70), type := 4, pos := "law.go:136", after := #[{ on := 16, ground := Go.Ground.data }, { on := 15, ground := Go.Ground.chain }, { on := 12, ground := Go.Ground.guard }], guard := some (12, false) }) (v := ?v174) rfl (by kernel_rfl) (by kernel_rfl) (by kernel_rfl) (fun _ _ _ h => h) (Or.inl ⟨by rfl, ?y174⟩) (by assumption) ?z174
              case y174 => (intro w hSw; (try dsimp only at hSw); go_simp) <;> with_reducible rfl
              try simp only [Act.put, List.setIfInBounds_toArray, List.set_cons_zero, List.set_cons_succ]
              refine wpAnyH_take (i := 18) (oi := { dst := some 72, op := Go.Op.load 27 (Go.Operand.tmp 9), type := 27, pos := "law.go:136", after := #[{ on := 17, ground := Go.Ground.guard }], guard := some (17, true) }) (v := ?v175) rfl (by kernel_rfl) (by kernel_rfl) (by kernel_rfl) (fun _ _ _ h => h) (Or.inl ⟨by rfl, ?y175⟩) (by assumption) ?z175
              case y175 => (intro w hSw; (try dsimp only at hSw); go_simp) <;> with_reducible rfl
              try simp only [Act.put, List.setIfInBounds_toArray, List.set_cons_zero, List.set_cons_succ]
              refine wpAnyH_take (i := 19) (oi := { dst := some 73, op := Go.Op.move (Go.Operand.tmp 3), type := 3, pos := "law.go:136", after := #[{ on := 17, ground := Go.Ground.guard }], guard := some (17, true) }) (v := ?v176) rfl (by kernel_rfl) (by kernel_rfl) (by kernel_rfl) (fun _ _ _ h => h) (Or.inl ⟨by rfl, ?y176⟩) (by assumption) ?z176
              case y176 => (intro w hSw; (try dsimp only at hSw); go_simp) <;> with_reducible rfl
              try simp only [Act.put, List.setIfInBounds_toArray, List.set_cons_zero, List.set_cons_succ]
              refine wpAnyH_take (i := 20) (oi := { dst := some 74, op := Go.Op.move (Go.Operand.tmp 2), type := 5, pos := "law.go:136", after := #[{ on := 17, ground := Go.Ground.guard }], guard := some (17, true) }) (v := ?v177) rfl (by kernel_rfl) (by kernel_rfl) (by kernel_rfl) (fun _ _ _ h => h) (Or.inl ⟨by rfl, ?y177⟩) (by assumption) ?z177
              case y177 => (intro w hSw; (try dsimp only at hSw); go_simp) <;> with_reducible rfl
              try simp only [Act.put, List.setIfInBounds_toArray, List.set_cons_zero, List.set_cons_succ]
              refine wpAnyH_take (i := 22) (oi := { dst := some 76, op := Go.Op.load 27 (Go.Operand.tmp 9), type := 27, pos := "law.go:136", after := #[{ on := 17, ground := Go.Ground.guard }], guard := some (17, true) }) (v := ?v178) rfl (by kernel_rfl) (by kernel_rfl) (by kernel_rfl) (fun _ _ _ h => h) (Or.inl ⟨by rfl, ?y178⟩) (by assumption) ?z178
              case y178 => (intro w hSw; (try dsimp only at hSw); go_simp) <;> with_reducible rfl
              try simp only [Act.put, List.setIfInBounds_toArray, List.set_cons_zero, List.set_cons_succ]
              refine wpAnyH_ready (rs := [21]) (by kernel_rfl) (by simp) ?_
              refine (AllReadyH.cons (o := { dst := some 75, op := Go.Op.call { callee := Go.Callee.value (Go.Operand.func 12), args := #[Go.Operand.tmp 72, Go.Operand.tmp 73, Go.Operand.tmp 74], argTypes := #[27, 3, 5] }, type := 27, pos := "law.go:136", after := #[{ on := 18, ground := Go.Ground.data }, { on := 19, ground := Go.Ground.data }, { on := 20, ground := Go.Ground.data }, { on := 17, ground := Go.Ground.chain }, { on := 17, ground := Go.Ground.guard }], guard := some (17, true) }) rfl (fun K hK => ?_) AllReadyH.nil)
              · skip
                go_simp
                with_reducible refine (H21.out _ (TT.out.next B16.out).g).mono ?_
                rintro q_ w17 ⟨rfl, hb⟩
                have B17 := Lib.hid (vian HN.out B16.out hb)
                have T17 := Lib.hid (T16.out.below hb)
                have U17 := Lib.hid (U16.out.below hb)
                clear hb B16 T16 U16
                refine hK.out _ _ ?s179 (fun hNew => ?r179)
                case s179 => exact ⟨T17.out.2.1, U17.out.2.1⟩
                clear hK K hHeld
                have hHeld := hNew
                clear hNew
                refine wpAnyH_take (i := 23) (oi := { dst := some 77, op := Go.Op.binOp Go.BinOp.eql 27 (Go.Operand.tmp 75) (Go.Operand.tmp 76) 27, type := 4, pos := "law.go:136", after := #[{ on := 21, ground := Go.Ground.data }, { on := 22, ground := Go.Ground.data }, { on := 17, ground := Go.Ground.guard }], guard := some (17, true) }) (v := ?v180) rfl (by kernel_rfl) (by kernel_rfl) (by kernel_rfl) (fun _ _ _ h => h) (Or.inl ⟨by rfl, ?y180⟩) (by assumption) ?z180
                case y180 => (intro w hSw; (try dsimp only at hSw); go_simp) <;> with_reducible rfl
                try simp only [Act.put, List.setIfInBounds_toArray, List.set_cons_zero, List.set_cons_succ]
                refine wpAnyH_take (i := 24) (oi := { dst := some 78, op := Go.Op.pick (Go.Operand.tmp 71) (Go.Operand.tmp 77) (Go.Operand.const (Go.Value.bool false)), type := 4, pos := "law.go:136", after := #[{ on := 17, ground := Go.Ground.data }, { on := 23, ground := Go.Ground.data }, { on := 12, ground := Go.Ground.guard }], guard := some (12, false) }) (v := ?v181) rfl (by kernel_rfl) (by kernel_rfl) (by kernel_rfl) (fun _ _ _ h => h) (Or.inl ⟨by rfl, ?y181⟩) (by assumption) ?z181
                case y181 => (intro w hSw; (try dsimp only at hSw); go_simp) <;> with_reducible rfl
                try simp only [Act.put, List.setIfInBounds_toArray, List.set_cons_zero, List.set_cons_succ]
                refine wpAnyH_take (i := 25) (oi := { dst := some 79, op := Go.Op.pick (Go.Operand.tmp 66) (Go.Operand.const (Go.Value.bool true)) (Go.Operand.tmp 78), type := 4, pos := "law.go:136", after := #[{ on := 12, ground := Go.Ground.data }, { on := 24, ground := Go.Ground.data }, { on := 5, ground := Go.Ground.guard }], guard := some (5, true) }) (v := ?v182) rfl (by kernel_rfl) (by kernel_rfl) (by kernel_rfl) (fun _ _ _ h => h) (Or.inl ⟨by rfl, ?y182⟩) (by assumption) ?z182
                case y182 => (intro w hSw; (try dsimp only at hSw); go_simp) <;> with_reducible rfl
                try simp only [Act.put, List.setIfInBounds_toArray, List.set_cons_zero, List.set_cons_succ]
                refine wpAnyH_take (i := 26) (oi := { dst := some 80, op := Go.Op.pick (Go.Operand.tmp 59) (Go.Operand.tmp 79) (Go.Operand.const (Go.Value.bool false)), type := 4, pos := "law.go:136", after := #[{ on := 5, ground := Go.Ground.data }, { on := 25, ground := Go.Ground.data }], guard := none }) (v := ?v183) rfl (by kernel_rfl) (by kernel_rfl) (by kernel_rfl) (fun _ _ _ h => h) (Or.inl ⟨by rfl, ?y183⟩) (by assumption) ?z183
                case y183 => (intro w hSw; (try dsimp only at hSw); go_simp) <;> with_reducible rfl
                try simp only [Act.put, List.setIfInBounds_toArray, List.set_cons_zero, List.set_cons_succ]
                refine wpAnyH_take (i := 27) (oi := { dst := some 8, op := Go.Op.assign (Go.Operand.tmp 80), type := 4, pos := "law.go:136", after := #[{ on := 26, ground := Go.Ground.data }, { on := 21, ground := Go.Ground.chain }, { on := 0, ground := Go.Ground.phase }, { on := 1, ground := Go.Ground.phase }, { on := 2, ground := Go.Ground.phase }, { on := 3, ground := Go.Ground.phase }, { on := 4, ground := Go.Ground.phase }, { on := 5, ground := Go.Ground.phase }, { on := 6, ground := Go.Ground.phase }, { on := 7, ground := Go.Ground.phase }, { on := 8, ground := Go.Ground.phase }, { on := 9, ground := Go.Ground.phase }, { on := 10, ground := Go.Ground.phase }, { on := 11, ground := Go.Ground.phase }, { on := 12, ground := Go.Ground.phase }, { on := 13, ground := Go.Ground.phase }, { on := 14, ground := Go.Ground.phase }, { on := 15, ground := Go.Ground.phase }, { on := 16, ground := Go.Ground.phase }, { on := 17, ground := Go.Ground.phase }, { on := 18, ground := Go.Ground.phase }, { on := 19, ground := Go.Ground.phase }, { on := 20, ground := Go.Ground.phase }, { on := 21, ground := Go.Ground.phase }, { on := 22, ground := Go.Ground.phase }, { on := 23, ground := Go.Ground.phase }, { on := 24, ground := Go.Ground.phase }, { on := 25, ground := Go.Ground.phase }, { on := 26, ground := Go.Ground.phase }], guard := none }) (v := ?v184) rfl (by kernel_rfl) (by kernel_rfl) (by kernel_rfl) (fun _ _ _ h => h) (Or.inl ⟨by rfl, ?y184⟩) (by assumption) ?z184
                case y184 => (intro w hSw; (try dsimp only at hSw); go_simp) <;> with_reducible rfl
                try simp only [Act.put, List.setIfInBounds_toArray, List.set_cons_zero, List.set_cons_succ]
                refine wpAnyH_done (by kernel_rfl) ?_ _
                clear hHeld
                go_wp2
                go_ret
                exact ⟨rfl, B17.out⟩
set_option maxHeartbeats 8000000 in
theorem reads_22 (c a m k kk : Int) (o : Bool) (n : Nat) (x od y0 y3 wv : Int) (RA : TV) (hk0 : 0 ≤ k) (hk1 : k < 256) (hkk : k % 8 = kk) (hx0 : 0 ≤ x) (hx1 : x < 256) (hn0 : n < 256) (hn1 : n % 3 = 1) (hw_ : x = wv) (h1_ : ∀ W, Glob W → Calls Tryd.prog 12 #[.agg #[.int .u16 c, .int .u8 a, .int .u8 m, .int .u8 kk, .bool o], .int .i64 2, .int .u8 x] W fun q_ w' => q_ = .returned (.agg #[.int .u16 RA.c, .int .u8 RA.a, .int .u8 RA.m, .int .u8 RA.k, .bool RA.o]) ∧ Below W.heap.size W w') (h2_ : ∀ W, Calls Tryd.prog 14 #[.agg #[.int .u16 RA.c, .int .u8 RA.a, .int .u8 RA.m, .int .u8 RA.k, .bool RA.o], .int .i64 2] W fun q_ w' => q_ = .returned (.int .u8 wv) ∧ Below W.heap.size W w') (ra0 : ∀ W, Calls Tryd.prog 14 #[.agg #[.int .u16 RA.c, .int .u8 RA.a, .int .u8 RA.m, .int .u8 RA.k, .bool RA.o], .int .i64 0] W fun q_ w' => q_ = .returned (.int .u8 y0) ∧ Below W.heap.size W w') (rt0 : ∀ W, Calls Tryd.prog 14 #[.agg #[.int .u16 c, .int .u8 a, .int .u8 m, .int .u8 kk, .bool o], .int .i64 0] W fun q_ w' => q_ = .returned (.int .u8 y0) ∧ Below W.heap.size W w') (ra3 : ∀ W, Calls Tryd.prog 14 #[.agg #[.int .u16 RA.c, .int .u8 RA.a, .int .u8 RA.m, .int .u8 RA.k, .bool RA.o], .int .i64 3] W fun q_ w' => q_ = .returned (.int .u8 y3) ∧ Below W.heap.size W w') (rt3 : ∀ W, Calls Tryd.prog 14 #[.agg #[.int .u16 c, .int .u8 a, .int .u8 m, .int .u8 kk, .bool o], .int .i64 3] W fun q_ w' => q_ = .returned (.int .u8 y3) ∧ Below W.heap.size W w') (o0 : ¬ od < 0) (o3 : 3 < od) (h15_ : ∀ W, Calls Tryd.prog 14 #[.agg #[.int .u16 c, .int .u8 a, .int .u8 m, .int .u8 kk, .bool o], .int .i64 od] W fun q_ w' => q_ = .returned (.int .u8 255) ∧ Below W.heap.size W w') (h21_ : ∀ W, Glob W → Calls Tryd.prog 12 #[.agg #[.int .u16 c, .int .u8 a, .int .u8 m, .int .u8 kk, .bool o], .int .i64 od, .int .u8 x] W fun q_ w' => q_ = .returned (.agg #[.int .u16 c, .int .u8 a, .int .u8 m, .int .u8 kk, .bool o]) ∧ Below W.heap.size W w') (w : World) (hglob : Glob w) : Calls Tryd.prog 7 #[.agg #[.int .u16 c, .int .u8 a, .int .u8 m, .int .u8 k, .bool o], .int .u8 n, .int .u8 x, .int .i64 od] w fun q_ w' => q_ = .returned (.bool true) ∧ Below w.heap.size w w' := by
  suffices hall : ∀ (n_ : Nat) (W0 : World), n_ ≤ W0.heap.size → Below n_ W0 w → Tab n_ W0 → Calls Tryd.prog 7 #[.agg #[.int .u16 c, .int .u8 a, .int .u8 m, .int .u8 k, .bool o], .int .u8 n, .int .u8 x, .int .i64 od] w fun q_ w' => q_ = .returned (.bool true) ∧ Below n_ W0 w' from hall _ _ (Nat.le_refl _) (Below.refl _ _) ⟨hglob.1, hglob⟩
  intro n_ W0 hn hB hT
  have HN := Lib.hid hn
  have BB := Lib.hid hB
  have TT := Lib.hid hT
  clear hn hB hT hglob
  have AW := Lib.hid awake_c
  have hnot : ∀ (x : Bool) (w : World), (Op.unary .not (.bool x)).run Tryd.prog w = .ok (.bool (!x)) w := fun _ _ => rfl
  have p2 : 0 ≤ od := by omega
  have p0 : ¬ od ≤ 3 := by omega
  have p1 : decide (od ≤ 3) = false := decide_eq_false p0
  have H1 := Lib.hid h1_
  have H2 := Lib.hid h2_
  have HA0 := Lib.hid ra0
  have HA3 := Lib.hid ra3
  have HT0 := Lib.hid rt0
  have HT3 := Lib.hid rt3
  have H15 := Lib.hid h15_
  have H21 := Lib.hid h21_
  clear h1_ h2_ ra0 ra3 rt0 rt3 h15_ h21_
  have e1 : bits .and .u8 k 7 = kk := (and7 k hk0 hk1).trans hkk
  subst hw_
  have e3 : (n : Int).tmod 3 = 1 := by rw [Int.tmod_eq_emod_of_nonneg (by omega)]; omega
  have e4 : (n : Int) % 3 = 1 := by omega
  clear hn1
  go_enter Tryd.func7, Tryd.ntmps7
  have B0 := Lib.hid (vian HN.out BB.out (own1 w (.cells #[.int .u16 c, .int .u8 a, .int .u8 m, .int .u8 k, .bool o] 24)))
  have V0 := Lib.hid (Has.new w #[.int .u16 c, .int .u8 a, .int .u8 m, .int .u8 k, .bool o] 24)
  have LV := Lib.hid (Nat.le_trans HN.out BB.out.size)
  go_upto_region 1 with (fail)
  generalize w.alloc (.cells #[.int .u16 c, .int .u8 a, .int .u8 m, .int .u8 k, .bool o] 24) = w0 at B0 V0 ⊢
  generalize w.heap.size = vb at V0 LV ⊢
  go_wp2_with fail
  with_reducible refine (AW.out _ (TT.out.next B0.out).g).mono ?_
  rintro q_ w1 ⟨rfl, hb⟩
  have B1 := Lib.hid (vian HN.out B0.out hb)
  have V1 := Lib.hid (V0.out.below hb)
  clear hb B0 V0
  have T2 := Lib.hid (Has.new w1 #[.int .u16 c, .int .u8 a, .int .u8 m, .int .u8 k, .bool o] 27)
  have V2 := Lib.hid (V1.out.alloc (.cells #[.int .u16 c, .int .u8 a, .int .u8 m, .int .u8 k, .bool o] 27))
  have B2 := Lib.hid (vian HN.out B1.out (own1 w1 (.cells #[.int .u16 c, .int .u8 a, .int .u8 m, .int .u8 k, .bool o] 27)))
  have LT := Lib.hid (Nat.le_trans HN.out B1.out.size)
  have NVT := Lib.hid (show vb ≠ w1.heap.size from fun e => absurd V1.out.1 (Nat.not_lt.2 (Nat.le_of_eq e.symm)))
  obtain ⟨hc, hf⟩ := V1.out.out
  go_upto_region 4 with (fail)
  generalize w1.alloc (.cells #[.int .u16 c, .int .u8 a, .int .u8 m, .int .u8 k, .bool o] 27) = w2 at T2 V2 B2 ⊢
  generalize w1.heap.size = tb at T2 LT NVT ⊢
  clear B1 V1
  clear hc hf V2 NVT LV
  have T3 := Lib.hid (show Has (w2.setCell ⟨tb, 3, none⟩ (.int .u8 kk)) tb #[.int .u16 c, .int .u8 a, .int .u8 m, .int .u8 kk, .bool o] by simpa using T2.out.set 3 (.int .u8 kk) (by simp))
  have B3 := Lib.hid (store1 B2.out LT.out 3 (.int .u8 kk))
  obtain ⟨hc, hf⟩ := T2.out.out
  go_upto_region 5 with (fail)
  clear hc hf
  generalize w2.setCell ⟨tb, 3, none⟩ (.int .u8 kk) = w3 at T3 B3 ⊢
  clear T2 B2
  obtain ⟨hc, hf⟩ := T3.out.out
  go_wp2_with fail
  with_reducible refine (H1.out _ (TT.out.next B3.out).g).mono ?_
  rintro q_ w4 ⟨rfl, hb⟩
  have B4 := Lib.hid (vian HN.out B3.out hb)
  have T4 := Lib.hid (T3.out.below hb)
  clear hb hc hf B3 T3
  have T5 := Lib.hid (T4.out.alloc (.cells #[.int .u16 RA.c, .int .u8 RA.a, .int .u8 RA.m, .int .u8 RA.k, .bool RA.o] 27))
  have U5 := Lib.hid (Has.new w4 #[.int .u16 RA.c, .int .u8 RA.a, .int .u8 RA.m, .int .u8 RA.k, .bool RA.o] 27)
  have B5 := Lib.hid (vian HN.out B4.out (own1 w4 (.cells #[.int .u16 RA.c, .int .u8 RA.a, .int .u8 RA.m, .int .u8 RA.k, .bool RA.o] 27)))
  go_upto_region 10 with (fail)
  generalize w4.alloc (.cells #[.int .u16 RA.c, .int .u8 RA.a, .int .u8 RA.m, .int .u8 RA.k, .bool RA.o] 27) = w5 at T5 U5 B5 ⊢
  generalize w4.heap.size = ub at U5 ⊢
  clear T4 B4
  go_wp2
  refine wp_loop_rounds 5 ?_
  rw [rounds_succ]
  go_upto_region 13 with (fail)
  have B6 := Lib.hid B5.out.drew
  have T6 := Lib.hid T5.out.drew
  have U6 := Lib.hid U5.out.drew
  refine wp_region_held_drew (S := (fun w' => (∀ o_, w'.cell? ⟨tb, o_, none⟩ = #[.int .u16 c, .int .u8 a, .int .u8 m, .int .u8 kk, .bool o][o_]?) ∧ (∀ o_, w'.cell? ⟨ub, o_, none⟩ = #[.int .u16 RA.c, .int .u8 RA.a, .int .u8 RA.m, .int .u8 RA.k, .bool RA.o][o_]?))) (by kernel_rfl) ⟨T6.out.2.1, U6.out.2.1⟩ (fun hHeld => ?_)
  generalize World.drew w5 = w6 at hHeld B6 T6 U6 ⊢
  clear B5 T5 U5
  refine wpAnyH_take (i := 0) (oi := { dst := some 37, op := Go.Op.move (Go.Operand.tmp 13), type := 3, pos := "law.go:132", after := #[], guard := none }) (v := ?v185) rfl (by kernel_rfl) (by kernel_rfl) (by kernel_rfl) (fun _ _ _ h => h) (Or.inl ⟨by rfl, ?y185⟩) (by assumption) ?z185
  case y185 => (intro w hSw; (try dsimp only at hSw); go_simp) <;> with_reducible rfl
  try simp only [Act.put, List.setIfInBounds_toArray, List.set_cons_zero, List.set_cons_succ]
  refine wpAnyH_take (i := 1) (oi := { dst := some 38, op := Go.Op.move (Go.Operand.tmp 10), type := 3, pos := "law.go:132", after := #[], guard := none }) (v := ?v186) rfl (by kernel_rfl) (by kernel_rfl) (by kernel_rfl) (fun _ _ _ h => h) (Or.inl ⟨by rfl, ?y186⟩) (by assumption) ?z186
  case y186 => (intro w hSw; (try dsimp only at hSw); go_simp) <;> with_reducible rfl
  try simp only [Act.put, List.setIfInBounds_toArray, List.set_cons_zero, List.set_cons_succ]
  refine wpAnyH_take (i := 2) (oi := { dst := some 39, op := Go.Op.binOp Go.BinOp.neq 3 (Go.Operand.tmp 37) (Go.Operand.tmp 38) 3, type := 4, pos := "law.go:132", after := #[{ on := 0, ground := Go.Ground.data }, { on := 1, ground := Go.Ground.data }], guard := none }) (v := ?v187) rfl (by kernel_rfl) (by kernel_rfl) (by kernel_rfl) (fun _ _ _ h => h) (Or.inl ⟨by rfl, ?y187⟩) (by assumption) ?z187
  case y187 => (intro w hSw; (try dsimp only at hSw); go_simp) <;> with_reducible rfl
  try simp only [Act.put, List.setIfInBounds_toArray, List.set_cons_zero, List.set_cons_succ]
  refine wpAnyH_take (i := 3) (oi := { dst := some 40, op := Go.Op.move (Go.Operand.tmp 39), type := 4, pos := "law.go:132", after := #[{ on := 2, ground := Go.Ground.data }], guard := none }) (v := ?v188) rfl (by kernel_rfl) (by kernel_rfl) (by kernel_rfl) (fun _ _ _ h => h) (Or.inl ⟨by rfl, ?y188⟩) (by assumption) ?z188
  case y188 => (intro w hSw; (try dsimp only at hSw); go_simp) <;> with_reducible rfl
  try simp only [Act.put, List.setIfInBounds_toArray, List.set_cons_zero, List.set_cons_succ]
  refine wpAnyH_take (i := 4) (oi := { dst := some 41, op := Go.Op.move (Go.Operand.tmp 13), type := 3, pos := "law.go:132", after := #[{ on := 3, ground := Go.Ground.guard }], guard := some (3, true) }) (v := ?v189) rfl (by kernel_rfl) (by kernel_rfl) (by kernel_rfl) (fun _ _ _ h => h) (Or.inl ⟨by rfl, ?y189⟩) (by assumption) ?z189
  case y189 => (intro w hSw; (try dsimp only at hSw); go_simp) <;> with_reducible rfl
  try simp only [Act.put, List.setIfInBounds_toArray, List.set_cons_zero, List.set_cons_succ]
  refine wpAnyH_take (i := 5) (oi := { dst := some 42, op := Go.Op.binOp Go.BinOp.neq 3 (Go.Operand.tmp 41) (Go.Operand.const (Go.Value.int Go.IntKind.i64 1)) 3, type := 4, pos := "law.go:132", after := #[{ on := 4, ground := Go.Ground.data }, { on := 3, ground := Go.Ground.guard }], guard := some (3, true) }) (v := ?v190) rfl (by kernel_rfl) (by kernel_rfl) (by kernel_rfl) (fun _ _ _ h => h) (Or.inl ⟨by rfl, ?y190⟩) (by assumption) ?z190
  case y190 => (intro w hSw; (try dsimp only at hSw); go_simp) <;> with_reducible rfl
  try simp only [Act.put, List.setIfInBounds_toArray, List.set_cons_zero, List.set_cons_succ]
  refine wpAnyH_take (i := 6) (oi := { dst := some 43, op := Go.Op.pick (Go.Operand.tmp 40) (Go.Operand.tmp 42) (Go.Operand.const (Go.Value.bool false)), type := 4, pos := "law.go:132", after := #[{ on := 3, ground := Go.Ground.data }, { on := 5, ground := Go.Ground.data }], guard := none }) (v := ?v191) rfl (by kernel_rfl) (by kernel_rfl) (by kernel_rfl) (fun _ _ _ h => h) (Or.inl ⟨by rfl, ?y191⟩) (by assumption) ?z191
  case y191 => (intro w hSw; (try dsimp only at hSw); go_simp) <;> with_reducible rfl
  try simp only [Act.put, List.setIfInBounds_toArray, List.set_cons_zero, List.set_cons_succ]
  refine wpAnyH_take (i := 7) (oi := { dst := some 44, op := Go.Op.move (Go.Operand.tmp 43), type := 4, pos := "law.go:132", after := #[{ on := 6, ground := Go.Ground.data }, { on := 3, ground := Go.Ground.chain }], guard := none }) (v := ?v192) rfl (by kernel_rfl) (by kernel_rfl) (by kernel_rfl) (fun _ _ _ h => h) (Or.inl ⟨by rfl, ?y192⟩) (by assumption) ?z192
  case y192 => (intro w hSw; (try dsimp only at hSw); go_simp) <;> with_reducible rfl
  try simp only [Act.put, List.setIfInBounds_toArray, List.set_cons_zero, List.set_cons_succ]
  refine wpAnyH_take (i := 8) (oi := { dst := some 45, op := Go.Op.load 27 (Go.Operand.tmp 11), type := 27, pos := "law.go:132", after := #[{ on := 7, ground := Go.Ground.guard }], guard := some (7, true) }) (v := ?v193) rfl (by kernel_rfl) (by kernel_rfl) (by kernel_rfl) (fun _ _ _ h => h) (Or.inl ⟨by rfl, ?y193⟩) (by assumption) ?z193
  case y193 => (intro w hSw; (try dsimp only at hSw); go_simp) <;> with_reducible rfl
  try simp only [Act.put, List.setIfInBounds_toArray, List.set_cons_zero, List.set_cons_succ]
  refine wpAnyH_take (i := 9) (oi := { dst := some 46, op := Go.Op.move (Go.Operand.tmp 13), type := 3, pos := "law.go:132", after := #[{ on := 7, ground := Go.Ground.guard }], guard := some (7, true) }) (v := ?v194) rfl (by kernel_rfl) (by kernel_rfl) (by kernel_rfl) (fun _ _ _ h => h) (Or.inl ⟨by rfl, ?y194⟩) (by assumption) ?z194
  case y194 => (intro w hSw; (try dsimp only at hSw); go_simp) <;> with_reducible rfl
  try simp only [Act.put, List.setIfInBounds_toArray, List.set_cons_zero, List.set_cons_succ]
  refine wpAnyH_take (i := 11) (oi := { dst := some 48, op := Go.Op.load 27 (Go.Operand.tmp 9), type := 27, pos := "law.go:132", after := #[{ on := 7, ground := Go.Ground.guard }], guard := some (7, true) }) (v := ?v195) rfl (by kernel_rfl) (by kernel_rfl) (by kernel_rfl) (fun _ _ _ h => h) (Or.inl ⟨by rfl, ?y195⟩) (by assumption) ?z195
  case y195 => (intro w hSw; (try dsimp only at hSw); go_simp) <;> with_reducible rfl
  try simp only [Act.put, List.setIfInBounds_toArray, List.set_cons_zero, List.set_cons_succ]
  refine wpAnyH_take (i := 12) (oi := { dst := some 49, op := Go.Op.move (Go.Operand.tmp 13), type := 3, pos := "law.go:132", after := #[{ on := 7, ground := Go.Ground.guard }], guard := some (7, true) }) (v := ?v196) rfl (by kernel_rfl) (by kernel_rfl) (by kernel_rfl) (fun _ _ _ h => h) (Or.inl ⟨by rfl, ?y196⟩) (by assumption) ?z196
  case y196 => (intro w hSw; (try dsimp only at hSw); go_simp) <;> with_reducible rfl
  try simp only [Act.put, List.setIfInBounds_toArray, List.set_cons_zero, List.set_cons_succ]
  refine wpAnyH_ready (rs := [10]) (by kernel_rfl) (by simp) ?_
  refine (AllReadyH.cons (o := { dst := some 47, op := Go.Op.call { callee := Go.Callee.value (Go.Operand.func 14), args := #[Go.Operand.tmp 45, Go.Operand.tmp 46], argTypes := #[27, 3] }, type := 5, pos := "law.go:132", after := #[{ on := 8, ground := Go.Ground.data }, { on := 9, ground := Go.Ground.data }, { on := 7, ground := Go.Ground.chain }, { on := 7, ground := Go.Ground.guard }], guard := some (7, true) }) rfl (fun K hK => ?_) AllReadyH.nil)
  · skip
    go_simp
    with_reducible refine (HA0.out _).mono ?_
    rintro q_ w7 ⟨rfl, hb⟩
    have B7 := Lib.hid (vian HN.out B6.out hb)
    have T7 := Lib.hid (T6.out.below hb)
    have U7 := Lib.hid (U6.out.below hb)
    clear hb B6 T6 U6
    refine hK.out _ _ ?s197 (fun hNew => ?r197)
    case s197 => exact ⟨T7.out.2.1, U7.out.2.1⟩
    clear hK K hHeld
    have hHeld := hNew
    clear hNew
    refine wpAnyH_ready (rs := [13]) (by kernel_rfl) (by simp) ?_
    refine (AllReadyH.cons (o := { dst := some 50, op := Go.Op.call { callee := Go.Callee.value (Go.Operand.func 14), args := #[Go.Operand.tmp 48, Go.Operand.tmp 49], argTypes := #[27, 3] }, type := 5, pos := "law.go:132", after := #[{ on := 11, ground := Go.Ground.data }, { on := 12, ground := Go.Ground.data }, { on := 10, ground := Go.Ground.chain }, { on := 7, ground := Go.Ground.guard }], guard := some (7, true) }) rfl (fun K hK => ?_) AllReadyH.nil)
    · skip
      go_simp
      with_reducible refine (HT0.out _).mono ?_
      rintro q_ w8 ⟨rfl, hb⟩
      have B8 := Lib.hid (vian HN.out B7.out hb)
      have T8 := Lib.hid (T7.out.below hb)
      have U8 := Lib.hid (U7.out.below hb)
      clear hb B7 T7 U7
      refine hK.out _ _ ?s198 (fun hNew => ?r198)
      case s198 => exact ⟨T8.out.2.1, U8.out.2.1⟩
      clear hK K hHeld
      have hHeld := hNew
      clear hNew
      refine wpAnyH_take (i := 14) (oi := { dst := some 51, op := Go.Op.binOp Go.BinOp.neq 5 (Go.Operand.tmp 47) (Go.Operand.tmp 50) 5, type := 4, pos := "law.go:132", after := #[{ on := 10, ground := Go.Ground.data }, { on := 13, ground := Go.Ground.data }, { on := 7, ground := Go.Ground.guard }], guard := some (7, true) }) (v := ?v199) rfl (by kernel_rfl) (by kernel_rfl) (by kernel_rfl) (fun _ _ _ h => h) (Or.inl ⟨by rfl, ?y199⟩) (by assumption) ?z199
      case y199 => (intro w hSw; (try dsimp only at hSw); go_simp) <;> with_reducible rfl
      try simp only [Act.put, List.setIfInBounds_toArray, List.set_cons_zero, List.set_cons_succ]
      refine wpAnyH_take (i := 15) (oi := { dst := some 52, op := Go.Op.pick (Go.Operand.tmp 44) (Go.Operand.tmp 51) (Go.Operand.const (Go.Value.bool false)), type := 4, pos := "law.go:132", after := #[{ on := 7, ground := Go.Ground.data }, { on := 14, ground := Go.Ground.data }], guard := none }) (v := ?v200) rfl (by kernel_rfl) (by kernel_rfl) (by kernel_rfl) (fun _ _ _ h => h) (Or.inl ⟨by rfl, ?y200⟩) (by assumption) ?z200
      case y200 => (intro w hSw; (try dsimp only at hSw); go_simp) <;> with_reducible rfl
      try simp only [Act.put, List.setIfInBounds_toArray, List.set_cons_zero, List.set_cons_succ]
      refine wpAnyH_done (by kernel_rfl) ?_ _
      clear hHeld
      go_wp2
      rw [rounds_succ]
      go_upto_region 13 with (fail)
      have B9 := Lib.hid B8.out.drew
      have T9 := Lib.hid T8.out.drew
      have U9 := Lib.hid U8.out.drew
      refine wp_region_held_drew (S := (fun w' => (∀ o_, w'.cell? ⟨tb, o_, none⟩ = #[.int .u16 c, .int .u8 a, .int .u8 m, .int .u8 kk, .bool o][o_]?) ∧ (∀ o_, w'.cell? ⟨ub, o_, none⟩ = #[.int .u16 RA.c, .int .u8 RA.a, .int .u8 RA.m, .int .u8 RA.k, .bool RA.o][o_]?))) (by kernel_rfl) ⟨T9.out.2.1, U9.out.2.1⟩ (fun hHeld => ?_)
      generalize World.drew w8 = w9 at hHeld B9 T9 U9 ⊢
      clear B8 T8 U8
      refine wpAnyH_take (i := 0) (oi := { dst := some 37, op := Go.Op.move (Go.Operand.tmp 13), type := 3, pos := "law.go:132", after := #[], guard := none }) (v := ?v201) rfl (by kernel_rfl) (by kernel_rfl) (by kernel_rfl) (fun _ _ _ h => h) (Or.inl ⟨by rfl, ?y201⟩) (by assumption) ?z201
      case y201 => (intro w hSw; (try dsimp only at hSw); go_simp) <;> with_reducible rfl
      try simp only [Act.put, List.setIfInBounds_toArray, List.set_cons_zero, List.set_cons_succ]
      refine wpAnyH_take (i := 1) (oi := { dst := some 38, op := Go.Op.move (Go.Operand.tmp 10), type := 3, pos := "law.go:132", after := #[], guard := none }) (v := ?v202) rfl (by kernel_rfl) (by kernel_rfl) (by kernel_rfl) (fun _ _ _ h => h) (Or.inl ⟨by rfl, ?y202⟩) (by assumption) ?z202
      case y202 => (intro w hSw; (try dsimp only at hSw); go_simp) <;> with_reducible rfl
      try simp only [Act.put, List.setIfInBounds_toArray, List.set_cons_zero, List.set_cons_succ]
      refine wpAnyH_take (i := 2) (oi := { dst := some 39, op := Go.Op.binOp Go.BinOp.neq 3 (Go.Operand.tmp 37) (Go.Operand.tmp 38) 3, type := 4, pos := "law.go:132", after := #[{ on := 0, ground := Go.Ground.data }, { on := 1, ground := Go.Ground.data }], guard := none }) (v := ?v203) rfl (by kernel_rfl) (by kernel_rfl) (by kernel_rfl) (fun _ _ _ h => h) (Or.inl ⟨by rfl, ?y203⟩) (by assumption) ?z203
      case y203 => (intro w hSw; (try dsimp only at hSw); go_simp) <;> with_reducible rfl
      try simp only [Act.put, List.setIfInBounds_toArray, List.set_cons_zero, List.set_cons_succ]
      refine wpAnyH_take (i := 3) (oi := { dst := some 40, op := Go.Op.move (Go.Operand.tmp 39), type := 4, pos := "law.go:132", after := #[{ on := 2, ground := Go.Ground.data }], guard := none }) (v := ?v204) rfl (by kernel_rfl) (by kernel_rfl) (by kernel_rfl) (fun _ _ _ h => h) (Or.inl ⟨by rfl, ?y204⟩) (by assumption) ?z204
      case y204 => (intro w hSw; (try dsimp only at hSw); go_simp) <;> with_reducible rfl
      try simp only [Act.put, List.setIfInBounds_toArray, List.set_cons_zero, List.set_cons_succ]
      refine wpAnyH_take (i := 4) (oi := { dst := some 41, op := Go.Op.move (Go.Operand.tmp 13), type := 3, pos := "law.go:132", after := #[{ on := 3, ground := Go.Ground.guard }], guard := some (3, true) }) (v := ?v205) rfl (by kernel_rfl) (by kernel_rfl) (by kernel_rfl) (fun _ _ _ h => h) (Or.inl ⟨by rfl, ?y205⟩) (by assumption) ?z205
      case y205 => (intro w hSw; (try dsimp only at hSw); go_simp) <;> with_reducible rfl
      try simp only [Act.put, List.setIfInBounds_toArray, List.set_cons_zero, List.set_cons_succ]
      refine wpAnyH_take (i := 5) (oi := { dst := some 42, op := Go.Op.binOp Go.BinOp.neq 3 (Go.Operand.tmp 41) (Go.Operand.const (Go.Value.int Go.IntKind.i64 1)) 3, type := 4, pos := "law.go:132", after := #[{ on := 4, ground := Go.Ground.data }, { on := 3, ground := Go.Ground.guard }], guard := some (3, true) }) (v := ?v206) rfl (by kernel_rfl) (by kernel_rfl) (by kernel_rfl) (fun _ _ _ h => h) (Or.inl ⟨by rfl, ?y206⟩) (by assumption) ?z206
      case y206 => (intro w hSw; (try dsimp only at hSw); go_simp) <;> with_reducible rfl
      try simp only [Act.put, List.setIfInBounds_toArray, List.set_cons_zero, List.set_cons_succ]
      refine wpAnyH_take (i := 6) (oi := { dst := some 43, op := Go.Op.pick (Go.Operand.tmp 40) (Go.Operand.tmp 42) (Go.Operand.const (Go.Value.bool false)), type := 4, pos := "law.go:132", after := #[{ on := 3, ground := Go.Ground.data }, { on := 5, ground := Go.Ground.data }], guard := none }) (v := ?v207) rfl (by kernel_rfl) (by kernel_rfl) (by kernel_rfl) (fun _ _ _ h => h) (Or.inl ⟨by rfl, ?y207⟩) (by assumption) ?z207
      case y207 => (intro w hSw; (try dsimp only at hSw); go_simp) <;> with_reducible rfl
      try simp only [Act.put, List.setIfInBounds_toArray, List.set_cons_zero, List.set_cons_succ]
      refine wpAnyH_take (i := 7) (oi := { dst := some 44, op := Go.Op.move (Go.Operand.tmp 43), type := 4, pos := "law.go:132", after := #[{ on := 6, ground := Go.Ground.data }, { on := 3, ground := Go.Ground.chain }], guard := none }) (v := ?v208) rfl (by kernel_rfl) (by kernel_rfl) (by kernel_rfl) (fun _ _ _ h => h) (Or.inl ⟨by rfl, ?y208⟩) (by assumption) ?z208
      case y208 => (intro w hSw; (try dsimp only at hSw); go_simp) <;> with_reducible rfl
      try simp only [Act.put, List.setIfInBounds_toArray, List.set_cons_zero, List.set_cons_succ]
      refine wpAnyH_take (i := 8) (oi := { dst := some 45, op := Go.Op.load 27 (Go.Operand.tmp 11), type := 27, pos := "law.go:132", after := #[{ on := 7, ground := Go.Ground.guard }], guard := some (7, true) }) (v := undef) rfl (by kernel_rfl) (by kernel_rfl) (by kernel_rfl) (fun _ _ _ h => h) (Or.inr ⟨by rfl, rfl⟩) (by assumption) ?_
      try simp only [Act.put, List.setIfInBounds_toArray, List.set_cons_zero, List.set_cons_succ]
      refine wpAnyH_take (i := 9) (oi := { dst := some 46, op := Go.Op.move (Go.Operand.tmp 13), type := 3, pos := "law.go:132", after := #[{ on := 7, ground := Go.Ground.guard }], guard := some (7, true) }) (v := undef) rfl (by kernel_rfl) (by kernel_rfl) (by kernel_rfl) (fun _ _ _ h => h) (Or.inr ⟨by rfl, rfl⟩) (by assumption) ?_
      try simp only [Act.put, List.setIfInBounds_toArray, List.set_cons_zero, List.set_cons_succ]
      refine wpAnyH_take (i := 10) (oi := { dst := some 47, op := Go.Op.call { callee := Go.Callee.value (Go.Operand.func 14), args := #[Go.Operand.tmp 45, Go.Operand.tmp 46], argTypes := #[27, 3] }, type := 5, pos := "law.go:132", after := #[{ on := 8, ground := Go.Ground.data }, { on := 9, ground := Go.Ground.data }, { on := 7, ground := Go.Ground.chain }, { on := 7, ground := Go.Ground.guard }], guard := some (7, true) }) (v := undef) rfl (by kernel_rfl) (by kernel_rfl) (by kernel_rfl) (fun _ _ _ h => h) (Or.inr ⟨by rfl, rfl⟩) (by assumption) ?_
      try simp only [Act.put, List.setIfInBounds_toArray, List.set_cons_zero, List.set_cons_succ]
      refine wpAnyH_take (i := 11) (oi := { dst := some 48, op := Go.Op.load 27 (Go.Operand.tmp 9), type := 27, pos := "law.go:132", after := #[{ on := 7, ground := Go.Ground.guard }], guard := some (7, true) }) (v := undef) rfl (by kernel_rfl) (by kernel_rfl) (by kernel_rfl) (fun _ _ _ h => h) (Or.inr ⟨by rfl, rfl⟩) (by assumption) ?_
      try simp only [Act.put, List.setIfInBounds_toArray, List.set_cons_zero, List.set_cons_succ]
      refine wpAnyH_take (i := 12) (oi := { dst := some 49, op := Go.Op.move (Go.Operand.tmp 13), type := 3, pos := "law.go:132", after := #[{ on := 7, ground := Go.Ground.guard }], guard := some (7, true) }) (v := undef) rfl (by kernel_rfl) (by kernel_rfl) (by kernel_rfl) (fun _ _ _ h => h) (Or.inr ⟨by rfl, rfl⟩) (by assumption) ?_
      try simp only [Act.put, List.setIfInBounds_toArray, List.set_cons_zero, List.set_cons_succ]
      refine wpAnyH_take (i := 13) (oi := { dst := some 50, op := Go.Op.call { callee := Go.Callee.value (Go.Operand.func 14), args := #[Go.Operand.tmp 48, Go.Operand.tmp 49], argTypes := #[27, 3] }, type := 5, pos := "law.go:132", after := #[{ on := 11, ground := Go.Ground.data }, { on := 12, ground := Go.Ground.data }, { on := 10, ground := Go.Ground.chain }, { on := 7, ground := Go.Ground.guard }], guard := some (7, true) }) (v := undef) rfl (by kernel_rfl) (by kernel_rfl) (by kernel_rfl) (fun _ _ _ h => h) (Or.inr ⟨by rfl, rfl⟩) (by assumption) ?_
      try simp only [Act.put, List.setIfInBounds_toArray, List.set_cons_zero, List.set_cons_succ]
      refine wpAnyH_take (i := 14) (oi := { dst := some 51, op := Go.Op.binOp Go.BinOp.neq 5 (Go.Operand.tmp 47) (Go.Operand.tmp 50) 5, type := 4, pos := "law.go:132", after := #[{ on := 10, ground := Go.Ground.data }, { on := 13, ground := Go.Ground.data }, { on := 7, ground := Go.Ground.guard }], guard := some (7, true) }) (v := undef) rfl (by kernel_rfl) (by kernel_rfl) (by kernel_rfl) (fun _ _ _ h => h) (Or.inr ⟨by rfl, rfl⟩) (by assumption) ?_
      try simp only [Act.put, List.setIfInBounds_toArray, List.set_cons_zero, List.set_cons_succ]
      refine wpAnyH_take (i := 15) (oi := { dst := some 52, op := Go.Op.pick (Go.Operand.tmp 44) (Go.Operand.tmp 51) (Go.Operand.const (Go.Value.bool false)), type := 4, pos := "law.go:132", after := #[{ on := 7, ground := Go.Ground.data }, { on := 14, ground := Go.Ground.data }], guard := none }) (v := ?v216) rfl (by kernel_rfl) (by kernel_rfl) (by kernel_rfl) (fun _ _ _ h => h) (Or.inl ⟨by rfl, ?y216⟩) (by assumption) ?z216
      case y216 => (intro w hSw; (try dsimp only at hSw); go_simp) <;> with_reducible rfl
      try simp only [Act.put, List.setIfInBounds_toArray, List.set_cons_zero, List.set_cons_succ]
      refine wpAnyH_done (by kernel_rfl) ?_ _
      clear hHeld
      go_wp2
      rw [rounds_succ]
      go_upto_region 13 with (fail)
      have B10 := Lib.hid B9.out.drew
      have T10 := Lib.hid T9.out.drew
      have U10 := Lib.hid U9.out.drew
      refine wp_region_held_drew (S := (fun w' => (∀ o_, w'.cell? ⟨tb, o_, none⟩ = #[.int .u16 c, .int .u8 a, .int .u8 m, .int .u8 kk, .bool o][o_]?) ∧ (∀ o_, w'.cell? ⟨ub, o_, none⟩ = #[.int .u16 RA.c, .int .u8 RA.a, .int .u8 RA.m, .int .u8 RA.k, .bool RA.o][o_]?))) (by kernel_rfl) ⟨T10.out.2.1, U10.out.2.1⟩ (fun hHeld => ?_)
      generalize World.drew w9 = w10 at hHeld B10 T10 U10 ⊢
      clear B9 T9 U9
      refine wpAnyH_take (i := 0) (oi := { dst := some 37, op := Go.Op.move (Go.Operand.tmp 13), type := 3, pos := "law.go:132", after := #[], guard := none }) (v := ?v217) rfl (by kernel_rfl) (by kernel_rfl) (by kernel_rfl) (fun _ _ _ h => h) (Or.inl ⟨by rfl, ?y217⟩) (by assumption) ?z217
      case y217 => (intro w hSw; (try dsimp only at hSw); go_simp) <;> with_reducible rfl
      try simp only [Act.put, List.setIfInBounds_toArray, List.set_cons_zero, List.set_cons_succ]
      refine wpAnyH_take (i := 1) (oi := { dst := some 38, op := Go.Op.move (Go.Operand.tmp 10), type := 3, pos := "law.go:132", after := #[], guard := none }) (v := ?v218) rfl (by kernel_rfl) (by kernel_rfl) (by kernel_rfl) (fun _ _ _ h => h) (Or.inl ⟨by rfl, ?y218⟩) (by assumption) ?z218
      case y218 => (intro w hSw; (try dsimp only at hSw); go_simp) <;> with_reducible rfl
      try simp only [Act.put, List.setIfInBounds_toArray, List.set_cons_zero, List.set_cons_succ]
      refine wpAnyH_take (i := 2) (oi := { dst := some 39, op := Go.Op.binOp Go.BinOp.neq 3 (Go.Operand.tmp 37) (Go.Operand.tmp 38) 3, type := 4, pos := "law.go:132", after := #[{ on := 0, ground := Go.Ground.data }, { on := 1, ground := Go.Ground.data }], guard := none }) (v := ?v219) rfl (by kernel_rfl) (by kernel_rfl) (by kernel_rfl) (fun _ _ _ h => h) (Or.inl ⟨by rfl, ?y219⟩) (by assumption) ?z219
      case y219 => (intro w hSw; (try dsimp only at hSw); go_simp) <;> with_reducible rfl
      try simp only [Act.put, List.setIfInBounds_toArray, List.set_cons_zero, List.set_cons_succ]
      refine wpAnyH_take (i := 3) (oi := { dst := some 40, op := Go.Op.move (Go.Operand.tmp 39), type := 4, pos := "law.go:132", after := #[{ on := 2, ground := Go.Ground.data }], guard := none }) (v := ?v220) rfl (by kernel_rfl) (by kernel_rfl) (by kernel_rfl) (fun _ _ _ h => h) (Or.inl ⟨by rfl, ?y220⟩) (by assumption) ?z220
      case y220 => (intro w hSw; (try dsimp only at hSw); go_simp) <;> with_reducible rfl
      try simp only [Act.put, List.setIfInBounds_toArray, List.set_cons_zero, List.set_cons_succ]
      refine wpAnyH_take (i := 4) (oi := { dst := some 41, op := Go.Op.move (Go.Operand.tmp 13), type := 3, pos := "law.go:132", after := #[{ on := 3, ground := Go.Ground.guard }], guard := some (3, true) }) (v := undef) rfl (by kernel_rfl) (by kernel_rfl) (by kernel_rfl) (fun _ _ _ h => h) (Or.inr ⟨by rfl, rfl⟩) (by assumption) ?_
      try simp only [Act.put, List.setIfInBounds_toArray, List.set_cons_zero, List.set_cons_succ]
      refine wpAnyH_take (i := 5) (oi := { dst := some 42, op := Go.Op.binOp Go.BinOp.neq 3 (Go.Operand.tmp 41) (Go.Operand.const (Go.Value.int Go.IntKind.i64 1)) 3, type := 4, pos := "law.go:132", after := #[{ on := 4, ground := Go.Ground.data }, { on := 3, ground := Go.Ground.guard }], guard := some (3, true) }) (v := undef) rfl (by kernel_rfl) (by kernel_rfl) (by kernel_rfl) (fun _ _ _ h => h) (Or.inr ⟨by rfl, rfl⟩) (by assumption) ?_
      try simp only [Act.put, List.setIfInBounds_toArray, List.set_cons_zero, List.set_cons_succ]
      refine wpAnyH_take (i := 6) (oi := { dst := some 43, op := Go.Op.pick (Go.Operand.tmp 40) (Go.Operand.tmp 42) (Go.Operand.const (Go.Value.bool false)), type := 4, pos := "law.go:132", after := #[{ on := 3, ground := Go.Ground.data }, { on := 5, ground := Go.Ground.data }], guard := none }) (v := ?v223) rfl (by kernel_rfl) (by kernel_rfl) (by kernel_rfl) (fun _ _ _ h => h) (Or.inl ⟨by rfl, ?y223⟩) (by assumption) ?z223
      case y223 => (intro w hSw; (try dsimp only at hSw); go_simp) <;> with_reducible rfl
      try simp only [Act.put, List.setIfInBounds_toArray, List.set_cons_zero, List.set_cons_succ]
      refine wpAnyH_take (i := 7) (oi := { dst := some 44, op := Go.Op.move (Go.Operand.tmp 43), type := 4, pos := "law.go:132", after := #[{ on := 6, ground := Go.Ground.data }, { on := 3, ground := Go.Ground.chain }], guard := none }) (v := ?v224) rfl (by kernel_rfl) (by kernel_rfl) (by kernel_rfl) (fun _ _ _ h => h) (Or.inl ⟨by rfl, ?y224⟩) (by assumption) ?z224
      case y224 => (intro w hSw; (try dsimp only at hSw); go_simp) <;> with_reducible rfl
      try simp only [Act.put, List.setIfInBounds_toArray, List.set_cons_zero, List.set_cons_succ]
      refine wpAnyH_take (i := 8) (oi := { dst := some 45, op := Go.Op.load 27 (Go.Operand.tmp 11), type := 27, pos := "law.go:132", after := #[{ on := 7, ground := Go.Ground.guard }], guard := some (7, true) }) (v := undef) rfl (by kernel_rfl) (by kernel_rfl) (by kernel_rfl) (fun _ _ _ h => h) (Or.inr ⟨by rfl, rfl⟩) (by assumption) ?_
      try simp only [Act.put, List.setIfInBounds_toArray, List.set_cons_zero, List.set_cons_succ]
      refine wpAnyH_take (i := 9) (oi := { dst := some 46, op := Go.Op.move (Go.Operand.tmp 13), type := 3, pos := "law.go:132", after := #[{ on := 7, ground := Go.Ground.guard }], guard := some (7, true) }) (v := undef) rfl (by kernel_rfl) (by kernel_rfl) (by kernel_rfl) (fun _ _ _ h => h) (Or.inr ⟨by rfl, rfl⟩) (by assumption) ?_
      try simp only [Act.put, List.setIfInBounds_toArray, List.set_cons_zero, List.set_cons_succ]
      refine wpAnyH_take (i := 10) (oi := { dst := some 47, op := Go.Op.call { callee := Go.Callee.value (Go.Operand.func 14), args := #[Go.Operand.tmp 45, Go.Operand.tmp 46], argTypes := #[27, 3] }, type := 5, pos := "law.go:132", after := #[{ on := 8, ground := Go.Ground.data }, { on := 9, ground := Go.Ground.data }, { on := 7, ground := Go.Ground.chain }, { on := 7, ground := Go.Ground.guard }], guard := some (7, true) }) (v := undef) rfl (by kernel_rfl) (by kernel_rfl) (by kernel_rfl) (fun _ _ _ h => h) (Or.inr ⟨by rfl, rfl⟩) (by assumption) ?_
      try simp only [Act.put, List.setIfInBounds_toArray, List.set_cons_zero, List.set_cons_succ]
      refine wpAnyH_take (i := 11) (oi := { dst := some 48, op := Go.Op.load 27 (Go.Operand.tmp 9), type := 27, pos := "law.go:132", after := #[{ on := 7, ground := Go.Ground.guard }], guard := some (7, true) }) (v := undef) rfl (by kernel_rfl) (by kernel_rfl) (by kernel_rfl) (fun _ _ _ h => h) (Or.inr ⟨by rfl, rfl⟩) (by assumption) ?_
      try simp only [Act.put, List.setIfInBounds_toArray, List.set_cons_zero, List.set_cons_succ]
      refine wpAnyH_take (i := 12) (oi := { dst := some 49, op := Go.Op.move (Go.Operand.tmp 13), type := 3, pos := "law.go:132", after := #[{ on := 7, ground := Go.Ground.guard }], guard := some (7, true) }) (v := undef) rfl (by kernel_rfl) (by kernel_rfl) (by kernel_rfl) (fun _ _ _ h => h) (Or.inr ⟨by rfl, rfl⟩) (by assumption) ?_
      try simp only [Act.put, List.setIfInBounds_toArray, List.set_cons_zero, List.set_cons_succ]
      refine wpAnyH_take (i := 13) (oi := { dst := some 50, op := Go.Op.call { callee := Go.Callee.value (Go.Operand.func 14), args := #[Go.Operand.tmp 48, Go.Operand.tmp 49], argTypes := #[27, 3] }, type := 5, pos := "law.go:132", after := #[{ on := 11, ground := Go.Ground.data }, { on := 12, ground := Go.Ground.data }, { on := 10, ground := Go.Ground.chain }, { on := 7, ground := Go.Ground.guard }], guard := some (7, true) }) (v := undef) rfl (by kernel_rfl) (by kernel_rfl) (by kernel_rfl) (fun _ _ _ h => h) (Or.inr ⟨by rfl, rfl⟩) (by assumption) ?_
      try simp only [Act.put, List.setIfInBounds_toArray, List.set_cons_zero, List.set_cons_succ]
      refine wpAnyH_take (i := 14) (oi := { dst := some 51, op := Go.Op.binOp Go.BinOp.neq 5 (Go.Operand.tmp 47) (Go.Operand.tmp 50) 5, type := 4, pos := "law.go:132", after := #[{ on := 10, ground := Go.Ground.data }, { on := 13, ground := Go.Ground.data }, { on := 7, ground := Go.Ground.guard }], guard := some (7, true) }) (v := undef) rfl (by kernel_rfl) (by kernel_rfl) (by kernel_rfl) (fun _ _ _ h => h) (Or.inr ⟨by rfl, rfl⟩) (by assumption) ?_
      try simp only [Act.put, List.setIfInBounds_toArray, List.set_cons_zero, List.set_cons_succ]
      refine wpAnyH_take (i := 15) (oi := { dst := some 52, op := Go.Op.pick (Go.Operand.tmp 44) (Go.Operand.tmp 51) (Go.Operand.const (Go.Value.bool false)), type := 4, pos := "law.go:132", after := #[{ on := 7, ground := Go.Ground.data }, { on := 14, ground := Go.Ground.data }], guard := none }) (v := ?v232) rfl (by kernel_rfl) (by kernel_rfl) (by kernel_rfl) (fun _ _ _ h => h) (Or.inl ⟨by rfl, ?y232⟩) (by assumption) ?z232
      case y232 => (intro w hSw; (try dsimp only at hSw); go_simp) <;> with_reducible rfl
      try simp only [Act.put, List.setIfInBounds_toArray, List.set_cons_zero, List.set_cons_succ]
      refine wpAnyH_done (by kernel_rfl) ?_ _
      clear hHeld
      go_wp2
      rw [rounds_succ]
      go_upto_region 13 with (fail)
      have B11 := Lib.hid B10.out.drew
      have T11 := Lib.hid T10.out.drew
      have U11 := Lib.hid U10.out.drew
      refine wp_region_held_drew (S := (fun w' => (∀ o_, w'.cell? ⟨tb, o_, none⟩ = #[.int .u16 c, .int .u8 a, .int .u8 m, .int .u8 kk, .bool o][o_]?) ∧ (∀ o_, w'.cell? ⟨ub, o_, none⟩ = #[.int .u16 RA.c, .int .u8 RA.a, .int .u8 RA.m, .int .u8 RA.k, .bool RA.o][o_]?))) (by kernel_rfl) ⟨T11.out.2.1, U11.out.2.1⟩ (fun hHeld => ?_)
      generalize World.drew w10 = w11 at hHeld B11 T11 U11 ⊢
      clear B10 T10 U10
      refine wpAnyH_take (i := 0) (oi := { dst := some 37, op := Go.Op.move (Go.Operand.tmp 13), type := 3, pos := "law.go:132", after := #[], guard := none }) (v := ?v233) rfl (by kernel_rfl) (by kernel_rfl) (by kernel_rfl) (fun _ _ _ h => h) (Or.inl ⟨by rfl, ?y233⟩) (by assumption) ?z233
      case y233 => (intro w hSw; (try dsimp only at hSw); go_simp) <;> with_reducible rfl
      try simp only [Act.put, List.setIfInBounds_toArray, List.set_cons_zero, List.set_cons_succ]
      refine wpAnyH_take (i := 1) (oi := { dst := some 38, op := Go.Op.move (Go.Operand.tmp 10), type := 3, pos := "law.go:132", after := #[], guard := none }) (v := ?v234) rfl (by kernel_rfl) (by kernel_rfl) (by kernel_rfl) (fun _ _ _ h => h) (Or.inl ⟨by rfl, ?y234⟩) (by assumption) ?z234
      case y234 => (intro w hSw; (try dsimp only at hSw); go_simp) <;> with_reducible rfl
      try simp only [Act.put, List.setIfInBounds_toArray, List.set_cons_zero, List.set_cons_succ]
      refine wpAnyH_take (i := 2) (oi := { dst := some 39, op := Go.Op.binOp Go.BinOp.neq 3 (Go.Operand.tmp 37) (Go.Operand.tmp 38) 3, type := 4, pos := "law.go:132", after := #[{ on := 0, ground := Go.Ground.data }, { on := 1, ground := Go.Ground.data }], guard := none }) (v := ?v235) rfl (by kernel_rfl) (by kernel_rfl) (by kernel_rfl) (fun _ _ _ h => h) (Or.inl ⟨by rfl, ?y235⟩) (by assumption) ?z235
      case y235 => (intro w hSw; (try dsimp only at hSw); go_simp) <;> with_reducible rfl
      try simp only [Act.put, List.setIfInBounds_toArray, List.set_cons_zero, List.set_cons_succ]
      refine wpAnyH_take (i := 3) (oi := { dst := some 40, op := Go.Op.move (Go.Operand.tmp 39), type := 4, pos := "law.go:132", after := #[{ on := 2, ground := Go.Ground.data }], guard := none }) (v := ?v236) rfl (by kernel_rfl) (by kernel_rfl) (by kernel_rfl) (fun _ _ _ h => h) (Or.inl ⟨by rfl, ?y236⟩) (by assumption) ?z236
      case y236 => (intro w hSw; (try dsimp only at hSw); go_simp) <;> with_reducible rfl
      try simp only [Act.put, List.setIfInBounds_toArray, List.set_cons_zero, List.set_cons_succ]
      refine wpAnyH_take (i := 4) (oi := { dst := some 41, op := Go.Op.move (Go.Operand.tmp 13), type := 3, pos := "law.go:132", after := #[{ on := 3, ground := Go.Ground.guard }], guard := some (3, true) }) (v := ?v237) rfl (by kernel_rfl) (by kernel_rfl) (by kernel_rfl) (fun _ _ _ h => h) (Or.inl ⟨by rfl, ?y237⟩) (by assumption) ?z237
      case y237 => (intro w hSw; (try dsimp only at hSw); go_simp) <;> with_reducible rfl
      try simp only [Act.put, List.setIfInBounds_toArray, List.set_cons_zero, List.set_cons_succ]
      refine wpAnyH_take (i := 5) (oi := { dst := some 42, op := Go.Op.binOp Go.BinOp.neq 3 (Go.Operand.tmp 41) (Go.Operand.const (Go.Value.int Go.IntKind.i64 1)) 3, type := 4, pos := "law.go:132", after := #[{ on := 4, ground := Go.Ground.data }, { on := 3, ground := Go.Ground.guard }], guard := some (3, true) }) (v := ?v238) rfl (by kernel_rfl) (by kernel_rfl) (by kernel_rfl) (fun _ _ _ h => h) (Or.inl ⟨by rfl, ?y238⟩) (by assumption) ?z238
      case y238 => (intro w hSw; (try dsimp only at hSw); go_simp) <;> with_reducible rfl
      try simp only [Act.put, List.setIfInBounds_toArray, List.set_cons_zero, List.set_cons_succ]
      refine wpAnyH_take (i := 6) (oi := { dst := some 43, op := Go.Op.pick (Go.Operand.tmp 40) (Go.Operand.tmp 42) (Go.Operand.const (Go.Value.bool false)), type := 4, pos := "law.go:132", after := #[{ on := 3, ground := Go.Ground.data }, { on := 5, ground := Go.Ground.data }], guard := none }) (v := ?v239) rfl (by kernel_rfl) (by kernel_rfl) (by kernel_rfl) (fun _ _ _ h => h) (Or.inl ⟨by rfl, ?y239⟩) (by assumption) ?z239
      case y239 => (intro w hSw; (try dsimp only at hSw); go_simp) <;> with_reducible rfl
      try simp only [Act.put, List.setIfInBounds_toArray, List.set_cons_zero, List.set_cons_succ]
      refine wpAnyH_take (i := 7) (oi := { dst := some 44, op := Go.Op.move (Go.Operand.tmp 43), type := 4, pos := "law.go:132", after := #[{ on := 6, ground := Go.Ground.data }, { on := 3, ground := Go.Ground.chain }], guard := none }) (v := ?v240) rfl (by kernel_rfl) (by kernel_rfl) (by kernel_rfl) (fun _ _ _ h => h) (Or.inl ⟨by rfl, ?y240⟩) (by assumption) ?z240
      case y240 => (intro w hSw; (try dsimp only at hSw); go_simp) <;> with_reducible rfl
      try simp only [Act.put, List.setIfInBounds_toArray, List.set_cons_zero, List.set_cons_succ]
      refine wpAnyH_take (i := 8) (oi := { dst := some 45, op := Go.Op.load 27 (Go.Operand.tmp 11), type := 27, pos := "law.go:132", after := #[{ on := 7, ground := Go.Ground.guard }], guard := some (7, true) }) (v := ?v241) rfl (by kernel_rfl) (by kernel_rfl) (by kernel_rfl) (fun _ _ _ h => h) (Or.inl ⟨by rfl, ?y241⟩) (by assumption) ?z241
      case y241 => (intro w hSw; (try dsimp only at hSw); go_simp) <;> with_reducible rfl
      try simp only [Act.put, List.setIfInBounds_toArray, List.set_cons_zero, List.set_cons_succ]
      refine wpAnyH_take (i := 9) (oi := { dst := some 46, op := Go.Op.move (Go.Operand.tmp 13), type := 3, pos := "law.go:132", after := #[{ on := 7, ground := Go.Ground.guard }], guard := some (7, true) }) (v := ?v242) rfl (by kernel_rfl) (by kernel_rfl) (by kernel_rfl) (fun _ _ _ h => h) (Or.inl ⟨by rfl, ?y242⟩) (by assumption) ?z242
      case y242 => (intro w hSw; (try dsimp only at hSw); go_simp) <;> with_reducible rfl
      try simp only [Act.put, List.setIfInBounds_toArray, List.set_cons_zero, List.set_cons_succ]
      refine wpAnyH_take (i := 11) (oi := { dst := some 48, op := Go.Op.load 27 (Go.Operand.tmp 9), type := 27, pos := "law.go:132", after := #[{ on := 7, ground := Go.Ground.guard }], guard := some (7, true) }) (v := ?v243) rfl (by kernel_rfl) (by kernel_rfl) (by kernel_rfl) (fun _ _ _ h => h) (Or.inl ⟨by rfl, ?y243⟩) (by assumption) ?z243
      case y243 => (intro w hSw; (try dsimp only at hSw); go_simp) <;> with_reducible rfl
      try simp only [Act.put, List.setIfInBounds_toArray, List.set_cons_zero, List.set_cons_succ]
      refine wpAnyH_take (i := 12) (oi := { dst := some 49, op := Go.Op.move (Go.Operand.tmp 13), type := 3, pos := "law.go:132", after := #[{ on := 7, ground := Go.Ground.guard }], guard := some (7, true) }) (v := ?v244) rfl (by kernel_rfl) (by kernel_rfl) (by kernel_rfl) (fun _ _ _ h => h) (Or.inl ⟨by rfl, ?y244⟩) (by assumption) ?z244
      case y244 => (intro w hSw; (try dsimp only at hSw); go_simp) <;> with_reducible rfl
      try simp only [Act.put, List.setIfInBounds_toArray, List.set_cons_zero, List.set_cons_succ]
      refine wpAnyH_ready (rs := [10]) (by kernel_rfl) (by simp) ?_
      refine (AllReadyH.cons (o := { dst := some 47, op := Go.Op.call { callee := Go.Callee.value (Go.Operand.func 14), args := #[Go.Operand.tmp 45, Go.Operand.tmp 46], argTypes := #[27, 3] }, type := 5, pos := "law.go:132", after := #[{ on := 8, ground := Go.Ground.data }, { on := 9, ground := Go.Ground.data }, { on := 7, ground := Go.Ground.chain }, { on := 7, ground := Go.Ground.guard }], guard := some (7, true) }) rfl (fun K hK => ?_) AllReadyH.nil)
      · skip
        go_simp
        with_reducible refine (HA3.out _).mono ?_
        rintro q_ w12 ⟨rfl, hb⟩
        have B12 := Lib.hid (vian HN.out B11.out hb)
        have T12 := Lib.hid (T11.out.below hb)
        have U12 := Lib.hid (U11.out.below hb)
        clear hb B11 T11 U11
        refine hK.out _ _ ?s245 (fun hNew => ?r245)
        case s245 => exact ⟨T12.out.2.1, U12.out.2.1⟩
        clear hK K hHeld
        have hHeld := hNew
        clear hNew
        refine wpAnyH_ready (rs := [13]) (by kernel_rfl) (by simp) ?_
        refine (AllReadyH.cons (o := { dst := some 50, op := Go.Op.call { callee := Go.Callee.value (Go.Operand.func 14), args := #[Go.Operand.tmp 48, Go.Operand.tmp 49], argTypes := #[27, 3] }, type := 5, pos := "law.go:132", after := #[{ on := 11, ground := Go.Ground.data }, { on := 12, ground := Go.Ground.data }, { on := 10, ground := Go.Ground.chain }, { on := 7, ground := Go.Ground.guard }], guard := some (7, true) }) rfl (fun K hK => ?_) AllReadyH.nil)
        · skip
          go_simp
          with_reducible refine (HT3.out _).mono ?_
          rintro q_ w13 ⟨rfl, hb⟩
          have B13 := Lib.hid (vian HN.out B12.out hb)
          have T13 := Lib.hid (T12.out.below hb)
          have U13 := Lib.hid (U12.out.below hb)
          clear hb B12 T12 U12
          refine hK.out _ _ ?s246 (fun hNew => ?r246)
          case s246 => exact ⟨T13.out.2.1, U13.out.2.1⟩
          clear hK K hHeld
          have hHeld := hNew
          clear hNew
          refine wpAnyH_take (i := 14) (oi := { dst := some 51, op := Go.Op.binOp Go.BinOp.neq 5 (Go.Operand.tmp 47) (Go.Operand.tmp 50) 5, type := 4, pos := "law.go:132", after := #[{ on := 10, ground := Go.Ground.data }, { on := 13, ground := Go.Ground.data }, { on := 7, ground := Go.Ground.guard }], guard := some (7, true) }) (v := ?v247) rfl (by kernel_rfl) (by kernel_rfl) (by kernel_rfl) (fun _ _ _ h => h) (Or.inl ⟨by rfl, ?y247⟩) (by assumption) ?z247
          case y247 => (intro w hSw; (try dsimp only at hSw); go_simp) <;> with_reducible rfl
          try simp only [Act.put, List.setIfInBounds_toArray, List.set_cons_zero, List.set_cons_succ]
          refine wpAnyH_take (i := 15) (oi := { dst := some 52, op := Go.Op.pick (Go.Operand.tmp 44) (Go.Operand.tmp 51) (Go.Operand.const (Go.Value.bool false)), type := 4, pos := "law.go:132", after := #[{ on := 7, ground := Go.Ground.data }, { on := 14, ground := Go.Ground.data }], guard := none }) (v := ?v248) rfl (by kernel_rfl) (by kernel_rfl) (by kernel_rfl) (fun _ _ _ h => h) (Or.inl ⟨by rfl, ?y248⟩) (by assumption) ?z248
          case y248 => (intro w hSw; (try dsimp only at hSw); go_simp) <;> with_reducible rfl
          try simp only [Act.put, List.setIfInBounds_toArray, List.set_cons_zero, List.set_cons_succ]
          refine wpAnyH_done (by kernel_rfl) ?_ _
          clear hHeld
          go_wp2
          rw [rounds_succ]
          go_upto_region 16 with (fail)
          have B14 := Lib.hid B13.out.drew
          have T14 := Lib.hid T13.out.drew
          have U14 := Lib.hid U13.out.drew
          refine wp_region_held_drew (S := (fun w' => (∀ o_, w'.cell? ⟨tb, o_, none⟩ = #[.int .u16 c, .int .u8 a, .int .u8 m, .int .u8 kk, .bool o][o_]?) ∧ (∀ o_, w'.cell? ⟨ub, o_, none⟩ = #[.int .u16 RA.c, .int .u8 RA.a, .int .u8 RA.m, .int .u8 RA.k, .bool RA.o][o_]?))) (by kernel_rfl) ⟨T14.out.2.1, U14.out.2.1⟩ (fun hHeld => ?_)
          generalize World.drew w13 = w14 at hHeld B14 T14 U14 ⊢
          clear B13 T13 U13
          refine wpAnyH_take (i := 0) (oi := { dst := some 54, op := Go.Op.load 27 (Go.Operand.tmp 11), type := 27, pos := "law.go:136", after := #[], guard := none }) (v := ?v249) rfl (by kernel_rfl) (by kernel_rfl) (by kernel_rfl) (fun _ _ _ h => h) (Or.inl ⟨by rfl, ?y249⟩) (by assumption) ?z249
          case y249 => (intro w hSw; (try dsimp only at hSw); go_simp) <;> with_reducible rfl
          try simp only [Act.put, List.setIfInBounds_toArray, List.set_cons_zero, List.set_cons_succ]
          refine wpAnyH_take (i := 1) (oi := { dst := some 55, op := Go.Op.move (Go.Operand.tmp 10), type := 3, pos := "law.go:136", after := #[], guard := none }) (v := ?v250) rfl (by kernel_rfl) (by kernel_rfl) (by kernel_rfl) (fun _ _ _ h => h) (Or.inl ⟨by rfl, ?y250⟩) (by assumption) ?z250
          case y250 => (intro w hSw; (try dsimp only at hSw); go_simp) <;> with_reducible rfl
          try simp only [Act.put, List.setIfInBounds_toArray, List.set_cons_zero, List.set_cons_succ]
          refine wpAnyH_take (i := 3) (oi := { dst := some 57, op := Go.Op.move (Go.Operand.tmp 12), type := 5, pos := "law.go:136", after := #[], guard := none }) (v := ?v251) rfl (by kernel_rfl) (by kernel_rfl) (by kernel_rfl) (fun _ _ _ h => h) (Or.inl ⟨by rfl, ?y251⟩) (by assumption) ?z251
          case y251 => (intro w hSw; (try dsimp only at hSw); go_simp) <;> with_reducible rfl
          try simp only [Act.put, List.setIfInBounds_toArray, List.set_cons_zero, List.set_cons_succ]
          refine wpAnyH_ready (rs := [2]) (by kernel_rfl) (by simp) ?_
          refine (AllReadyH.cons (o := { dst := some 56, op := Go.Op.call { callee := Go.Callee.value (Go.Operand.func 14), args := #[Go.Operand.tmp 54, Go.Operand.tmp 55], argTypes := #[27, 3] }, type := 5, pos := "law.go:136", after := #[{ on := 0, ground := Go.Ground.data }, { on := 1, ground := Go.Ground.data }], guard := none }) rfl (fun K hK => ?_) AllReadyH.nil)
          · skip
            go_simp
            with_reducible refine (H2.out _).mono ?_
            rintro q_ w15 ⟨rfl, hb⟩
            have B15 := Lib.hid (vian HN.out B14.out hb)
            have T15 := Lib.hid (T14.out.below hb)
            have U15 := Lib.hid (U14.out.below hb)
            clear hb B14 T14 U14
            refine hK.out _ _ ?s252 (fun hNew => ?r252)
            case s252 => exact ⟨T15.out.2.1, U15.out.2.1⟩
            clear hK K hHeld
            have hHeld := hNew
            clear hNew
            refine wpAnyH_take (i := 4) (oi := { dst := some 58, op := Go.Op.binOp Go.BinOp.eql 5 (Go.Operand.tmp 56) (Go.Operand.tmp 57) 5, type := 4, pos := "law.go:136", after := #[{ on := 2, ground := Go.Ground.data }, { on := 3, ground := Go.Ground.data }], guard := none }) (v := ?v253) rfl (by kernel_rfl) (by kernel_rfl) (by kernel_rfl) (fun _ _ _ h => h) (Or.inl ⟨by rfl, ?y253⟩) (by assumption) ?z253
            case y253 => (intro w hSw; (try dsimp only at hSw); go_simp) <;> with_reducible rfl
            try simp only [Act.put, List.setIfInBounds_toArray, List.set_cons_zero, List.set_cons_succ]
            refine wpAnyH_take (i := 5) (oi := { dst := some 59, op := Go.Op.move (Go.Operand.tmp 58), type := 4, pos := "law.go:136", after := #[{ on := 4, ground := Go.Ground.data }, { on := 2, ground := Go.Ground.chain }], guard := none }) (v := ?v254) rfl (by kernel_rfl) (by kernel_rfl) (by kernel_rfl) (fun _ _ _ h => h) (Or.inl ⟨by rfl, ?y254⟩) (by assumption) ?z254
            case y254 => (intro w hSw; (try dsimp only at hSw); go_simp) <;> with_reducible rfl
            try simp only [Act.put, List.setIfInBounds_toArray, List.set_cons_zero, List.set_cons_succ]
            refine wpAnyH_take (i := 6) (oi := { dst := some 60, op := Go.Op.move (Go.Operand.tmp 3), type := 3, pos := "law.go:136", after := #[{ on := 5, ground := Go.Ground.guard }], guard := some (5, true) }) (v := ?v255) rfl (by kernel_rfl) (by kernel_rfl) (by kernel_rfl) (fun _ _ _ h => h) (Or.inl ⟨by rfl, ?y255⟩) (by assumption) ?z255
            case y255 => (intro w hSw; (try dsimp only at hSw); go_simp) <;> with_reducible rfl
            try simp only [Act.put, List.setIfInBounds_toArray, List.set_cons_zero, List.set_cons_succ]
            refine wpAnyH_take (i := 7) (oi := { dst := some 61, op := Go.Op.binOp Go.BinOp.geq 3 (Go.Operand.tmp 60) (Go.Operand.const (Go.Value.int Go.IntKind.i64 0)) 3, type := 4, pos := "law.go:136", after := #[{ on := 6, ground := Go.Ground.data }, { on := 5, ground := Go.Ground.guard }], guard := some (5, true) }) (v := ?v256) rfl (by kernel_rfl) (by kernel_rfl) (by kernel_rfl) (fun _ _ _ h => h) (Or.inl ⟨by rfl, ?y256⟩) (by assumption) ?z256
            case y256 => (intro w hSw; (try dsimp only at hSw); go_simp) <;> with_reducible rfl
            try simp only [Act.put, List.setIfInBounds_toArray, List.set_cons_zero, List.set_cons_succ]
            refine wpAnyH_take (i := 8) (oi := { dst := some 62, op := Go.Op.move (Go.Operand.tmp 61), type := 4, pos := "law.go:136", after := #[{ on := 7, ground := Go.Ground.data }, { on := 5, ground := Go.Ground.chain }, { on := 5, ground := Go.Ground.guard }], guard := some (5, true) }) (v := ?v257) rfl (by kernel_rfl) (by kernel_rfl) (by kernel_rfl) (fun _ _ _ h => h) (Or.inl ⟨by rfl, ?y257⟩) (by assumption) ?z257
            case y257 => (intro w hSw; (try dsimp only at hSw); go_simp) <;> with_reducible rfl
            try simp only [Act.put, List.setIfInBounds_toArray, List.set_cons_zero, List.set_cons_succ]
            refine wpAnyH_take (i := 9) (oi := { dst := some 63, op := Go.Op.move (Go.Operand.tmp 3), type := 3, pos := "law.go:136", after := #[{ on := 8, ground := Go.Ground.guard }], guard := some (8, true) }) (v := ?v258) rfl (by kernel_rfl) (by kernel_rfl) (by kernel_rfl) (fun _ _ _ h => h) (Or.inl ⟨by rfl, ?y258⟩) (by assumption) ?z258
            case y258 => (intro w hSw; (try dsimp only at hSw); go_simp) <;> with_reducible rfl
            try simp only [Act.put, List.setIfInBounds_toArray, List.set_cons_zero, List.set_cons_succ]
            refine wpAnyH_take (i := 10) (oi := { dst := some 64, op := Go.Op.binOp Go.BinOp.leq 3 (Go.Operand.tmp 63) (Go.Operand.const (Go.Value.int Go.IntKind.i64 3)) 3, type := 4, pos := "law.go:136", after := #[{ on := 9, ground := Go.Ground.data }, { on := 8, ground := Go.Ground.guard }], guard := some (8, true) }) (v := ?v259) rfl (by kernel_rfl) (by kernel_rfl) (by kernel_rfl) (fun _ _ _ h => h) (Or.inl ⟨by rfl, ?y259⟩) (by assumption) ?z259
            case y259 => (intro w hSw; (try dsimp only at hSw); go_simp) <;> with_reducible rfl
            try simp only [Act.put, List.setIfInBounds_toArray, List.set_cons_zero, List.set_cons_succ]
            refine wpAnyH_take (i := 11) (oi := { dst := some 65, op := Go.Op.pick (Go.Operand.tmp 62) (Go.Operand.tmp 64) (Go.Operand.const (Go.Value.bool false)), type := 4, pos := "law.go:136", after := #[{ on := 8, ground := Go.Ground.data }, { on := 10, ground := Go.Ground.data }, { on := 5, ground := Go.Ground.guard }], guard := some (5, true) }) (v := ?v260) rfl (by kernel_rfl) (by kernel_rfl) (by kernel_rfl) (fun _ _ _ h => h) (Or.inl ⟨by rfl, ?y260⟩) (by assumption) ?z260
            case y260 => (intro w hSw; (try dsimp only at hSw); go_simp) <;> with_reducible rfl
            try simp only [Act.put, List.setIfInBounds_toArray, List.set_cons_zero, List.set_cons_succ]
            refine wpAnyH_take (i := 12) (oi := { dst := some 66, op := Go.Op.move (Go.Operand.tmp 65), type := 4, pos := "law.go:136", after := #[{ on := 11, ground := Go.Ground.data }, { on := 8, ground := Go.Ground.chain }, { on := 5, ground := Go.Ground.guard }], guard := some (5, true) }) (v := ?v261) rfl (by kernel_rfl) (by kernel_rfl) (by kernel_rfl) (fun _ _ _ h => h) (Or.inl ⟨by rfl, ?y261⟩) (by assumption) ?z261
            case y261 => (intro w hSw; (try dsimp only at hSw); go_simp) <;> with_reducible rfl
            try simp only [Act.put, List.setIfInBounds_toArray, List.set_cons_zero, List.set_cons_succ]
            refine wpAnyH_take (i := 13) (oi := { dst := some 67, op := Go.Op.load 27 (Go.Operand.tmp 9), type := 27, pos := "law.go:136", after := #[{ on := 12, ground := Go.Ground.guard }], guard := some (12, false) }) (v := ?v262) rfl (by kernel_rfl) (by kernel_rfl) (by kernel_rfl) (fun _ _ _ h => h) (Or.inl ⟨by rfl, ?y262⟩) (by assumption) ?z262
            case y262 => (intro w hSw; (try dsimp only at hSw); go_simp) <;> with_reducible rfl
            try simp only [Act.put, List.setIfInBounds_toArray, List.set_cons_zero, List.set_cons_succ]
            refine wpAnyH_take (i := 14) (oi := { dst := some 68, op := Go.Op.move (Go.Operand.tmp 3), type := 3, pos := "law.go:136", after := #[{ on := 12, ground := Go.Ground.guard }], guard := some (12, false) }) (v := ?v263) rfl (by kernel_rfl) (by kernel_rfl) (by kernel_rfl) (fun _ _ _ h => h) (Or.inl ⟨by rfl, ?y263⟩) (by assumption) ?z263
            case y263 => (intro w hSw; (try dsimp only at hSw); go_simp) <;> with_reducible rfl
            try simp only [Act.put, List.setIfInBounds_toArray, List.set_cons_zero, List.set_cons_succ]
            refine wpAnyH_ready (rs := [15]) (by kernel_rfl) (by simp) ?_
            refine (AllReadyH.cons (o := { dst := some 69, op := Go.Op.call { callee := Go.Callee.value (Go.Operand.func 14), args := #[Go.Operand.tmp 67, Go.Operand.tmp 68], argTypes := #[27, 3] }, type := 5, pos := "law.go:136", after := #[{ on := 13, ground := Go.Ground.data }, { on := 14, ground := Go.Ground.data }, { on := 12, ground := Go.Ground.chain }, { on := 12, ground := Go.Ground.guard }], guard := some (12, false) }) rfl (fun K hK => ?_) AllReadyH.nil)
            · skip
              go_simp
              with_reducible refine (H15.out _).mono ?_
              rintro q_ w16 ⟨rfl, hb⟩
              have B16 := Lib.hid (vian HN.out B15.out hb)
              have T16 := Lib.hid (T15.out.below hb)
              have U16 := Lib.hid (U15.out.below hb)
              clear hb B15 T15 U15
              refine hK.out _ _ ?s264 (fun hNew => ?r264)
              case s264 => exact ⟨T16.out.2.1, U16.out.2.1⟩
              clear hK K hHeld
              have hHeld := hNew
              clear hNew
              refine wpAnyH_take (i := 16) (oi := { dst := some 70, op := Go.Op.binOp Go.BinOp.eql 5 (Go.Operand.tmp 69) (Go.Operand.const (Go.Value.int Go.IntKind.u8 255)) 5, type := 4, pos := "law.go:136", after := #[{ on := 15, ground := Go.Ground.data }, { on := 12, ground := Go.Ground.guard }], guard := some (12, false) }) (v := ?v265) rfl (by kernel_rfl) (by kernel_rfl) (by kernel_rfl) (fun _ _ _ h => h) (Or.inl ⟨by rfl, ?y265⟩) (by assumption) ?z265
              case y265 => (intro w hSw; (try dsimp only at hSw); go_simp) <;> with_reducible rfl
              try simp only [Act.put, List.setIfInBounds_toArray, List.set_cons_zero, List.set_cons_succ]
              refine wpAnyH_take (i := 17) (oi := { dst := some 71, op := Go.Op.move (Go.Operand.tmp 70), type := 4, pos := "law.go:136", after := #[{ on := 16, ground := Go.Ground.data }, { on := 15, ground := Go.Ground.chain }, { on := 12, ground := Go.Ground.guard }], guard := some (12, false) }) (v := ?v266) rfl (by kernel_rfl) (by kernel_rfl) (by kernel_rfl) (fun _ _ _ h => h) (Or.inl ⟨by rfl, ?y266⟩) (by assumption) ?z266
              case y266 => (intro w hSw; (try dsimp only at hSw); go_simp) <;> with_reducible rfl
              try simp only [Act.put, List.setIfInBounds_toArray, List.set_cons_zero, List.set_cons_succ]
              refine wpAnyH_take (i := 18) (oi := { dst := some 72, op := Go.Op.load 27 (Go.Operand.tmp 9), type := 27, pos := "law.go:136", after := #[{ on := 17, ground := Go.Ground.guard }], guard := some (17, true) }) (v := ?v267) rfl (by kernel_rfl) (by kernel_rfl) (by kernel_rfl) (fun _ _ _ h => h) (Or.inl ⟨by rfl, ?y267⟩) (by assumption) ?z267
              case y267 => (intro w hSw; (try dsimp only at hSw); go_simp) <;> with_reducible rfl
              try simp only [Act.put, List.setIfInBounds_toArray, List.set_cons_zero, List.set_cons_succ]
              refine wpAnyH_take (i := 19) (oi := { dst := some 73, op := Go.Op.move (Go.Operand.tmp 3), type := 3, pos := "law.go:136", after := #[{ on := 17, ground := Go.Ground.guard }], guard := some (17, true) }) (v := ?v268) rfl (by kernel_rfl) (by kernel_rfl) (by kernel_rfl) (fun _ _ _ h => h) (Or.inl ⟨by rfl, ?y268⟩) (by assumption) ?z268
              case y268 => (intro w hSw; (try dsimp only at hSw); go_simp) <;> with_reducible rfl
              try simp only [Act.put, List.setIfInBounds_toArray, List.set_cons_zero, List.set_cons_succ]
              refine wpAnyH_take (i := 20) (oi := { dst := some 74, op := Go.Op.move (Go.Operand.tmp 2), type := 5, pos := "law.go:136", after := #[{ on := 17, ground := Go.Ground.guard }], guard := some (17, true) }) (v := ?v269) rfl (by kernel_rfl) (by kernel_rfl) (by kernel_rfl) (fun _ _ _ h => h) (Or.inl ⟨by rfl, ?y269⟩) (by assumption) ?z269
              case y269 => (intro w hSw; (try dsimp only at hSw); go_simp) <;> with_reducible rfl
              try simp only [Act.put, List.setIfInBounds_toArray, List.set_cons_zero, List.set_cons_succ]
              refine wpAnyH_take (i := 22) (oi := { dst := some 76, op := Go.Op.load 27 (Go.Operand.tmp 9), type := 27, pos := "law.go:136", after := #[{ on := 17, ground := Go.Ground.guard }], guard := some (17, true) }) (v := ?v270) rfl (by kernel_rfl) (by kernel_rfl) (by kernel_rfl) (fun _ _ _ h => h) (Or.inl ⟨by rfl, ?y270⟩) (by assumption) ?z270
              case y270 => (intro w hSw; (try dsimp only at hSw); go_simp) <;> with_reducible rfl
              try simp only [Act.put, List.setIfInBounds_toArray, List.set_cons_zero, List.set_cons_succ]
              refine wpAnyH_ready (rs := [21]) (by kernel_rfl) (by simp) ?_
              refine (AllReadyH.cons (o := { dst := some 75, op := Go.Op.call { callee := Go.Callee.value (Go.Operand.func 12), args := #[Go.Operand.tmp 72, Go.Operand.tmp 73, Go.Operand.tmp 74], argTypes := #[27, 3, 5] }, type := 27, pos := "law.go:136", after := #[{ on := 18, ground := Go.Ground.data }, { on := 19, ground := Go.Ground.data }, { on := 20, ground := Go.Ground.data }, { on := 17, ground := Go.Ground.chain }, { on := 17, ground := Go.Ground.guard }], guard := some (17, true) }) rfl (fun K hK => ?_) AllReadyH.nil)
              · skip
                go_simp
                with_reducible refine (H21.out _ (TT.out.next B16.out).g).mono ?_
                rintro q_ w17 ⟨rfl, hb⟩
                have B17 := Lib.hid (vian HN.out B16.out hb)
                have T17 := Lib.hid (T16.out.below hb)
                have U17 := Lib.hid (U16.out.below hb)
                clear hb B16 T16 U16
                refine hK.out _ _ ?s271 (fun hNew => ?r271)
                case s271 => exact ⟨T17.out.2.1, U17.out.2.1⟩
                clear hK K hHeld
                have hHeld := hNew
                clear hNew
                refine wpAnyH_take (i := 23) (oi := { dst := some 77, op := Go.Op.binOp Go.BinOp.eql 27 (Go.Operand.tmp 75) (Go.Operand.tmp 76) 27, type := 4, pos := "law.go:136", after := #[{ on := 21, ground := Go.Ground.data }, { on := 22, ground := Go.Ground.data }, { on := 17, ground := Go.Ground.guard }], guard := some (17, true) }) (v := ?v272) rfl (by kernel_rfl) (by kernel_rfl) (by kernel_rfl) (fun _ _ _ h => h) (Or.inl ⟨by rfl, ?y272⟩) (by assumption) ?z272
                case y272 => (intro w hSw; (try dsimp only at hSw); go_simp) <;> with_reducible rfl
                try simp only [Act.put, List.setIfInBounds_toArray, List.set_cons_zero, List.set_cons_succ]
                refine wpAnyH_take (i := 24) (oi := { dst := some 78, op := Go.Op.pick (Go.Operand.tmp 71) (Go.Operand.tmp 77) (Go.Operand.const (Go.Value.bool false)), type := 4, pos := "law.go:136", after := #[{ on := 17, ground := Go.Ground.data }, { on := 23, ground := Go.Ground.data }, { on := 12, ground := Go.Ground.guard }], guard := some (12, false) }) (v := ?v273) rfl (by kernel_rfl) (by kernel_rfl) (by kernel_rfl) (fun _ _ _ h => h) (Or.inl ⟨by rfl, ?y273⟩) (by assumption) ?z273
                case y273 => (intro w hSw; (try dsimp only at hSw); go_simp) <;> with_reducible rfl
                try simp only [Act.put, List.setIfInBounds_toArray, List.set_cons_zero, List.set_cons_succ]
                refine wpAnyH_take (i := 25) (oi := { dst := some 79, op := Go.Op.pick (Go.Operand.tmp 66) (Go.Operand.const (Go.Value.bool true)) (Go.Operand.tmp 78), type := 4, pos := "law.go:136", after := #[{ on := 12, ground := Go.Ground.data }, { on := 24, ground := Go.Ground.data }, { on := 5, ground := Go.Ground.guard }], guard := some (5, true) }) (v := ?v274) rfl (by kernel_rfl) (by kernel_rfl) (by kernel_rfl) (fun _ _ _ h => h) (Or.inl ⟨by rfl, ?y274⟩) (by assumption) ?z274
                case y274 => (intro w hSw; (try dsimp only at hSw); go_simp) <;> with_reducible rfl
                try simp only [Act.put, List.setIfInBounds_toArray, List.set_cons_zero, List.set_cons_succ]
                refine wpAnyH_take (i := 26) (oi := { dst := some 80, op := Go.Op.pick (Go.Operand.tmp 59) (Go.Operand.tmp 79) (Go.Operand.const (Go.Value.bool false)), type := 4, pos := "law.go:136", after := #[{ on := 5, ground := Go.Ground.data }, { on := 25, ground := Go.Ground.data }], guard := none }) (v := ?v275) rfl (by kernel_rfl) (by kernel_rfl) (by kernel_rfl) (fun _ _ _ h => h) (Or.inl ⟨by rfl, ?y275⟩) (by assumption) ?z275
                case y275 => (intro w hSw; (try dsimp only at hSw); go_simp) <;> with_reducible rfl
                try simp only [Act.put, List.setIfInBounds_toArray, List.set_cons_zero, List.set_cons_succ]
                refine wpAnyH_take (i := 27) (oi := { dst := some 8, op := Go.Op.assign (Go.Operand.tmp 80), type := 4, pos := "law.go:136", after := #[{ on := 26, ground := Go.Ground.data }, { on := 21, ground := Go.Ground.chain }, { on := 0, ground := Go.Ground.phase }, { on := 1, ground := Go.Ground.phase }, { on := 2, ground := Go.Ground.phase }, { on := 3, ground := Go.Ground.phase }, { on := 4, ground := Go.Ground.phase }, { on := 5, ground := Go.Ground.phase }, { on := 6, ground := Go.Ground.phase }, { on := 7, ground := Go.Ground.phase }, { on := 8, ground := Go.Ground.phase }, { on := 9, ground := Go.Ground.phase }, { on := 10, ground := Go.Ground.phase }, { on := 11, ground := Go.Ground.phase }, { on := 12, ground := Go.Ground.phase }, { on := 13, ground := Go.Ground.phase }, { on := 14, ground := Go.Ground.phase }, { on := 15, ground := Go.Ground.phase }, { on := 16, ground := Go.Ground.phase }, { on := 17, ground := Go.Ground.phase }, { on := 18, ground := Go.Ground.phase }, { on := 19, ground := Go.Ground.phase }, { on := 20, ground := Go.Ground.phase }, { on := 21, ground := Go.Ground.phase }, { on := 22, ground := Go.Ground.phase }, { on := 23, ground := Go.Ground.phase }, { on := 24, ground := Go.Ground.phase }, { on := 25, ground := Go.Ground.phase }, { on := 26, ground := Go.Ground.phase }], guard := none }) (v := ?v276) rfl (by kernel_rfl) (by kernel_rfl) (by kernel_rfl) (fun _ _ _ h => h) (Or.inl ⟨by rfl, ?y276⟩) (by assumption) ?z276
                case y276 => (intro w hSw; (try dsimp only at hSw); go_simp) <;> with_reducible rfl
                try simp only [Act.put, List.setIfInBounds_toArray, List.set_cons_zero, List.set_cons_succ]
                refine wpAnyH_done (by kernel_rfl) ?_ _
                clear hHeld
                go_wp2
                go_ret
                exact ⟨rfl, B17.out⟩
end Go.Proofs.YtjjmnjkmfkcdoaaDoor
