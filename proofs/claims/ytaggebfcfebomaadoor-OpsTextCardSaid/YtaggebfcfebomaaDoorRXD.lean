/-
  What the document's Text returns, kind by kind: for every world and every order.
-/
import Derived.Test.YtaggebfcfebomaaDoorRX0
namespace Go.Proofs.YtaggebfcfebomaaDoor
open Go.ChangeShapes Go.WideShapes Go.ChangeAt Go.RowKit
set_option linter.unusedVariables false
set_option maxRecDepth 100000 in
set_option maxHeartbeats 2000000 in
theorem rt_36 (x y s : Int) (n : Nat) (hn : n < 65536) (w : World) : Calls Tryd.prog 14 #[.agg #[.int .i64 36, .int .i64 x, .int .i64 y, .int .i64 s, .int .u16 (n : Nat)]] w fun e w' => e = .returned (.string ⟨(lineL ([108, 100, 104]) ([[97], [40, 99, 41]])).toArray⟩) ∧ Below w.heap.size w w' := by
  rw [line2]
  go_enter Tryd.func14, Tryd.ntmps14
  go_wp2_with fail
  refine wp_region_held_drew (S := (fun w' => (∀ o, w'.cell? ⟨w.heap.size, o, none⟩ = #[Value.int .i64 36, .int .i64 x, .int .i64 y, .int .i64 s, .int .u16 (n : Nat)][o]?) ∧ QR w w')) (by kernel_rfl) (QS.new w #[.int .i64 36, .int .i64 x, .int .i64 y, .int .i64 s, .int .u16 (n : Nat)] 29) (fun hHeld => ?_)
  generalize (w.alloc (.cells #[.int .i64 36, .int .i64 x, .int .i64 y, .int .i64 s, .int .u16 (n : Nat)] 29)).drew = V0 at hHeld ⊢
  refine wpAnyH_take (i := 0) (oi := { dst := some 5, op := Go.Op.fieldAddr 29 (Go.Operand.tmp 1) 4, type := 0, pos := "ref.go:207", after := #[], guard := none }) (v := ?v1) rfl (by kernel_rfl) (by kernel_rfl) (by kernel_rfl) (fun _ _ _ h => h) (Or.inl ⟨by rfl, ?y1⟩) (by assumption) ?z1
  case y1 => (intro w hSw; (try dsimp only at hSw); go_simp) <;> with_reducible rfl
  try simp only [Act.put, List.setIfInBounds_toArray, List.set_cons_zero, List.set_cons_succ]
  refine wpAnyH_take (i := 1) (oi := { dst := some 6, op := Go.Op.load 25 (Go.Operand.tmp 5), type := 25, pos := "ref.go:207", after := #[{ on := 0, ground := Go.Ground.data }], guard := none }) (v := ?v2) rfl (by kernel_rfl) (by kernel_rfl) (by kernel_rfl) (fun _ _ _ h => h) (Or.inl ⟨by rfl, ?y2⟩) (by assumption) ?z2
  case y2 => (intro w hSw; (try dsimp only at hSw); go_simp) <;> with_reducible rfl
  try simp only [Act.put, List.setIfInBounds_toArray, List.set_cons_zero, List.set_cons_succ]
  refine wpAnyH_take (i := 3) (oi := { dst := some 8, op := Go.Op.fieldAddr 29 (Go.Operand.tmp 1) 4, type := 0, pos := "ref.go:207", after := #[], guard := none }) (v := ?v3) rfl (by kernel_rfl) (by kernel_rfl) (by kernel_rfl) (fun _ _ _ h => h) (Or.inl ⟨by rfl, ?y3⟩) (by assumption) ?z3
  case y3 => (intro w hSw; (try dsimp only at hSw); go_simp) <;> with_reducible rfl
  try simp only [Act.put, List.setIfInBounds_toArray, List.set_cons_zero, List.set_cons_succ]
  refine wpAnyH_take (i := 4) (oi := { dst := some 9, op := Go.Op.load 25 (Go.Operand.tmp 8), type := 25, pos := "ref.go:207", after := #[{ on := 3, ground := Go.Ground.data }], guard := none }) (v := ?v4) rfl (by kernel_rfl) (by kernel_rfl) (by kernel_rfl) (fun _ _ _ h => h) (Or.inl ⟨by rfl, ?y4⟩) (by assumption) ?z4
  case y4 => (intro w hSw; (try dsimp only at hSw); go_simp) <;> with_reducible rfl
  try simp only [Act.put, List.setIfInBounds_toArray, List.set_cons_zero, List.set_cons_succ]
  refine wpAnyH_ready (rs := [2]) (by kernel_rfl) (by simp) ?_
  refine (AllReadyH.cons (o := { dst := some 7, op := Go.Op.call { callee := Go.Callee.value (Go.Operand.func 24), args := #[Go.Operand.tmp 6, Go.Operand.const (Go.Value.int Go.IntKind.i64 2)], argTypes := #[25, 3] }, type := 9, pos := "ref.go:207", after := #[{ on := 1, ground := Go.Ground.data }], guard := none }) rfl (fun K hK => ?_) AllReadyH.nil)
  · go_simp
    go_wp2_with (go_at_call 24; (with_reducible refine (rhex2 n hn _).mono ?_); rintro e V1 ⟨rfl, hb⟩)
    refine hK.out _ _ ?s5 (fun hNew => ?r5)
    case s5 => exact QS.below hHeld hb
    clear hK K
    clear hb
    clear hHeld
    have hHeld := hNew
    clear hNew
    refine wpAnyH_ready (rs := [5]) (by kernel_rfl) (by simp) ?_
    refine (AllReadyH.cons (o := { dst := some 10, op := Go.Op.call { callee := Go.Callee.value (Go.Operand.func 24), args := #[Go.Operand.tmp 9, Go.Operand.const (Go.Value.int Go.IntKind.i64 4)], argTypes := #[25, 3] }, type := 9, pos := "ref.go:207", after := #[{ on := 4, ground := Go.Ground.data }, { on := 2, ground := Go.Ground.chain }], guard := none }) rfl (fun K hK => ?_) AllReadyH.nil)
    · go_simp
      go_wp2_with (go_at_call 24; (with_reducible refine (rhex4 n hn _).mono ?_); rintro e V2 ⟨rfl, hb⟩)
      refine hK.out _ _ ?s6 (fun hNew => ?r6)
      case s6 => exact QS.below hHeld hb
      clear hK K
      clear hb
      clear hHeld
      have hHeld := hNew
      clear hNew
      refine wpAnyH_take (i := 6) (oi := { dst := some 3, op := Go.Op.assign (Go.Operand.tmp 7), type := 9, pos := "ref.go:207", after := #[{ on := 2, ground := Go.Ground.data }, { on := 5, ground := Go.Ground.chain }, { on := 0, ground := Go.Ground.phase }, { on := 1, ground := Go.Ground.phase }, { on := 2, ground := Go.Ground.phase }, { on := 3, ground := Go.Ground.textOnly Go.Departure.lateStores }, { on := 4, ground := Go.Ground.textOnly Go.Departure.lateStores }, { on := 5, ground := Go.Ground.textOnly Go.Departure.lateStoresUnsure }], guard := none }) (v := ?v7) rfl (by kernel_rfl) (by kernel_rfl) (by kernel_rfl) (fun _ _ _ h => h) (Or.inl ⟨by rfl, ?y7⟩) (by assumption) ?z7
      case y7 => (intro w hSw; (try dsimp only at hSw); go_simp) <;> with_reducible rfl
      try simp only [Act.put, List.setIfInBounds_toArray, List.set_cons_zero, List.set_cons_succ]
      refine wpAnyH_take (i := 7) (oi := { dst := some 4, op := Go.Op.assign (Go.Operand.tmp 10), type := 9, pos := "ref.go:207", after := #[{ on := 5, ground := Go.Ground.data }, { on := 6, ground := Go.Ground.chain }, { on := 0, ground := Go.Ground.phase }, { on := 1, ground := Go.Ground.phase }, { on := 2, ground := Go.Ground.phase }, { on := 3, ground := Go.Ground.phase }, { on := 4, ground := Go.Ground.phase }, { on := 5, ground := Go.Ground.phase }, { on := 6, ground := Go.Ground.phase }], guard := none }) (v := ?v8) rfl (by kernel_rfl) (by kernel_rfl) (by kernel_rfl) (fun _ _ _ h => h) (Or.inl ⟨by rfl, ?y8⟩) (by assumption) ?z8
      case y8 => (intro w hSw; (try dsimp only at hSw); go_simp) <;> with_reducible rfl
      try simp only [Act.put, List.setIfInBounds_toArray, List.set_cons_zero, List.set_cons_succ]
      refine wpAnyH_done (by kernel_rfl) ?_ _
      generalize hV : V2 = V at hHeld ⊢
      clear hV
      have hc := hHeld.1
      go_wp2
      go_ret
      exact ⟨rfl, hHeld.2.1⟩
set_option maxRecDepth 100000 in
set_option maxHeartbeats 2000000 in
theorem rt_37 (x y s : Int) (n : Nat) (hn : n < 65536) (w : World) : Calls Tryd.prog 14 #[.agg #[.int .i64 37, .int .i64 x, .int .i64 y, .int .i64 s, .int .u16 (n : Nat)]] w fun e w' => e = .returned (.string ⟨(lineL ([108, 100, 104]) ([[40, 99, 41], [97]])).toArray⟩) ∧ Below w.heap.size w w' := by
  rw [line2]
  go_enter Tryd.func14, Tryd.ntmps14
  go_wp2_with fail
  refine wp_region_held_drew (S := (fun w' => (∀ o, w'.cell? ⟨w.heap.size, o, none⟩ = #[Value.int .i64 37, .int .i64 x, .int .i64 y, .int .i64 s, .int .u16 (n : Nat)][o]?) ∧ QR w w')) (by kernel_rfl) (QS.new w #[.int .i64 37, .int .i64 x, .int .i64 y, .int .i64 s, .int .u16 (n : Nat)] 29) (fun hHeld => ?_)
  generalize (w.alloc (.cells #[.int .i64 37, .int .i64 x, .int .i64 y, .int .i64 s, .int .u16 (n : Nat)] 29)).drew = V0 at hHeld ⊢
  refine wpAnyH_take (i := 0) (oi := { dst := some 5, op := Go.Op.fieldAddr 29 (Go.Operand.tmp 1) 4, type := 0, pos := "ref.go:207", after := #[], guard := none }) (v := ?v1) rfl (by kernel_rfl) (by kernel_rfl) (by kernel_rfl) (fun _ _ _ h => h) (Or.inl ⟨by rfl, ?y1⟩) (by assumption) ?z1
  case y1 => (intro w hSw; (try dsimp only at hSw); go_simp) <;> with_reducible rfl
  try simp only [Act.put, List.setIfInBounds_toArray, List.set_cons_zero, List.set_cons_succ]
  refine wpAnyH_take (i := 1) (oi := { dst := some 6, op := Go.Op.load 25 (Go.Operand.tmp 5), type := 25, pos := "ref.go:207", after := #[{ on := 0, ground := Go.Ground.data }], guard := none }) (v := ?v2) rfl (by kernel_rfl) (by kernel_rfl) (by kernel_rfl) (fun _ _ _ h => h) (Or.inl ⟨by rfl, ?y2⟩) (by assumption) ?z2
  case y2 => (intro w hSw; (try dsimp only at hSw); go_simp) <;> with_reducible rfl
  try simp only [Act.put, List.setIfInBounds_toArray, List.set_cons_zero, List.set_cons_succ]
  refine wpAnyH_take (i := 3) (oi := { dst := some 8, op := Go.Op.fieldAddr 29 (Go.Operand.tmp 1) 4, type := 0, pos := "ref.go:207", after := #[], guard := none }) (v := ?v3) rfl (by kernel_rfl) (by kernel_rfl) (by kernel_rfl) (fun _ _ _ h => h) (Or.inl ⟨by rfl, ?y3⟩) (by assumption) ?z3
  case y3 => (intro w hSw; (try dsimp only at hSw); go_simp) <;> with_reducible rfl
  try simp only [Act.put, List.setIfInBounds_toArray, List.set_cons_zero, List.set_cons_succ]
  refine wpAnyH_take (i := 4) (oi := { dst := some 9, op := Go.Op.load 25 (Go.Operand.tmp 8), type := 25, pos := "ref.go:207", after := #[{ on := 3, ground := Go.Ground.data }], guard := none }) (v := ?v4) rfl (by kernel_rfl) (by kernel_rfl) (by kernel_rfl) (fun _ _ _ h => h) (Or.inl ⟨by rfl, ?y4⟩) (by assumption) ?z4
  case y4 => (intro w hSw; (try dsimp only at hSw); go_simp) <;> with_reducible rfl
  try simp only [Act.put, List.setIfInBounds_toArray, List.set_cons_zero, List.set_cons_succ]
  refine wpAnyH_ready (rs := [2]) (by kernel_rfl) (by simp) ?_
  refine (AllReadyH.cons (o := { dst := some 7, op := Go.Op.call { callee := Go.Callee.value (Go.Operand.func 24), args := #[Go.Operand.tmp 6, Go.Operand.const (Go.Value.int Go.IntKind.i64 2)], argTypes := #[25, 3] }, type := 9, pos := "ref.go:207", after := #[{ on := 1, ground := Go.Ground.data }], guard := none }) rfl (fun K hK => ?_) AllReadyH.nil)
  · go_simp
    go_wp2_with (go_at_call 24; (with_reducible refine (rhex2 n hn _).mono ?_); rintro e V1 ⟨rfl, hb⟩)
    refine hK.out _ _ ?s5 (fun hNew => ?r5)
    case s5 => exact QS.below hHeld hb
    clear hK K
    clear hb
    clear hHeld
    have hHeld := hNew
    clear hNew
    refine wpAnyH_ready (rs := [5]) (by kernel_rfl) (by simp) ?_
    refine (AllReadyH.cons (o := { dst := some 10, op := Go.Op.call { callee := Go.Callee.value (Go.Operand.func 24), args := #[Go.Operand.tmp 9, Go.Operand.const (Go.Value.int Go.IntKind.i64 4)], argTypes := #[25, 3] }, type := 9, pos := "ref.go:207", after := #[{ on := 4, ground := Go.Ground.data }, { on := 2, ground := Go.Ground.chain }], guard := none }) rfl (fun K hK => ?_) AllReadyH.nil)
    · go_simp
      go_wp2_with (go_at_call 24; (with_reducible refine (rhex4 n hn _).mono ?_); rintro e V2 ⟨rfl, hb⟩)
      refine hK.out _ _ ?s6 (fun hNew => ?r6)
      case s6 => exact QS.below hHeld hb
      clear hK K
      clear hb
      clear hHeld
      have hHeld := hNew
      clear hNew
      refine wpAnyH_take (i := 6) (oi := { dst := some 3, op := Go.Op.assign (Go.Operand.tmp 7), type := 9, pos := "ref.go:207", after := #[{ on := 2, ground := Go.Ground.data }, { on := 5, ground := Go.Ground.chain }, { on := 0, ground := Go.Ground.phase }, { on := 1, ground := Go.Ground.phase }, { on := 2, ground := Go.Ground.phase }, { on := 3, ground := Go.Ground.textOnly Go.Departure.lateStores }, { on := 4, ground := Go.Ground.textOnly Go.Departure.lateStores }, { on := 5, ground := Go.Ground.textOnly Go.Departure.lateStoresUnsure }], guard := none }) (v := ?v7) rfl (by kernel_rfl) (by kernel_rfl) (by kernel_rfl) (fun _ _ _ h => h) (Or.inl ⟨by rfl, ?y7⟩) (by assumption) ?z7
      case y7 => (intro w hSw; (try dsimp only at hSw); go_simp) <;> with_reducible rfl
      try simp only [Act.put, List.setIfInBounds_toArray, List.set_cons_zero, List.set_cons_succ]
      refine wpAnyH_take (i := 7) (oi := { dst := some 4, op := Go.Op.assign (Go.Operand.tmp 10), type := 9, pos := "ref.go:207", after := #[{ on := 5, ground := Go.Ground.data }, { on := 6, ground := Go.Ground.chain }, { on := 0, ground := Go.Ground.phase }, { on := 1, ground := Go.Ground.phase }, { on := 2, ground := Go.Ground.phase }, { on := 3, ground := Go.Ground.phase }, { on := 4, ground := Go.Ground.phase }, { on := 5, ground := Go.Ground.phase }, { on := 6, ground := Go.Ground.phase }], guard := none }) (v := ?v8) rfl (by kernel_rfl) (by kernel_rfl) (by kernel_rfl) (fun _ _ _ h => h) (Or.inl ⟨by rfl, ?y8⟩) (by assumption) ?z8
      case y8 => (intro w hSw; (try dsimp only at hSw); go_simp) <;> with_reducible rfl
      try simp only [Act.put, List.setIfInBounds_toArray, List.set_cons_zero, List.set_cons_succ]
      refine wpAnyH_done (by kernel_rfl) ?_ _
      generalize hV : V2 = V at hHeld ⊢
      clear hV
      have hc := hHeld.1
      go_wp2
      go_ret
      exact ⟨rfl, hHeld.2.1⟩
set_option maxRecDepth 100000 in
set_option maxHeartbeats 2000000 in
theorem rt_38 (x y s : Int) (n : Nat) (hn : n < 65536) (w : World) : Calls Tryd.prog 14 #[.agg #[.int .i64 38, .int .i64 x, .int .i64 y, .int .i64 s, .int .u16 (n : Nat)]] w fun e w' => e = .returned (.string ⟨(lineL ([108, 100]) ([[97], 40 :: (hexs n 4 ++ [41])])).toArray⟩) ∧ Below w.heap.size w w' := by
  rw [line2]
  have l2 := hexs_len n 2
  have l4 := hexs_len n 4
  have q0 : ¬ 9223372036854775807 < 7 + (hexs n 4).length := by omega
  have q1 : ¬ 9223372036854775807 < 7 + (hexs n 4).length + 1 := by omega
  clear l2 l4
  go_enter Tryd.func14, Tryd.ntmps14
  go_wp2_with fail
  refine wp_region_held_drew (S := (fun w' => (∀ o, w'.cell? ⟨w.heap.size, o, none⟩ = #[Value.int .i64 38, .int .i64 x, .int .i64 y, .int .i64 s, .int .u16 (n : Nat)][o]?) ∧ QR w w')) (by kernel_rfl) (QS.new w #[.int .i64 38, .int .i64 x, .int .i64 y, .int .i64 s, .int .u16 (n : Nat)] 29) (fun hHeld => ?_)
  generalize (w.alloc (.cells #[.int .i64 38, .int .i64 x, .int .i64 y, .int .i64 s, .int .u16 (n : Nat)] 29)).drew = V0 at hHeld ⊢
  refine wpAnyH_take (i := 0) (oi := { dst := some 5, op := Go.Op.fieldAddr 29 (Go.Operand.tmp 1) 4, type := 0, pos := "ref.go:207", after := #[], guard := none }) (v := ?v1) rfl (by kernel_rfl) (by kernel_rfl) (by kernel_rfl) (fun _ _ _ h => h) (Or.inl ⟨by rfl, ?y1⟩) (by assumption) ?z1
  case y1 => (intro w hSw; (try dsimp only at hSw); go_simp) <;> with_reducible rfl
  try simp only [Act.put, List.setIfInBounds_toArray, List.set_cons_zero, List.set_cons_succ]
  refine wpAnyH_take (i := 1) (oi := { dst := some 6, op := Go.Op.load 25 (Go.Operand.tmp 5), type := 25, pos := "ref.go:207", after := #[{ on := 0, ground := Go.Ground.data }], guard := none }) (v := ?v2) rfl (by kernel_rfl) (by kernel_rfl) (by kernel_rfl) (fun _ _ _ h => h) (Or.inl ⟨by rfl, ?y2⟩) (by assumption) ?z2
  case y2 => (intro w hSw; (try dsimp only at hSw); go_simp) <;> with_reducible rfl
  try simp only [Act.put, List.setIfInBounds_toArray, List.set_cons_zero, List.set_cons_succ]
  refine wpAnyH_take (i := 3) (oi := { dst := some 8, op := Go.Op.fieldAddr 29 (Go.Operand.tmp 1) 4, type := 0, pos := "ref.go:207", after := #[], guard := none }) (v := ?v3) rfl (by kernel_rfl) (by kernel_rfl) (by kernel_rfl) (fun _ _ _ h => h) (Or.inl ⟨by rfl, ?y3⟩) (by assumption) ?z3
  case y3 => (intro w hSw; (try dsimp only at hSw); go_simp) <;> with_reducible rfl
  try simp only [Act.put, List.setIfInBounds_toArray, List.set_cons_zero, List.set_cons_succ]
  refine wpAnyH_take (i := 4) (oi := { dst := some 9, op := Go.Op.load 25 (Go.Operand.tmp 8), type := 25, pos := "ref.go:207", after := #[{ on := 3, ground := Go.Ground.data }], guard := none }) (v := ?v4) rfl (by kernel_rfl) (by kernel_rfl) (by kernel_rfl) (fun _ _ _ h => h) (Or.inl ⟨by rfl, ?y4⟩) (by assumption) ?z4
  case y4 => (intro w hSw; (try dsimp only at hSw); go_simp) <;> with_reducible rfl
  try simp only [Act.put, List.setIfInBounds_toArray, List.set_cons_zero, List.set_cons_succ]
  refine wpAnyH_ready (rs := [2]) (by kernel_rfl) (by simp) ?_
  refine (AllReadyH.cons (o := { dst := some 7, op := Go.Op.call { callee := Go.Callee.value (Go.Operand.func 24), args := #[Go.Operand.tmp 6, Go.Operand.const (Go.Value.int Go.IntKind.i64 2)], argTypes := #[25, 3] }, type := 9, pos := "ref.go:207", after := #[{ on := 1, ground := Go.Ground.data }], guard := none }) rfl (fun K hK => ?_) AllReadyH.nil)
  · go_simp
    go_wp2_with (go_at_call 24; (with_reducible refine (rhex2 n hn _).mono ?_); rintro e V1 ⟨rfl, hb⟩)
    refine hK.out _ _ ?s5 (fun hNew => ?r5)
    case s5 => exact QS.below hHeld hb
    clear hK K
    clear hb
    clear hHeld
    have hHeld := hNew
    clear hNew
    refine wpAnyH_ready (rs := [5]) (by kernel_rfl) (by simp) ?_
    refine (AllReadyH.cons (o := { dst := some 10, op := Go.Op.call { callee := Go.Callee.value (Go.Operand.func 24), args := #[Go.Operand.tmp 9, Go.Operand.const (Go.Value.int Go.IntKind.i64 4)], argTypes := #[25, 3] }, type := 9, pos := "ref.go:207", after := #[{ on := 4, ground := Go.Ground.data }, { on := 2, ground := Go.Ground.chain }], guard := none }) rfl (fun K hK => ?_) AllReadyH.nil)
    · go_simp
      go_wp2_with (go_at_call 24; (with_reducible refine (rhex4 n hn _).mono ?_); rintro e V2 ⟨rfl, hb⟩)
      refine hK.out _ _ ?s6 (fun hNew => ?r6)
      case s6 => exact QS.below hHeld hb
      clear hK K
      clear hb
      clear hHeld
      have hHeld := hNew
      clear hNew
      refine wpAnyH_take (i := 6) (oi := { dst := some 3, op := Go.Op.assign (Go.Operand.tmp 7), type := 9, pos := "ref.go:207", after := #[{ on := 2, ground := Go.Ground.data }, { on := 5, ground := Go.Ground.chain }, { on := 0, ground := Go.Ground.phase }, { on := 1, ground := Go.Ground.phase }, { on := 2, ground := Go.Ground.phase }, { on := 3, ground := Go.Ground.textOnly Go.Departure.lateStores }, { on := 4, ground := Go.Ground.textOnly Go.Departure.lateStores }, { on := 5, ground := Go.Ground.textOnly Go.Departure.lateStoresUnsure }], guard := none }) (v := ?v7) rfl (by kernel_rfl) (by kernel_rfl) (by kernel_rfl) (fun _ _ _ h => h) (Or.inl ⟨by rfl, ?y7⟩) (by assumption) ?z7
      case y7 => (intro w hSw; (try dsimp only at hSw); go_simp) <;> with_reducible rfl
      try simp only [Act.put, List.setIfInBounds_toArray, List.set_cons_zero, List.set_cons_succ]
      refine wpAnyH_take (i := 7) (oi := { dst := some 4, op := Go.Op.assign (Go.Operand.tmp 10), type := 9, pos := "ref.go:207", after := #[{ on := 5, ground := Go.Ground.data }, { on := 6, ground := Go.Ground.chain }, { on := 0, ground := Go.Ground.phase }, { on := 1, ground := Go.Ground.phase }, { on := 2, ground := Go.Ground.phase }, { on := 3, ground := Go.Ground.phase }, { on := 4, ground := Go.Ground.phase }, { on := 5, ground := Go.Ground.phase }, { on := 6, ground := Go.Ground.phase }], guard := none }) (v := ?v8) rfl (by kernel_rfl) (by kernel_rfl) (by kernel_rfl) (fun _ _ _ h => h) (Or.inl ⟨by rfl, ?y8⟩) (by assumption) ?z8
      case y8 => (intro w hSw; (try dsimp only at hSw); go_simp) <;> with_reducible rfl
      try simp only [Act.put, List.setIfInBounds_toArray, List.set_cons_zero, List.set_cons_succ]
      refine wpAnyH_done (by kernel_rfl) ?_ _
      generalize hV : V2 = V at hHeld ⊢
      clear hV
      have hc := hHeld.1
      go_wp2
      go_ret
      rw [cat]
      rw [cat]
      exact ⟨by simp, hHeld.2.1⟩
set_option maxRecDepth 100000 in
set_option maxHeartbeats 2000000 in
theorem rt_39 (x y s : Int) (n : Nat) (hn : n < 65536) (w : World) : Calls Tryd.prog 14 #[.agg #[.int .i64 39, .int .i64 x, .int .i64 y, .int .i64 s, .int .u16 (n : Nat)]] w fun e w' => e = .returned (.string ⟨(lineL ([108, 100]) ([40 :: (hexs n 4 ++ [41]), [97]])).toArray⟩) ∧ Below w.heap.size w w' := by
  rw [line2]
  have l2 := hexs_len n 2
  have l4 := hexs_len n 4
  have q0 : ¬ 9223372036854775807 < 4 + (hexs n 4).length := by omega
  have q1 : ¬ 9223372036854775807 < 4 + (hexs n 4).length + 4 := by omega
  clear l2 l4
  go_enter Tryd.func14, Tryd.ntmps14
  go_wp2_with fail
  refine wp_region_held_drew (S := (fun w' => (∀ o, w'.cell? ⟨w.heap.size, o, none⟩ = #[Value.int .i64 39, .int .i64 x, .int .i64 y, .int .i64 s, .int .u16 (n : Nat)][o]?) ∧ QR w w')) (by kernel_rfl) (QS.new w #[.int .i64 39, .int .i64 x, .int .i64 y, .int .i64 s, .int .u16 (n : Nat)] 29) (fun hHeld => ?_)
  generalize (w.alloc (.cells #[.int .i64 39, .int .i64 x, .int .i64 y, .int .i64 s, .int .u16 (n : Nat)] 29)).drew = V0 at hHeld ⊢
  refine wpAnyH_take (i := 0) (oi := { dst := some 5, op := Go.Op.fieldAddr 29 (Go.Operand.tmp 1) 4, type := 0, pos := "ref.go:207", after := #[], guard := none }) (v := ?v1) rfl (by kernel_rfl) (by kernel_rfl) (by kernel_rfl) (fun _ _ _ h => h) (Or.inl ⟨by rfl, ?y1⟩) (by assumption) ?z1
  case y1 => (intro w hSw; (try dsimp only at hSw); go_simp) <;> with_reducible rfl
  try simp only [Act.put, List.setIfInBounds_toArray, List.set_cons_zero, List.set_cons_succ]
  refine wpAnyH_take (i := 1) (oi := { dst := some 6, op := Go.Op.load 25 (Go.Operand.tmp 5), type := 25, pos := "ref.go:207", after := #[{ on := 0, ground := Go.Ground.data }], guard := none }) (v := ?v2) rfl (by kernel_rfl) (by kernel_rfl) (by kernel_rfl) (fun _ _ _ h => h) (Or.inl ⟨by rfl, ?y2⟩) (by assumption) ?z2
  case y2 => (intro w hSw; (try dsimp only at hSw); go_simp) <;> with_reducible rfl
  try simp only [Act.put, List.setIfInBounds_toArray, List.set_cons_zero, List.set_cons_succ]
  refine wpAnyH_take (i := 3) (oi := { dst := some 8, op := Go.Op.fieldAddr 29 (Go.Operand.tmp 1) 4, type := 0, pos := "ref.go:207", after := #[], guard := none }) (v := ?v3) rfl (by kernel_rfl) (by kernel_rfl) (by kernel_rfl) (fun _ _ _ h => h) (Or.inl ⟨by rfl, ?y3⟩) (by assumption) ?z3
  case y3 => (intro w hSw; (try dsimp only at hSw); go_simp) <;> with_reducible rfl
  try simp only [Act.put, List.setIfInBounds_toArray, List.set_cons_zero, List.set_cons_succ]
  refine wpAnyH_take (i := 4) (oi := { dst := some 9, op := Go.Op.load 25 (Go.Operand.tmp 8), type := 25, pos := "ref.go:207", after := #[{ on := 3, ground := Go.Ground.data }], guard := none }) (v := ?v4) rfl (by kernel_rfl) (by kernel_rfl) (by kernel_rfl) (fun _ _ _ h => h) (Or.inl ⟨by rfl, ?y4⟩) (by assumption) ?z4
  case y4 => (intro w hSw; (try dsimp only at hSw); go_simp) <;> with_reducible rfl
  try simp only [Act.put, List.setIfInBounds_toArray, List.set_cons_zero, List.set_cons_succ]
  refine wpAnyH_ready (rs := [2]) (by kernel_rfl) (by simp) ?_
  refine (AllReadyH.cons (o := { dst := some 7, op := Go.Op.call { callee := Go.Callee.value (Go.Operand.func 24), args := #[Go.Operand.tmp 6, Go.Operand.const (Go.Value.int Go.IntKind.i64 2)], argTypes := #[25, 3] }, type := 9, pos := "ref.go:207", after := #[{ on := 1, ground := Go.Ground.data }], guard := none }) rfl (fun K hK => ?_) AllReadyH.nil)
  · go_simp
    go_wp2_with (go_at_call 24; (with_reducible refine (rhex2 n hn _).mono ?_); rintro e V1 ⟨rfl, hb⟩)
    refine hK.out _ _ ?s5 (fun hNew => ?r5)
    case s5 => exact QS.below hHeld hb
    clear hK K
    clear hb
    clear hHeld
    have hHeld := hNew
    clear hNew
    refine wpAnyH_ready (rs := [5]) (by kernel_rfl) (by simp) ?_
    refine (AllReadyH.cons (o := { dst := some 10, op := Go.Op.call { callee := Go.Callee.value (Go.Operand.func 24), args := #[Go.Operand.tmp 9, Go.Operand.const (Go.Value.int Go.IntKind.i64 4)], argTypes := #[25, 3] }, type := 9, pos := "ref.go:207", after := #[{ on := 4, ground := Go.Ground.data }, { on := 2, ground := Go.Ground.chain }], guard := none }) rfl (fun K hK => ?_) AllReadyH.nil)
    · go_simp
      go_wp2_with (go_at_call 24; (with_reducible refine (rhex4 n hn _).mono ?_); rintro e V2 ⟨rfl, hb⟩)
      refine hK.out _ _ ?s6 (fun hNew => ?r6)
      case s6 => exact QS.below hHeld hb
      clear hK K
      clear hb
      clear hHeld
      have hHeld := hNew
      clear hNew
      refine wpAnyH_take (i := 6) (oi := { dst := some 3, op := Go.Op.assign (Go.Operand.tmp 7), type := 9, pos := "ref.go:207", after := #[{ on := 2, ground := Go.Ground.data }, { on := 5, ground := Go.Ground.chain }, { on := 0, ground := Go.Ground.phase }, { on := 1, ground := Go.Ground.phase }, { on := 2, ground := Go.Ground.phase }, { on := 3, ground := Go.Ground.textOnly Go.Departure.lateStores }, { on := 4, ground := Go.Ground.textOnly Go.Departure.lateStores }, { on := 5, ground := Go.Ground.textOnly Go.Departure.lateStoresUnsure }], guard := none }) (v := ?v7) rfl (by kernel_rfl) (by kernel_rfl) (by kernel_rfl) (fun _ _ _ h => h) (Or.inl ⟨by rfl, ?y7⟩) (by assumption) ?z7
      case y7 => (intro w hSw; (try dsimp only at hSw); go_simp) <;> with_reducible rfl
      try simp only [Act.put, List.setIfInBounds_toArray, List.set_cons_zero, List.set_cons_succ]
      refine wpAnyH_take (i := 7) (oi := { dst := some 4, op := Go.Op.assign (Go.Operand.tmp 10), type := 9, pos := "ref.go:207", after := #[{ on := 5, ground := Go.Ground.data }, { on := 6, ground := Go.Ground.chain }, { on := 0, ground := Go.Ground.phase }, { on := 1, ground := Go.Ground.phase }, { on := 2, ground := Go.Ground.phase }, { on := 3, ground := Go.Ground.phase }, { on := 4, ground := Go.Ground.phase }, { on := 5, ground := Go.Ground.phase }, { on := 6, ground := Go.Ground.phase }], guard := none }) (v := ?v8) rfl (by kernel_rfl) (by kernel_rfl) (by kernel_rfl) (fun _ _ _ h => h) (Or.inl ⟨by rfl, ?y8⟩) (by assumption) ?z8
      case y8 => (intro w hSw; (try dsimp only at hSw); go_simp) <;> with_reducible rfl
      try simp only [Act.put, List.setIfInBounds_toArray, List.set_cons_zero, List.set_cons_succ]
      refine wpAnyH_done (by kernel_rfl) ?_ _
      generalize hV : V2 = V at hHeld ⊢
      clear hV
      have hc := hHeld.1
      go_wp2
      go_ret
      rw [cat]
      rw [cat]
      exact ⟨by simp, hHeld.2.1⟩
set_option maxRecDepth 100000 in
set_option maxHeartbeats 2000000 in
theorem rt_40 (x y s : Int) (n : Nat) (hn : n < 65536) (w : World) : Calls Tryd.prog 14 #[.agg #[.int .i64 40, .int .i64 x, .int .i64 y, .int .i64 s, .int .u16 (n : Nat)]] w fun e w' => e = .returned (.string ⟨(lineL ([108, 100]) ([40 :: (hexs n 4 ++ [41]), [115, 112]])).toArray⟩) ∧ Below w.heap.size w w' := by
  rw [line2]
  have l2 := hexs_len n 2
  have l4 := hexs_len n 4
  have q0 : ¬ 9223372036854775807 < 4 + (hexs n 4).length := by omega
  have q1 : ¬ 9223372036854775807 < 4 + (hexs n 4).length + 5 := by omega
  clear l2 l4
  go_enter Tryd.func14, Tryd.ntmps14
  go_wp2_with fail
  refine wp_region_held_drew (S := (fun w' => (∀ o, w'.cell? ⟨w.heap.size, o, none⟩ = #[Value.int .i64 40, .int .i64 x, .int .i64 y, .int .i64 s, .int .u16 (n : Nat)][o]?) ∧ QR w w')) (by kernel_rfl) (QS.new w #[.int .i64 40, .int .i64 x, .int .i64 y, .int .i64 s, .int .u16 (n : Nat)] 29) (fun hHeld => ?_)
  generalize (w.alloc (.cells #[.int .i64 40, .int .i64 x, .int .i64 y, .int .i64 s, .int .u16 (n : Nat)] 29)).drew = V0 at hHeld ⊢
  refine wpAnyH_take (i := 0) (oi := { dst := some 5, op := Go.Op.fieldAddr 29 (Go.Operand.tmp 1) 4, type := 0, pos := "ref.go:207", after := #[], guard := none }) (v := ?v1) rfl (by kernel_rfl) (by kernel_rfl) (by kernel_rfl) (fun _ _ _ h => h) (Or.inl ⟨by rfl, ?y1⟩) (by assumption) ?z1
  case y1 => (intro w hSw; (try dsimp only at hSw); go_simp) <;> with_reducible rfl
  try simp only [Act.put, List.setIfInBounds_toArray, List.set_cons_zero, List.set_cons_succ]
  refine wpAnyH_take (i := 1) (oi := { dst := some 6, op := Go.Op.load 25 (Go.Operand.tmp 5), type := 25, pos := "ref.go:207", after := #[{ on := 0, ground := Go.Ground.data }], guard := none }) (v := ?v2) rfl (by kernel_rfl) (by kernel_rfl) (by kernel_rfl) (fun _ _ _ h => h) (Or.inl ⟨by rfl, ?y2⟩) (by assumption) ?z2
  case y2 => (intro w hSw; (try dsimp only at hSw); go_simp) <;> with_reducible rfl
  try simp only [Act.put, List.setIfInBounds_toArray, List.set_cons_zero, List.set_cons_succ]
  refine wpAnyH_take (i := 3) (oi := { dst := some 8, op := Go.Op.fieldAddr 29 (Go.Operand.tmp 1) 4, type := 0, pos := "ref.go:207", after := #[], guard := none }) (v := ?v3) rfl (by kernel_rfl) (by kernel_rfl) (by kernel_rfl) (fun _ _ _ h => h) (Or.inl ⟨by rfl, ?y3⟩) (by assumption) ?z3
  case y3 => (intro w hSw; (try dsimp only at hSw); go_simp) <;> with_reducible rfl
  try simp only [Act.put, List.setIfInBounds_toArray, List.set_cons_zero, List.set_cons_succ]
  refine wpAnyH_take (i := 4) (oi := { dst := some 9, op := Go.Op.load 25 (Go.Operand.tmp 8), type := 25, pos := "ref.go:207", after := #[{ on := 3, ground := Go.Ground.data }], guard := none }) (v := ?v4) rfl (by kernel_rfl) (by kernel_rfl) (by kernel_rfl) (fun _ _ _ h => h) (Or.inl ⟨by rfl, ?y4⟩) (by assumption) ?z4
  case y4 => (intro w hSw; (try dsimp only at hSw); go_simp) <;> with_reducible rfl
  try simp only [Act.put, List.setIfInBounds_toArray, List.set_cons_zero, List.set_cons_succ]
  refine wpAnyH_ready (rs := [2]) (by kernel_rfl) (by simp) ?_
  refine (AllReadyH.cons (o := { dst := some 7, op := Go.Op.call { callee := Go.Callee.value (Go.Operand.func 24), args := #[Go.Operand.tmp 6, Go.Operand.const (Go.Value.int Go.IntKind.i64 2)], argTypes := #[25, 3] }, type := 9, pos := "ref.go:207", after := #[{ on := 1, ground := Go.Ground.data }], guard := none }) rfl (fun K hK => ?_) AllReadyH.nil)
  · go_simp
    go_wp2_with (go_at_call 24; (with_reducible refine (rhex2 n hn _).mono ?_); rintro e V1 ⟨rfl, hb⟩)
    refine hK.out _ _ ?s5 (fun hNew => ?r5)
    case s5 => exact QS.below hHeld hb
    clear hK K
    clear hb
    clear hHeld
    have hHeld := hNew
    clear hNew
    refine wpAnyH_ready (rs := [5]) (by kernel_rfl) (by simp) ?_
    refine (AllReadyH.cons (o := { dst := some 10, op := Go.Op.call { callee := Go.Callee.value (Go.Operand.func 24), args := #[Go.Operand.tmp 9, Go.Operand.const (Go.Value.int Go.IntKind.i64 4)], argTypes := #[25, 3] }, type := 9, pos := "ref.go:207", after := #[{ on := 4, ground := Go.Ground.data }, { on := 2, ground := Go.Ground.chain }], guard := none }) rfl (fun K hK => ?_) AllReadyH.nil)
    · go_simp
      go_wp2_with (go_at_call 24; (with_reducible refine (rhex4 n hn _).mono ?_); rintro e V2 ⟨rfl, hb⟩)
      refine hK.out _ _ ?s6 (fun hNew => ?r6)
      case s6 => exact QS.below hHeld hb
      clear hK K
      clear hb
      clear hHeld
      have hHeld := hNew
      clear hNew
      refine wpAnyH_take (i := 6) (oi := { dst := some 3, op := Go.Op.assign (Go.Operand.tmp 7), type := 9, pos := "ref.go:207", after := #[{ on := 2, ground := Go.Ground.data }, { on := 5, ground := Go.Ground.chain }, { on := 0, ground := Go.Ground.phase }, { on := 1, ground := Go.Ground.phase }, { on := 2, ground := Go.Ground.phase }, { on := 3, ground := Go.Ground.textOnly Go.Departure.lateStores }, { on := 4, ground := Go.Ground.textOnly Go.Departure.lateStores }, { on := 5, ground := Go.Ground.textOnly Go.Departure.lateStoresUnsure }], guard := none }) (v := ?v7) rfl (by kernel_rfl) (by kernel_rfl) (by kernel_rfl) (fun _ _ _ h => h) (Or.inl ⟨by rfl, ?y7⟩) (by assumption) ?z7
      case y7 => (intro w hSw; (try dsimp only at hSw); go_simp) <;> with_reducible rfl
      try simp only [Act.put, List.setIfInBounds_toArray, List.set_cons_zero, List.set_cons_succ]
      refine wpAnyH_take (i := 7) (oi := { dst := some 4, op := Go.Op.assign (Go.Operand.tmp 10), type := 9, pos := "ref.go:207", after := #[{ on := 5, ground := Go.Ground.data }, { on := 6, ground := Go.Ground.chain }, { on := 0, ground := Go.Ground.phase }, { on := 1, ground := Go.Ground.phase }, { on := 2, ground := Go.Ground.phase }, { on := 3, ground := Go.Ground.phase }, { on := 4, ground := Go.Ground.phase }, { on := 5, ground := Go.Ground.phase }, { on := 6, ground := Go.Ground.phase }], guard := none }) (v := ?v8) rfl (by kernel_rfl) (by kernel_rfl) (by kernel_rfl) (fun _ _ _ h => h) (Or.inl ⟨by rfl, ?y8⟩) (by assumption) ?z8
      case y8 => (intro w hSw; (try dsimp only at hSw); go_simp) <;> with_reducible rfl
      try simp only [Act.put, List.setIfInBounds_toArray, List.set_cons_zero, List.set_cons_succ]
      refine wpAnyH_done (by kernel_rfl) ?_ _
      generalize hV : V2 = V at hHeld ⊢
      clear hV
      have hc := hHeld.1
      go_wp2
      go_ret
      rw [cat]
      rw [cat]
      exact ⟨by simp, hHeld.2.1⟩
set_option maxRecDepth 100000 in
set_option maxHeartbeats 2000000 in
theorem rt_41 (x y s : Int) (n : Nat) (hn : n < 65536) (w : World) : Calls Tryd.prog 14 #[.agg #[.int .i64 41, .int .i64 x, .int .i64 y, .int .i64 s, .int .u16 (n : Nat)]] w fun e w' => e = .returned (.string ⟨(lineL ([97, 100, 100]) ([[115, 112], hexs n 2])).toArray⟩) ∧ Below w.heap.size w w' := by
  rw [line2]
  have l2 := hexs_len n 2
  have l4 := hexs_len n 4
  have q0 : ¬ 9223372036854775807 < 8 + (hexs n 2).length := by omega
  clear l2 l4
  go_enter Tryd.func14, Tryd.ntmps14
  go_wp2_with fail
  refine wp_region_held_drew (S := (fun w' => (∀ o, w'.cell? ⟨w.heap.size, o, none⟩ = #[Value.int .i64 41, .int .i64 x, .int .i64 y, .int .i64 s, .int .u16 (n : Nat)][o]?) ∧ QR w w')) (by kernel_rfl) (QS.new w #[.int .i64 41, .int .i64 x, .int .i64 y, .int .i64 s, .int .u16 (n : Nat)] 29) (fun hHeld => ?_)
  generalize (w.alloc (.cells #[.int .i64 41, .int .i64 x, .int .i64 y, .int .i64 s, .int .u16 (n : Nat)] 29)).drew = V0 at hHeld ⊢
  refine wpAnyH_take (i := 0) (oi := { dst := some 5, op := Go.Op.fieldAddr 29 (Go.Operand.tmp 1) 4, type := 0, pos := "ref.go:207", after := #[], guard := none }) (v := ?v1) rfl (by kernel_rfl) (by kernel_rfl) (by kernel_rfl) (fun _ _ _ h => h) (Or.inl ⟨by rfl, ?y1⟩) (by assumption) ?z1
  case y1 => (intro w hSw; (try dsimp only at hSw); go_simp) <;> with_reducible rfl
  try simp only [Act.put, List.setIfInBounds_toArray, List.set_cons_zero, List.set_cons_succ]
  refine wpAnyH_take (i := 1) (oi := { dst := some 6, op := Go.Op.load 25 (Go.Operand.tmp 5), type := 25, pos := "ref.go:207", after := #[{ on := 0, ground := Go.Ground.data }], guard := none }) (v := ?v2) rfl (by kernel_rfl) (by kernel_rfl) (by kernel_rfl) (fun _ _ _ h => h) (Or.inl ⟨by rfl, ?y2⟩) (by assumption) ?z2
  case y2 => (intro w hSw; (try dsimp only at hSw); go_simp) <;> with_reducible rfl
  try simp only [Act.put, List.setIfInBounds_toArray, List.set_cons_zero, List.set_cons_succ]
  refine wpAnyH_take (i := 3) (oi := { dst := some 8, op := Go.Op.fieldAddr 29 (Go.Operand.tmp 1) 4, type := 0, pos := "ref.go:207", after := #[], guard := none }) (v := ?v3) rfl (by kernel_rfl) (by kernel_rfl) (by kernel_rfl) (fun _ _ _ h => h) (Or.inl ⟨by rfl, ?y3⟩) (by assumption) ?z3
  case y3 => (intro w hSw; (try dsimp only at hSw); go_simp) <;> with_reducible rfl
  try simp only [Act.put, List.setIfInBounds_toArray, List.set_cons_zero, List.set_cons_succ]
  refine wpAnyH_take (i := 4) (oi := { dst := some 9, op := Go.Op.load 25 (Go.Operand.tmp 8), type := 25, pos := "ref.go:207", after := #[{ on := 3, ground := Go.Ground.data }], guard := none }) (v := ?v4) rfl (by kernel_rfl) (by kernel_rfl) (by kernel_rfl) (fun _ _ _ h => h) (Or.inl ⟨by rfl, ?y4⟩) (by assumption) ?z4
  case y4 => (intro w hSw; (try dsimp only at hSw); go_simp) <;> with_reducible rfl
  try simp only [Act.put, List.setIfInBounds_toArray, List.set_cons_zero, List.set_cons_succ]
  refine wpAnyH_ready (rs := [2]) (by kernel_rfl) (by simp) ?_
  refine (AllReadyH.cons (o := { dst := some 7, op := Go.Op.call { callee := Go.Callee.value (Go.Operand.func 24), args := #[Go.Operand.tmp 6, Go.Operand.const (Go.Value.int Go.IntKind.i64 2)], argTypes := #[25, 3] }, type := 9, pos := "ref.go:207", after := #[{ on := 1, ground := Go.Ground.data }], guard := none }) rfl (fun K hK => ?_) AllReadyH.nil)
  · go_simp
    go_wp2_with (go_at_call 24; (with_reducible refine (rhex2 n hn _).mono ?_); rintro e V1 ⟨rfl, hb⟩)
    refine hK.out _ _ ?s5 (fun hNew => ?r5)
    case s5 => exact QS.below hHeld hb
    clear hK K
    clear hb
    clear hHeld
    have hHeld := hNew
    clear hNew
    refine wpAnyH_ready (rs := [5]) (by kernel_rfl) (by simp) ?_
    refine (AllReadyH.cons (o := { dst := some 10, op := Go.Op.call { callee := Go.Callee.value (Go.Operand.func 24), args := #[Go.Operand.tmp 9, Go.Operand.const (Go.Value.int Go.IntKind.i64 4)], argTypes := #[25, 3] }, type := 9, pos := "ref.go:207", after := #[{ on := 4, ground := Go.Ground.data }, { on := 2, ground := Go.Ground.chain }], guard := none }) rfl (fun K hK => ?_) AllReadyH.nil)
    · go_simp
      go_wp2_with (go_at_call 24; (with_reducible refine (rhex4 n hn _).mono ?_); rintro e V2 ⟨rfl, hb⟩)
      refine hK.out _ _ ?s6 (fun hNew => ?r6)
      case s6 => exact QS.below hHeld hb
      clear hK K
      clear hb
      clear hHeld
      have hHeld := hNew
      clear hNew
      refine wpAnyH_take (i := 6) (oi := { dst := some 3, op := Go.Op.assign (Go.Operand.tmp 7), type := 9, pos := "ref.go:207", after := #[{ on := 2, ground := Go.Ground.data }, { on := 5, ground := Go.Ground.chain }, { on := 0, ground := Go.Ground.phase }, { on := 1, ground := Go.Ground.phase }, { on := 2, ground := Go.Ground.phase }, { on := 3, ground := Go.Ground.textOnly Go.Departure.lateStores }, { on := 4, ground := Go.Ground.textOnly Go.Departure.lateStores }, { on := 5, ground := Go.Ground.textOnly Go.Departure.lateStoresUnsure }], guard := none }) (v := ?v7) rfl (by kernel_rfl) (by kernel_rfl) (by kernel_rfl) (fun _ _ _ h => h) (Or.inl ⟨by rfl, ?y7⟩) (by assumption) ?z7
      case y7 => (intro w hSw; (try dsimp only at hSw); go_simp) <;> with_reducible rfl
      try simp only [Act.put, List.setIfInBounds_toArray, List.set_cons_zero, List.set_cons_succ]
      refine wpAnyH_take (i := 7) (oi := { dst := some 4, op := Go.Op.assign (Go.Operand.tmp 10), type := 9, pos := "ref.go:207", after := #[{ on := 5, ground := Go.Ground.data }, { on := 6, ground := Go.Ground.chain }, { on := 0, ground := Go.Ground.phase }, { on := 1, ground := Go.Ground.phase }, { on := 2, ground := Go.Ground.phase }, { on := 3, ground := Go.Ground.phase }, { on := 4, ground := Go.Ground.phase }, { on := 5, ground := Go.Ground.phase }, { on := 6, ground := Go.Ground.phase }], guard := none }) (v := ?v8) rfl (by kernel_rfl) (by kernel_rfl) (by kernel_rfl) (fun _ _ _ h => h) (Or.inl ⟨by rfl, ?y8⟩) (by assumption) ?z8
      case y8 => (intro w hSw; (try dsimp only at hSw); go_simp) <;> with_reducible rfl
      try simp only [Act.put, List.setIfInBounds_toArray, List.set_cons_zero, List.set_cons_succ]
      refine wpAnyH_done (by kernel_rfl) ?_ _
      generalize hV : V2 = V at hHeld ⊢
      clear hV
      have hc := hHeld.1
      go_wp2
      go_ret
      rw [cat]
      exact ⟨by simp, hHeld.2.1⟩
set_option maxRecDepth 100000 in
set_option maxHeartbeats 2000000 in
theorem rt_42 (x y s : Int) (n : Nat) (hn : n < 65536) (w : World) : Calls Tryd.prog 14 #[.agg #[.int .i64 42, .int .i64 x, .int .i64 y, .int .i64 s, .int .u16 (n : Nat)]] w fun e w' => e = .returned (.string ⟨(lineL ([108, 100]) ([[104, 108], 115 :: 112 :: 43 :: hexs n 2])).toArray⟩) ∧ Below w.heap.size w w' := by
  rw [line2]
  have l2 := hexs_len n 2
  have l4 := hexs_len n 4
  have q0 : ¬ 9223372036854775807 < 10 + (hexs n 2).length := by omega
  clear l2 l4
  go_enter Tryd.func14, Tryd.ntmps14
  go_wp2_with fail
  refine wp_region_held_drew (S := (fun w' => (∀ o, w'.cell? ⟨w.heap.size, o, none⟩ = #[Value.int .i64 42, .int .i64 x, .int .i64 y, .int .i64 s, .int .u16 (n : Nat)][o]?) ∧ QR w w')) (by kernel_rfl) (QS.new w #[.int .i64 42, .int .i64 x, .int .i64 y, .int .i64 s, .int .u16 (n : Nat)] 29) (fun hHeld => ?_)
  generalize (w.alloc (.cells #[.int .i64 42, .int .i64 x, .int .i64 y, .int .i64 s, .int .u16 (n : Nat)] 29)).drew = V0 at hHeld ⊢
  refine wpAnyH_take (i := 0) (oi := { dst := some 5, op := Go.Op.fieldAddr 29 (Go.Operand.tmp 1) 4, type := 0, pos := "ref.go:207", after := #[], guard := none }) (v := ?v1) rfl (by kernel_rfl) (by kernel_rfl) (by kernel_rfl) (fun _ _ _ h => h) (Or.inl ⟨by rfl, ?y1⟩) (by assumption) ?z1
  case y1 => (intro w hSw; (try dsimp only at hSw); go_simp) <;> with_reducible rfl
  try simp only [Act.put, List.setIfInBounds_toArray, List.set_cons_zero, List.set_cons_succ]
  refine wpAnyH_take (i := 1) (oi := { dst := some 6, op := Go.Op.load 25 (Go.Operand.tmp 5), type := 25, pos := "ref.go:207", after := #[{ on := 0, ground := Go.Ground.data }], guard := none }) (v := ?v2) rfl (by kernel_rfl) (by kernel_rfl) (by kernel_rfl) (fun _ _ _ h => h) (Or.inl ⟨by rfl, ?y2⟩) (by assumption) ?z2
  case y2 => (intro w hSw; (try dsimp only at hSw); go_simp) <;> with_reducible rfl
  try simp only [Act.put, List.setIfInBounds_toArray, List.set_cons_zero, List.set_cons_succ]
  refine wpAnyH_take (i := 3) (oi := { dst := some 8, op := Go.Op.fieldAddr 29 (Go.Operand.tmp 1) 4, type := 0, pos := "ref.go:207", after := #[], guard := none }) (v := ?v3) rfl (by kernel_rfl) (by kernel_rfl) (by kernel_rfl) (fun _ _ _ h => h) (Or.inl ⟨by rfl, ?y3⟩) (by assumption) ?z3
  case y3 => (intro w hSw; (try dsimp only at hSw); go_simp) <;> with_reducible rfl
  try simp only [Act.put, List.setIfInBounds_toArray, List.set_cons_zero, List.set_cons_succ]
  refine wpAnyH_take (i := 4) (oi := { dst := some 9, op := Go.Op.load 25 (Go.Operand.tmp 8), type := 25, pos := "ref.go:207", after := #[{ on := 3, ground := Go.Ground.data }], guard := none }) (v := ?v4) rfl (by kernel_rfl) (by kernel_rfl) (by kernel_rfl) (fun _ _ _ h => h) (Or.inl ⟨by rfl, ?y4⟩) (by assumption) ?z4
  case y4 => (intro w hSw; (try dsimp only at hSw); go_simp) <;> with_reducible rfl
  try simp only [Act.put, List.setIfInBounds_toArray, List.set_cons_zero, List.set_cons_succ]
  refine wpAnyH_ready (rs := [2]) (by kernel_rfl) (by simp) ?_
  refine (AllReadyH.cons (o := { dst := some 7, op := Go.Op.call { callee := Go.Callee.value (Go.Operand.func 24), args := #[Go.Operand.tmp 6, Go.Operand.const (Go.Value.int Go.IntKind.i64 2)], argTypes := #[25, 3] }, type := 9, pos := "ref.go:207", after := #[{ on := 1, ground := Go.Ground.data }], guard := none }) rfl (fun K hK => ?_) AllReadyH.nil)
  · go_simp
    go_wp2_with (go_at_call 24; (with_reducible refine (rhex2 n hn _).mono ?_); rintro e V1 ⟨rfl, hb⟩)
    refine hK.out _ _ ?s5 (fun hNew => ?r5)
    case s5 => exact QS.below hHeld hb
    clear hK K
    clear hb
    clear hHeld
    have hHeld := hNew
    clear hNew
    refine wpAnyH_ready (rs := [5]) (by kernel_rfl) (by simp) ?_
    refine (AllReadyH.cons (o := { dst := some 10, op := Go.Op.call { callee := Go.Callee.value (Go.Operand.func 24), args := #[Go.Operand.tmp 9, Go.Operand.const (Go.Value.int Go.IntKind.i64 4)], argTypes := #[25, 3] }, type := 9, pos := "ref.go:207", after := #[{ on := 4, ground := Go.Ground.data }, { on := 2, ground := Go.Ground.chain }], guard := none }) rfl (fun K hK => ?_) AllReadyH.nil)
    · go_simp
      go_wp2_with (go_at_call 24; (with_reducible refine (rhex4 n hn _).mono ?_); rintro e V2 ⟨rfl, hb⟩)
      refine hK.out _ _ ?s6 (fun hNew => ?r6)
      case s6 => exact QS.below hHeld hb
      clear hK K
      clear hb
      clear hHeld
      have hHeld := hNew
      clear hNew
      refine wpAnyH_take (i := 6) (oi := { dst := some 3, op := Go.Op.assign (Go.Operand.tmp 7), type := 9, pos := "ref.go:207", after := #[{ on := 2, ground := Go.Ground.data }, { on := 5, ground := Go.Ground.chain }, { on := 0, ground := Go.Ground.phase }, { on := 1, ground := Go.Ground.phase }, { on := 2, ground := Go.Ground.phase }, { on := 3, ground := Go.Ground.textOnly Go.Departure.lateStores }, { on := 4, ground := Go.Ground.textOnly Go.Departure.lateStores }, { on := 5, ground := Go.Ground.textOnly Go.Departure.lateStoresUnsure }], guard := none }) (v := ?v7) rfl (by kernel_rfl) (by kernel_rfl) (by kernel_rfl) (fun _ _ _ h => h) (Or.inl ⟨by rfl, ?y7⟩) (by assumption) ?z7
      case y7 => (intro w hSw; (try dsimp only at hSw); go_simp) <;> with_reducible rfl
      try simp only [Act.put, List.setIfInBounds_toArray, List.set_cons_zero, List.set_cons_succ]
      refine wpAnyH_take (i := 7) (oi := { dst := some 4, op := Go.Op.assign (Go.Operand.tmp 10), type := 9, pos := "ref.go:207", after := #[{ on := 5, ground := Go.Ground.data }, { on := 6, ground := Go.Ground.chain }, { on := 0, ground := Go.Ground.phase }, { on := 1, ground := Go.Ground.phase }, { on := 2, ground := Go.Ground.phase }, { on := 3, ground := Go.Ground.phase }, { on := 4, ground := Go.Ground.phase }, { on := 5, ground := Go.Ground.phase }, { on := 6, ground := Go.Ground.phase }], guard := none }) (v := ?v8) rfl (by kernel_rfl) (by kernel_rfl) (by kernel_rfl) (fun _ _ _ h => h) (Or.inl ⟨by rfl, ?y8⟩) (by assumption) ?z8
      case y8 => (intro w hSw; (try dsimp only at hSw); go_simp) <;> with_reducible rfl
      try simp only [Act.put, List.setIfInBounds_toArray, List.set_cons_zero, List.set_cons_succ]
      refine wpAnyH_done (by kernel_rfl) ?_ _
      generalize hV : V2 = V at hHeld ⊢
      clear hV
      have hc := hHeld.1
      go_wp2
      go_ret
      rw [cat]
      exact ⟨by simp, hHeld.2.1⟩
set_option maxRecDepth 100000 in
set_option maxHeartbeats 2000000 in
theorem rt_43 (x y s : Int) (n : Nat) (hn : n < 65536) (w : World) : Calls Tryd.prog 14 #[.agg #[.int .i64 43, .int .i64 x, .int .i64 y, .int .i64 s, .int .u16 (n : Nat)]] w fun e w' => e = .returned (.string ⟨(lineL ([108, 100]) ([[115, 112], [104, 108]])).toArray⟩) ∧ Below w.heap.size w w' := by
  rw [line2]
  go_enter Tryd.func14, Tryd.ntmps14
  go_wp2_with fail
  refine wp_region_held_drew (S := (fun w' => (∀ o, w'.cell? ⟨w.heap.size, o, none⟩ = #[Value.int .i64 43, .int .i64 x, .int .i64 y, .int .i64 s, .int .u16 (n : Nat)][o]?) ∧ QR w w')) (by kernel_rfl) (QS.new w #[.int .i64 43, .int .i64 x, .int .i64 y, .int .i64 s, .int .u16 (n : Nat)] 29) (fun hHeld => ?_)
  generalize (w.alloc (.cells #[.int .i64 43, .int .i64 x, .int .i64 y, .int .i64 s, .int .u16 (n : Nat)] 29)).drew = V0 at hHeld ⊢
  refine wpAnyH_take (i := 0) (oi := { dst := some 5, op := Go.Op.fieldAddr 29 (Go.Operand.tmp 1) 4, type := 0, pos := "ref.go:207", after := #[], guard := none }) (v := ?v1) rfl (by kernel_rfl) (by kernel_rfl) (by kernel_rfl) (fun _ _ _ h => h) (Or.inl ⟨by rfl, ?y1⟩) (by assumption) ?z1
  case y1 => (intro w hSw; (try dsimp only at hSw); go_simp) <;> with_reducible rfl
  try simp only [Act.put, List.setIfInBounds_toArray, List.set_cons_zero, List.set_cons_succ]
  refine wpAnyH_take (i := 1) (oi := { dst := some 6, op := Go.Op.load 25 (Go.Operand.tmp 5), type := 25, pos := "ref.go:207", after := #[{ on := 0, ground := Go.Ground.data }], guard := none }) (v := ?v2) rfl (by kernel_rfl) (by kernel_rfl) (by kernel_rfl) (fun _ _ _ h => h) (Or.inl ⟨by rfl, ?y2⟩) (by assumption) ?z2
  case y2 => (intro w hSw; (try dsimp only at hSw); go_simp) <;> with_reducible rfl
  try simp only [Act.put, List.setIfInBounds_toArray, List.set_cons_zero, List.set_cons_succ]
  refine wpAnyH_take (i := 3) (oi := { dst := some 8, op := Go.Op.fieldAddr 29 (Go.Operand.tmp 1) 4, type := 0, pos := "ref.go:207", after := #[], guard := none }) (v := ?v3) rfl (by kernel_rfl) (by kernel_rfl) (by kernel_rfl) (fun _ _ _ h => h) (Or.inl ⟨by rfl, ?y3⟩) (by assumption) ?z3
  case y3 => (intro w hSw; (try dsimp only at hSw); go_simp) <;> with_reducible rfl
  try simp only [Act.put, List.setIfInBounds_toArray, List.set_cons_zero, List.set_cons_succ]
  refine wpAnyH_take (i := 4) (oi := { dst := some 9, op := Go.Op.load 25 (Go.Operand.tmp 8), type := 25, pos := "ref.go:207", after := #[{ on := 3, ground := Go.Ground.data }], guard := none }) (v := ?v4) rfl (by kernel_rfl) (by kernel_rfl) (by kernel_rfl) (fun _ _ _ h => h) (Or.inl ⟨by rfl, ?y4⟩) (by assumption) ?z4
  case y4 => (intro w hSw; (try dsimp only at hSw); go_simp) <;> with_reducible rfl
  try simp only [Act.put, List.setIfInBounds_toArray, List.set_cons_zero, List.set_cons_succ]
  refine wpAnyH_ready (rs := [2]) (by kernel_rfl) (by simp) ?_
  refine (AllReadyH.cons (o := { dst := some 7, op := Go.Op.call { callee := Go.Callee.value (Go.Operand.func 24), args := #[Go.Operand.tmp 6, Go.Operand.const (Go.Value.int Go.IntKind.i64 2)], argTypes := #[25, 3] }, type := 9, pos := "ref.go:207", after := #[{ on := 1, ground := Go.Ground.data }], guard := none }) rfl (fun K hK => ?_) AllReadyH.nil)
  · go_simp
    go_wp2_with (go_at_call 24; (with_reducible refine (rhex2 n hn _).mono ?_); rintro e V1 ⟨rfl, hb⟩)
    refine hK.out _ _ ?s5 (fun hNew => ?r5)
    case s5 => exact QS.below hHeld hb
    clear hK K
    clear hb
    clear hHeld
    have hHeld := hNew
    clear hNew
    refine wpAnyH_ready (rs := [5]) (by kernel_rfl) (by simp) ?_
    refine (AllReadyH.cons (o := { dst := some 10, op := Go.Op.call { callee := Go.Callee.value (Go.Operand.func 24), args := #[Go.Operand.tmp 9, Go.Operand.const (Go.Value.int Go.IntKind.i64 4)], argTypes := #[25, 3] }, type := 9, pos := "ref.go:207", after := #[{ on := 4, ground := Go.Ground.data }, { on := 2, ground := Go.Ground.chain }], guard := none }) rfl (fun K hK => ?_) AllReadyH.nil)
    · go_simp
      go_wp2_with (go_at_call 24; (with_reducible refine (rhex4 n hn _).mono ?_); rintro e V2 ⟨rfl, hb⟩)
      refine hK.out _ _ ?s6 (fun hNew => ?r6)
      case s6 => exact QS.below hHeld hb
      clear hK K
      clear hb
      clear hHeld
      have hHeld := hNew
      clear hNew
      refine wpAnyH_take (i := 6) (oi := { dst := some 3, op := Go.Op.assign (Go.Operand.tmp 7), type := 9, pos := "ref.go:207", after := #[{ on := 2, ground := Go.Ground.data }, { on := 5, ground := Go.Ground.chain }, { on := 0, ground := Go.Ground.phase }, { on := 1, ground := Go.Ground.phase }, { on := 2, ground := Go.Ground.phase }, { on := 3, ground := Go.Ground.textOnly Go.Departure.lateStores }, { on := 4, ground := Go.Ground.textOnly Go.Departure.lateStores }, { on := 5, ground := Go.Ground.textOnly Go.Departure.lateStoresUnsure }], guard := none }) (v := ?v7) rfl (by kernel_rfl) (by kernel_rfl) (by kernel_rfl) (fun _ _ _ h => h) (Or.inl ⟨by rfl, ?y7⟩) (by assumption) ?z7
      case y7 => (intro w hSw; (try dsimp only at hSw); go_simp) <;> with_reducible rfl
      try simp only [Act.put, List.setIfInBounds_toArray, List.set_cons_zero, List.set_cons_succ]
      refine wpAnyH_take (i := 7) (oi := { dst := some 4, op := Go.Op.assign (Go.Operand.tmp 10), type := 9, pos := "ref.go:207", after := #[{ on := 5, ground := Go.Ground.data }, { on := 6, ground := Go.Ground.chain }, { on := 0, ground := Go.Ground.phase }, { on := 1, ground := Go.Ground.phase }, { on := 2, ground := Go.Ground.phase }, { on := 3, ground := Go.Ground.phase }, { on := 4, ground := Go.Ground.phase }, { on := 5, ground := Go.Ground.phase }, { on := 6, ground := Go.Ground.phase }], guard := none }) (v := ?v8) rfl (by kernel_rfl) (by kernel_rfl) (by kernel_rfl) (fun _ _ _ h => h) (Or.inl ⟨by rfl, ?y8⟩) (by assumption) ?z8
      case y8 => (intro w hSw; (try dsimp only at hSw); go_simp) <;> with_reducible rfl
      try simp only [Act.put, List.setIfInBounds_toArray, List.set_cons_zero, List.set_cons_succ]
      refine wpAnyH_done (by kernel_rfl) ?_ _
      generalize hV : V2 = V at hHeld ⊢
      clear hV
      have hc := hHeld.1
      go_wp2
      go_ret
      exact ⟨rfl, hHeld.2.1⟩
set_option maxRecDepth 100000 in
set_option maxHeartbeats 2000000 in
theorem rt_44 (x y s : Int) (n : Nat) (hn : n < 65536) (w : World) : Calls Tryd.prog 14 #[.agg #[.int .i64 44, .int .i64 x, .int .i64 y, .int .i64 s, .int .u16 (n : Nat)]] w fun e w' => e = .returned (.string ⟨(lineL ([98, 105, 116]) ([pickL x bitN, pickL y placeN])).toArray⟩) ∧ Below w.heap.size w w' := by
  rw [line2]
  have l2 := hexs_len n 2
  have l4 := hexs_len n 4
  have t1 := pick_len x bitN (by decide)
  have t2 := pick_len y placeN (by decide)
  have q0 : ¬ 9223372036854775807 < 4 + (pickL x bitN).length := by omega
  have q1 : ¬ 9223372036854775807 < 4 + (pickL x bitN).length + 2 := by omega
  have q2 : ¬ 9223372036854775807 < 4 + (pickL x bitN).length + 2 + (pickL y placeN).length := by omega
  clear l2 l4
  go_enter Tryd.func14, Tryd.ntmps14
  go_wp2_with fail
  refine wp_region_held_drew (S := (fun w' => (∀ o, w'.cell? ⟨w.heap.size, o, none⟩ = #[Value.int .i64 44, .int .i64 x, .int .i64 y, .int .i64 s, .int .u16 (n : Nat)][o]?) ∧ QR w w')) (by kernel_rfl) (QS.new w #[.int .i64 44, .int .i64 x, .int .i64 y, .int .i64 s, .int .u16 (n : Nat)] 29) (fun hHeld => ?_)
  generalize (w.alloc (.cells #[.int .i64 44, .int .i64 x, .int .i64 y, .int .i64 s, .int .u16 (n : Nat)] 29)).drew = V0 at hHeld ⊢
  refine wpAnyH_take (i := 0) (oi := { dst := some 5, op := Go.Op.fieldAddr 29 (Go.Operand.tmp 1) 4, type := 0, pos := "ref.go:207", after := #[], guard := none }) (v := ?v1) rfl (by kernel_rfl) (by kernel_rfl) (by kernel_rfl) (fun _ _ _ h => h) (Or.inl ⟨by rfl, ?y1⟩) (by assumption) ?z1
  case y1 => (intro w hSw; (try dsimp only at hSw); go_simp) <;> with_reducible rfl
  try simp only [Act.put, List.setIfInBounds_toArray, List.set_cons_zero, List.set_cons_succ]
  refine wpAnyH_take (i := 1) (oi := { dst := some 6, op := Go.Op.load 25 (Go.Operand.tmp 5), type := 25, pos := "ref.go:207", after := #[{ on := 0, ground := Go.Ground.data }], guard := none }) (v := ?v2) rfl (by kernel_rfl) (by kernel_rfl) (by kernel_rfl) (fun _ _ _ h => h) (Or.inl ⟨by rfl, ?y2⟩) (by assumption) ?z2
  case y2 => (intro w hSw; (try dsimp only at hSw); go_simp) <;> with_reducible rfl
  try simp only [Act.put, List.setIfInBounds_toArray, List.set_cons_zero, List.set_cons_succ]
  refine wpAnyH_take (i := 3) (oi := { dst := some 8, op := Go.Op.fieldAddr 29 (Go.Operand.tmp 1) 4, type := 0, pos := "ref.go:207", after := #[], guard := none }) (v := ?v3) rfl (by kernel_rfl) (by kernel_rfl) (by kernel_rfl) (fun _ _ _ h => h) (Or.inl ⟨by rfl, ?y3⟩) (by assumption) ?z3
  case y3 => (intro w hSw; (try dsimp only at hSw); go_simp) <;> with_reducible rfl
  try simp only [Act.put, List.setIfInBounds_toArray, List.set_cons_zero, List.set_cons_succ]
  refine wpAnyH_take (i := 4) (oi := { dst := some 9, op := Go.Op.load 25 (Go.Operand.tmp 8), type := 25, pos := "ref.go:207", after := #[{ on := 3, ground := Go.Ground.data }], guard := none }) (v := ?v4) rfl (by kernel_rfl) (by kernel_rfl) (by kernel_rfl) (fun _ _ _ h => h) (Or.inl ⟨by rfl, ?y4⟩) (by assumption) ?z4
  case y4 => (intro w hSw; (try dsimp only at hSw); go_simp) <;> with_reducible rfl
  try simp only [Act.put, List.setIfInBounds_toArray, List.set_cons_zero, List.set_cons_succ]
  refine wpAnyH_ready (rs := [2]) (by kernel_rfl) (by simp) ?_
  refine (AllReadyH.cons (o := { dst := some 7, op := Go.Op.call { callee := Go.Callee.value (Go.Operand.func 24), args := #[Go.Operand.tmp 6, Go.Operand.const (Go.Value.int Go.IntKind.i64 2)], argTypes := #[25, 3] }, type := 9, pos := "ref.go:207", after := #[{ on := 1, ground := Go.Ground.data }], guard := none }) rfl (fun K hK => ?_) AllReadyH.nil)
  · go_simp
    go_wp2_with (go_at_call 24; (with_reducible refine (rhex2 n hn _).mono ?_); rintro e V1 ⟨rfl, hb⟩)
    refine hK.out _ _ ?s5 (fun hNew => ?r5)
    case s5 => exact QS.below hHeld hb
    clear hK K
    clear hb
    clear hHeld
    have hHeld := hNew
    clear hNew
    refine wpAnyH_ready (rs := [5]) (by kernel_rfl) (by simp) ?_
    refine (AllReadyH.cons (o := { dst := some 10, op := Go.Op.call { callee := Go.Callee.value (Go.Operand.func 24), args := #[Go.Operand.tmp 9, Go.Operand.const (Go.Value.int Go.IntKind.i64 4)], argTypes := #[25, 3] }, type := 9, pos := "ref.go:207", after := #[{ on := 4, ground := Go.Ground.data }, { on := 2, ground := Go.Ground.chain }], guard := none }) rfl (fun K hK => ?_) AllReadyH.nil)
    · go_simp
      go_wp2_with (go_at_call 24; (with_reducible refine (rhex4 n hn _).mono ?_); rintro e V2 ⟨rfl, hb⟩)
      refine hK.out _ _ ?s6 (fun hNew => ?r6)
      case s6 => exact QS.below hHeld hb
      clear hK K
      clear hb
      clear hHeld
      have hHeld := hNew
      clear hNew
      refine wpAnyH_take (i := 6) (oi := { dst := some 3, op := Go.Op.assign (Go.Operand.tmp 7), type := 9, pos := "ref.go:207", after := #[{ on := 2, ground := Go.Ground.data }, { on := 5, ground := Go.Ground.chain }, { on := 0, ground := Go.Ground.phase }, { on := 1, ground := Go.Ground.phase }, { on := 2, ground := Go.Ground.phase }, { on := 3, ground := Go.Ground.textOnly Go.Departure.lateStores }, { on := 4, ground := Go.Ground.textOnly Go.Departure.lateStores }, { on := 5, ground := Go.Ground.textOnly Go.Departure.lateStoresUnsure }], guard := none }) (v := ?v7) rfl (by kernel_rfl) (by kernel_rfl) (by kernel_rfl) (fun _ _ _ h => h) (Or.inl ⟨by rfl, ?y7⟩) (by assumption) ?z7
      case y7 => (intro w hSw; (try dsimp only at hSw); go_simp) <;> with_reducible rfl
      try simp only [Act.put, List.setIfInBounds_toArray, List.set_cons_zero, List.set_cons_succ]
      refine wpAnyH_take (i := 7) (oi := { dst := some 4, op := Go.Op.assign (Go.Operand.tmp 10), type := 9, pos := "ref.go:207", after := #[{ on := 5, ground := Go.Ground.data }, { on := 6, ground := Go.Ground.chain }, { on := 0, ground := Go.Ground.phase }, { on := 1, ground := Go.Ground.phase }, { on := 2, ground := Go.Ground.phase }, { on := 3, ground := Go.Ground.phase }, { on := 4, ground := Go.Ground.phase }, { on := 5, ground := Go.Ground.phase }, { on := 6, ground := Go.Ground.phase }], guard := none }) (v := ?v8) rfl (by kernel_rfl) (by kernel_rfl) (by kernel_rfl) (fun _ _ _ h => h) (Or.inl ⟨by rfl, ?y8⟩) (by assumption) ?z8
      case y8 => (intro w hSw; (try dsimp only at hSw); go_simp) <;> with_reducible rfl
      try simp only [Act.put, List.setIfInBounds_toArray, List.set_cons_zero, List.set_cons_succ]
      refine wpAnyH_done (by kernel_rfl) ?_ _
      generalize hV : V2 = V at hHeld ⊢
      clear hV
      have hc := hHeld.1
      clear hc
      go_wp2_with fail
      refine wp_region_held_drew (S := (fun w' => (∀ o, w'.cell? ⟨w.heap.size, o, none⟩ = #[Value.int .i64 44, .int .i64 x, .int .i64 y, .int .i64 s, .int .u16 (n : Nat)][o]?) ∧ QR w w')) (by kernel_rfl) (QS.drew hHeld) (fun hNew => ?_)
      clear hHeld
      have hHeld := hNew
      clear hNew
      generalize V.drew = U0 at hHeld ⊢
      refine wpAnyH_take (i := 0) (oi := { dst := some 225, op := Go.Op.fieldAddr 29 (Go.Operand.tmp 1) 1, type := 0, pos := "ref.go:296", after := #[], guard := none }) (v := ?v501) rfl (by kernel_rfl) (by kernel_rfl) (by kernel_rfl) (fun _ _ _ h => h) (Or.inl ⟨by rfl, ?y501⟩) (by assumption) ?z501
      case y501 => (intro w hSw; (try dsimp only at hSw); go_simp) <;> with_reducible rfl
      try simp only [Act.put, List.setIfInBounds_toArray, List.set_cons_zero, List.set_cons_succ]
      refine wpAnyH_take (i := 1) (oi := { dst := some 226, op := Go.Op.load 3 (Go.Operand.tmp 225), type := 3, pos := "ref.go:296", after := #[{ on := 0, ground := Go.Ground.data }], guard := none }) (v := ?v502) rfl (by kernel_rfl) (by kernel_rfl) (by kernel_rfl) (fun _ _ _ h => h) (Or.inl ⟨by rfl, ?y502⟩) (by assumption) ?z502
      case y502 => (intro w hSw; (try dsimp only at hSw); go_simp) <;> with_reducible rfl
      try simp only [Act.put, List.setIfInBounds_toArray, List.set_cons_zero, List.set_cons_succ]
      refine wpAnyH_take (i := 5) (oi := { dst := some 230, op := Go.Op.fieldAddr 29 (Go.Operand.tmp 1) 2, type := 0, pos := "ref.go:296", after := #[], guard := none }) (v := ?v503) rfl (by kernel_rfl) (by kernel_rfl) (by kernel_rfl) (fun _ _ _ h => h) (Or.inl ⟨by rfl, ?y503⟩) (by assumption) ?z503
      case y503 => (intro w hSw; (try dsimp only at hSw); go_simp) <;> with_reducible rfl
      try simp only [Act.put, List.setIfInBounds_toArray, List.set_cons_zero, List.set_cons_succ]
      refine wpAnyH_take (i := 6) (oi := { dst := some 231, op := Go.Op.load 3 (Go.Operand.tmp 230), type := 3, pos := "ref.go:296", after := #[{ on := 5, ground := Go.Ground.data }], guard := none }) (v := ?v504) rfl (by kernel_rfl) (by kernel_rfl) (by kernel_rfl) (fun _ _ _ h => h) (Or.inl ⟨by rfl, ?y504⟩) (by assumption) ?z504
      case y504 => (intro w hSw; (try dsimp only at hSw); go_simp) <;> with_reducible rfl
      try simp only [Act.put, List.setIfInBounds_toArray, List.set_cons_zero, List.set_cons_succ]
      refine wpAnyH_ready (rs := [2]) (by kernel_rfl) (by simp) ?_
      refine (AllReadyH.cons (o := { dst := some 227, op := Go.Op.call { callee := Go.Callee.value (Go.Operand.func 32), args := #[Go.Operand.tmp 226], argTypes := #[3] }, type := 9, pos := "ref.go:296", after := #[{ on := 1, ground := Go.Ground.data }], guard := none }) rfl (fun K hK => ?_) AllReadyH.nil)
      · go_simp
        go_wp2_with (go_at_call 32; (with_reducible refine (rbits_c _ _).mono ?_); rintro e U1 ⟨rfl, hb⟩)
        refine hK.out _ _ ?s505 (fun hNew => ?r505)
        case s505 => exact QS.below hHeld hb
        clear hK K
        clear hb
        clear hHeld
        have hHeld := hNew
        clear hNew
        refine wpAnyH_take (i := 3) (oi := { dst := some 228, op := Go.Op.binOp Go.BinOp.add 9 (Go.Operand.const (Go.Value.string { data := #[98, 105, 116, 32] })) (Go.Operand.tmp 227) 9, type := 9, pos := "ref.go:296", after := #[{ on := 2, ground := Go.Ground.data }], guard := none }) (v := ?v506) rfl (by kernel_rfl) (by kernel_rfl) (by kernel_rfl) (fun _ _ _ h => h) (Or.inl ⟨by rfl, ?y506⟩) (by assumption) ?z506
        case y506 => (intro w hSw; (try dsimp only at hSw); go_simp) <;> with_reducible rfl
        try simp only [Act.put, List.setIfInBounds_toArray, List.set_cons_zero, List.set_cons_succ]
        refine wpAnyH_take (i := 4) (oi := { dst := some 229, op := Go.Op.binOp Go.BinOp.add 9 (Go.Operand.tmp 228) (Go.Operand.const (Go.Value.string { data := #[44, 32] })) 9, type := 9, pos := "ref.go:296", after := #[{ on := 3, ground := Go.Ground.data }], guard := none }) (v := ?v507) rfl (by kernel_rfl) (by kernel_rfl) (by kernel_rfl) (fun _ _ _ h => h) (Or.inl ⟨by rfl, ?y507⟩) (by assumption) ?z507
        case y507 => (intro w hSw; (try dsimp only at hSw); go_simp) <;> with_reducible rfl
        try simp only [Act.put, List.setIfInBounds_toArray, List.set_cons_zero, List.set_cons_succ]
        refine wpAnyH_ready (rs := [7]) (by kernel_rfl) (by simp) ?_
        refine (AllReadyH.cons (o := { dst := some 232, op := Go.Op.call { callee := Go.Callee.value (Go.Operand.func 25), args := #[Go.Operand.tmp 231], argTypes := #[3] }, type := 9, pos := "ref.go:296", after := #[{ on := 6, ground := Go.Ground.data }, { on := 2, ground := Go.Ground.chain }], guard := none }) rfl (fun K hK => ?_) AllReadyH.nil)
        · go_simp
          go_wp2_with (go_at_call 25; (with_reducible refine (one_c _ _).mono ?_); rintro e U2 ⟨rfl, hb⟩)
          refine hK.out _ _ ?s508 (fun hNew => ?r508)
          case s508 => exact QS.below hHeld hb
          clear hK K
          clear hb
          clear hHeld
          have hHeld := hNew
          clear hNew
          refine wpAnyH_take (i := 8) (oi := { dst := some 233, op := Go.Op.binOp Go.BinOp.add 9 (Go.Operand.tmp 229) (Go.Operand.tmp 232) 9, type := 9, pos := "ref.go:296", after := #[{ on := 4, ground := Go.Ground.data }, { on := 7, ground := Go.Ground.data }], guard := none }) (v := ?v509) rfl (by kernel_rfl) (by kernel_rfl) (by kernel_rfl) (fun _ _ _ h => h) (Or.inl ⟨by rfl, ?y509⟩) (by assumption) ?z509
          case y509 => (intro w hSw; (try dsimp only at hSw); go_simp) <;> with_reducible rfl
          try simp only [Act.put, List.setIfInBounds_toArray, List.set_cons_zero, List.set_cons_succ]
          refine wpAnyH_take (i := 9) (oi := { dst := some 2, op := Go.Op.assign (Go.Operand.tmp 233), type := 9, pos := "ref.go:296", after := #[{ on := 8, ground := Go.Ground.data }, { on := 7, ground := Go.Ground.chain }, { on := 0, ground := Go.Ground.phase }, { on := 1, ground := Go.Ground.phase }, { on := 2, ground := Go.Ground.phase }, { on := 3, ground := Go.Ground.phase }, { on := 4, ground := Go.Ground.phase }, { on := 5, ground := Go.Ground.phase }, { on := 6, ground := Go.Ground.phase }, { on := 7, ground := Go.Ground.phase }, { on := 8, ground := Go.Ground.phase }], guard := none }) (v := ?v510) rfl (by kernel_rfl) (by kernel_rfl) (by kernel_rfl) (fun _ _ _ h => h) (Or.inl ⟨by rfl, ?y510⟩) (by assumption) ?z510
          case y510 => (intro w hSw; (try dsimp only at hSw); go_simp) <;> with_reducible rfl
          try simp only [Act.put, List.setIfInBounds_toArray, List.set_cons_zero, List.set_cons_succ]
          refine wpAnyH_done (by kernel_rfl) ?_ _
          go_wp2
          go_ret
          rw [cat]
          rw [cat]
          rw [cat]
          exact ⟨by simp, hHeld.2.1⟩
set_option maxRecDepth 100000 in
set_option maxHeartbeats 2000000 in
theorem rt_45 (x y s : Int) (n : Nat) (hn : n < 65536) (w : World) : Calls Tryd.prog 14 #[.agg #[.int .i64 45, .int .i64 x, .int .i64 y, .int .i64 s, .int .u16 (n : Nat)]] w fun e w' => e = .returned (.string ⟨(lineL ([114, 101, 115]) ([pickL x bitN, pickL y placeN])).toArray⟩) ∧ Below w.heap.size w w' := by
  rw [line2]
  have l2 := hexs_len n 2
  have l4 := hexs_len n 4
  have t1 := pick_len x bitN (by decide)
  have t2 := pick_len y placeN (by decide)
  have q0 : ¬ 9223372036854775807 < 4 + (pickL x bitN).length := by omega
  have q1 : ¬ 9223372036854775807 < 4 + (pickL x bitN).length + 2 := by omega
  have q2 : ¬ 9223372036854775807 < 4 + (pickL x bitN).length + 2 + (pickL y placeN).length := by omega
  clear l2 l4
  go_enter Tryd.func14, Tryd.ntmps14
  go_wp2_with fail
  refine wp_region_held_drew (S := (fun w' => (∀ o, w'.cell? ⟨w.heap.size, o, none⟩ = #[Value.int .i64 45, .int .i64 x, .int .i64 y, .int .i64 s, .int .u16 (n : Nat)][o]?) ∧ QR w w')) (by kernel_rfl) (QS.new w #[.int .i64 45, .int .i64 x, .int .i64 y, .int .i64 s, .int .u16 (n : Nat)] 29) (fun hHeld => ?_)
  generalize (w.alloc (.cells #[.int .i64 45, .int .i64 x, .int .i64 y, .int .i64 s, .int .u16 (n : Nat)] 29)).drew = V0 at hHeld ⊢
  refine wpAnyH_take (i := 0) (oi := { dst := some 5, op := Go.Op.fieldAddr 29 (Go.Operand.tmp 1) 4, type := 0, pos := "ref.go:207", after := #[], guard := none }) (v := ?v1) rfl (by kernel_rfl) (by kernel_rfl) (by kernel_rfl) (fun _ _ _ h => h) (Or.inl ⟨by rfl, ?y1⟩) (by assumption) ?z1
  case y1 => (intro w hSw; (try dsimp only at hSw); go_simp) <;> with_reducible rfl
  try simp only [Act.put, List.setIfInBounds_toArray, List.set_cons_zero, List.set_cons_succ]
  refine wpAnyH_take (i := 1) (oi := { dst := some 6, op := Go.Op.load 25 (Go.Operand.tmp 5), type := 25, pos := "ref.go:207", after := #[{ on := 0, ground := Go.Ground.data }], guard := none }) (v := ?v2) rfl (by kernel_rfl) (by kernel_rfl) (by kernel_rfl) (fun _ _ _ h => h) (Or.inl ⟨by rfl, ?y2⟩) (by assumption) ?z2
  case y2 => (intro w hSw; (try dsimp only at hSw); go_simp) <;> with_reducible rfl
  try simp only [Act.put, List.setIfInBounds_toArray, List.set_cons_zero, List.set_cons_succ]
  refine wpAnyH_take (i := 3) (oi := { dst := some 8, op := Go.Op.fieldAddr 29 (Go.Operand.tmp 1) 4, type := 0, pos := "ref.go:207", after := #[], guard := none }) (v := ?v3) rfl (by kernel_rfl) (by kernel_rfl) (by kernel_rfl) (fun _ _ _ h => h) (Or.inl ⟨by rfl, ?y3⟩) (by assumption) ?z3
  case y3 => (intro w hSw; (try dsimp only at hSw); go_simp) <;> with_reducible rfl
  try simp only [Act.put, List.setIfInBounds_toArray, List.set_cons_zero, List.set_cons_succ]
  refine wpAnyH_take (i := 4) (oi := { dst := some 9, op := Go.Op.load 25 (Go.Operand.tmp 8), type := 25, pos := "ref.go:207", after := #[{ on := 3, ground := Go.Ground.data }], guard := none }) (v := ?v4) rfl (by kernel_rfl) (by kernel_rfl) (by kernel_rfl) (fun _ _ _ h => h) (Or.inl ⟨by rfl, ?y4⟩) (by assumption) ?z4
  case y4 => (intro w hSw; (try dsimp only at hSw); go_simp) <;> with_reducible rfl
  try simp only [Act.put, List.setIfInBounds_toArray, List.set_cons_zero, List.set_cons_succ]
  refine wpAnyH_ready (rs := [2]) (by kernel_rfl) (by simp) ?_
  refine (AllReadyH.cons (o := { dst := some 7, op := Go.Op.call { callee := Go.Callee.value (Go.Operand.func 24), args := #[Go.Operand.tmp 6, Go.Operand.const (Go.Value.int Go.IntKind.i64 2)], argTypes := #[25, 3] }, type := 9, pos := "ref.go:207", after := #[{ on := 1, ground := Go.Ground.data }], guard := none }) rfl (fun K hK => ?_) AllReadyH.nil)
  · go_simp
    go_wp2_with (go_at_call 24; (with_reducible refine (rhex2 n hn _).mono ?_); rintro e V1 ⟨rfl, hb⟩)
    refine hK.out _ _ ?s5 (fun hNew => ?r5)
    case s5 => exact QS.below hHeld hb
    clear hK K
    clear hb
    clear hHeld
    have hHeld := hNew
    clear hNew
    refine wpAnyH_ready (rs := [5]) (by kernel_rfl) (by simp) ?_
    refine (AllReadyH.cons (o := { dst := some 10, op := Go.Op.call { callee := Go.Callee.value (Go.Operand.func 24), args := #[Go.Operand.tmp 9, Go.Operand.const (Go.Value.int Go.IntKind.i64 4)], argTypes := #[25, 3] }, type := 9, pos := "ref.go:207", after := #[{ on := 4, ground := Go.Ground.data }, { on := 2, ground := Go.Ground.chain }], guard := none }) rfl (fun K hK => ?_) AllReadyH.nil)
    · go_simp
      go_wp2_with (go_at_call 24; (with_reducible refine (rhex4 n hn _).mono ?_); rintro e V2 ⟨rfl, hb⟩)
      refine hK.out _ _ ?s6 (fun hNew => ?r6)
      case s6 => exact QS.below hHeld hb
      clear hK K
      clear hb
      clear hHeld
      have hHeld := hNew
      clear hNew
      refine wpAnyH_take (i := 6) (oi := { dst := some 3, op := Go.Op.assign (Go.Operand.tmp 7), type := 9, pos := "ref.go:207", after := #[{ on := 2, ground := Go.Ground.data }, { on := 5, ground := Go.Ground.chain }, { on := 0, ground := Go.Ground.phase }, { on := 1, ground := Go.Ground.phase }, { on := 2, ground := Go.Ground.phase }, { on := 3, ground := Go.Ground.textOnly Go.Departure.lateStores }, { on := 4, ground := Go.Ground.textOnly Go.Departure.lateStores }, { on := 5, ground := Go.Ground.textOnly Go.Departure.lateStoresUnsure }], guard := none }) (v := ?v7) rfl (by kernel_rfl) (by kernel_rfl) (by kernel_rfl) (fun _ _ _ h => h) (Or.inl ⟨by rfl, ?y7⟩) (by assumption) ?z7
      case y7 => (intro w hSw; (try dsimp only at hSw); go_simp) <;> with_reducible rfl
      try simp only [Act.put, List.setIfInBounds_toArray, List.set_cons_zero, List.set_cons_succ]
      refine wpAnyH_take (i := 7) (oi := { dst := some 4, op := Go.Op.assign (Go.Operand.tmp 10), type := 9, pos := "ref.go:207", after := #[{ on := 5, ground := Go.Ground.data }, { on := 6, ground := Go.Ground.chain }, { on := 0, ground := Go.Ground.phase }, { on := 1, ground := Go.Ground.phase }, { on := 2, ground := Go.Ground.phase }, { on := 3, ground := Go.Ground.phase }, { on := 4, ground := Go.Ground.phase }, { on := 5, ground := Go.Ground.phase }, { on := 6, ground := Go.Ground.phase }], guard := none }) (v := ?v8) rfl (by kernel_rfl) (by kernel_rfl) (by kernel_rfl) (fun _ _ _ h => h) (Or.inl ⟨by rfl, ?y8⟩) (by assumption) ?z8
      case y8 => (intro w hSw; (try dsimp only at hSw); go_simp) <;> with_reducible rfl
      try simp only [Act.put, List.setIfInBounds_toArray, List.set_cons_zero, List.set_cons_succ]
      refine wpAnyH_done (by kernel_rfl) ?_ _
      generalize hV : V2 = V at hHeld ⊢
      clear hV
      have hc := hHeld.1
      clear hc
      go_wp2_with fail
      refine wp_region_held_drew (S := (fun w' => (∀ o, w'.cell? ⟨w.heap.size, o, none⟩ = #[Value.int .i64 45, .int .i64 x, .int .i64 y, .int .i64 s, .int .u16 (n : Nat)][o]?) ∧ QR w w')) (by kernel_rfl) (QS.drew hHeld) (fun hNew => ?_)
      clear hHeld
      have hHeld := hNew
      clear hNew
      generalize V.drew = U0 at hHeld ⊢
      refine wpAnyH_take (i := 0) (oi := { dst := some 236, op := Go.Op.fieldAddr 29 (Go.Operand.tmp 1) 1, type := 0, pos := "ref.go:298", after := #[], guard := none }) (v := ?v501) rfl (by kernel_rfl) (by kernel_rfl) (by kernel_rfl) (fun _ _ _ h => h) (Or.inl ⟨by rfl, ?y501⟩) (by assumption) ?z501
      case y501 => (intro w hSw; (try dsimp only at hSw); go_simp) <;> with_reducible rfl
      try simp only [Act.put, List.setIfInBounds_toArray, List.set_cons_zero, List.set_cons_succ]
      refine wpAnyH_take (i := 1) (oi := { dst := some 237, op := Go.Op.load 3 (Go.Operand.tmp 236), type := 3, pos := "ref.go:298", after := #[{ on := 0, ground := Go.Ground.data }], guard := none }) (v := ?v502) rfl (by kernel_rfl) (by kernel_rfl) (by kernel_rfl) (fun _ _ _ h => h) (Or.inl ⟨by rfl, ?y502⟩) (by assumption) ?z502
      case y502 => (intro w hSw; (try dsimp only at hSw); go_simp) <;> with_reducible rfl
      try simp only [Act.put, List.setIfInBounds_toArray, List.set_cons_zero, List.set_cons_succ]
      refine wpAnyH_take (i := 5) (oi := { dst := some 241, op := Go.Op.fieldAddr 29 (Go.Operand.tmp 1) 2, type := 0, pos := "ref.go:298", after := #[], guard := none }) (v := ?v503) rfl (by kernel_rfl) (by kernel_rfl) (by kernel_rfl) (fun _ _ _ h => h) (Or.inl ⟨by rfl, ?y503⟩) (by assumption) ?z503
      case y503 => (intro w hSw; (try dsimp only at hSw); go_simp) <;> with_reducible rfl
      try simp only [Act.put, List.setIfInBounds_toArray, List.set_cons_zero, List.set_cons_succ]
      refine wpAnyH_take (i := 6) (oi := { dst := some 242, op := Go.Op.load 3 (Go.Operand.tmp 241), type := 3, pos := "ref.go:298", after := #[{ on := 5, ground := Go.Ground.data }], guard := none }) (v := ?v504) rfl (by kernel_rfl) (by kernel_rfl) (by kernel_rfl) (fun _ _ _ h => h) (Or.inl ⟨by rfl, ?y504⟩) (by assumption) ?z504
      case y504 => (intro w hSw; (try dsimp only at hSw); go_simp) <;> with_reducible rfl
      try simp only [Act.put, List.setIfInBounds_toArray, List.set_cons_zero, List.set_cons_succ]
      refine wpAnyH_ready (rs := [2]) (by kernel_rfl) (by simp) ?_
      refine (AllReadyH.cons (o := { dst := some 238, op := Go.Op.call { callee := Go.Callee.value (Go.Operand.func 32), args := #[Go.Operand.tmp 237], argTypes := #[3] }, type := 9, pos := "ref.go:298", after := #[{ on := 1, ground := Go.Ground.data }], guard := none }) rfl (fun K hK => ?_) AllReadyH.nil)
      · go_simp
        go_wp2_with (go_at_call 32; (with_reducible refine (rbits_c _ _).mono ?_); rintro e U1 ⟨rfl, hb⟩)
        refine hK.out _ _ ?s505 (fun hNew => ?r505)
        case s505 => exact QS.below hHeld hb
        clear hK K
        clear hb
        clear hHeld
        have hHeld := hNew
        clear hNew
        refine wpAnyH_take (i := 3) (oi := { dst := some 239, op := Go.Op.binOp Go.BinOp.add 9 (Go.Operand.const (Go.Value.string { data := #[114, 101, 115, 32] })) (Go.Operand.tmp 238) 9, type := 9, pos := "ref.go:298", after := #[{ on := 2, ground := Go.Ground.data }], guard := none }) (v := ?v506) rfl (by kernel_rfl) (by kernel_rfl) (by kernel_rfl) (fun _ _ _ h => h) (Or.inl ⟨by rfl, ?y506⟩) (by assumption) ?z506
        case y506 => (intro w hSw; (try dsimp only at hSw); go_simp) <;> with_reducible rfl
        try simp only [Act.put, List.setIfInBounds_toArray, List.set_cons_zero, List.set_cons_succ]
        refine wpAnyH_take (i := 4) (oi := { dst := some 240, op := Go.Op.binOp Go.BinOp.add 9 (Go.Operand.tmp 239) (Go.Operand.const (Go.Value.string { data := #[44, 32] })) 9, type := 9, pos := "ref.go:298", after := #[{ on := 3, ground := Go.Ground.data }], guard := none }) (v := ?v507) rfl (by kernel_rfl) (by kernel_rfl) (by kernel_rfl) (fun _ _ _ h => h) (Or.inl ⟨by rfl, ?y507⟩) (by assumption) ?z507
        case y507 => (intro w hSw; (try dsimp only at hSw); go_simp) <;> with_reducible rfl
        try simp only [Act.put, List.setIfInBounds_toArray, List.set_cons_zero, List.set_cons_succ]
        refine wpAnyH_ready (rs := [7]) (by kernel_rfl) (by simp) ?_
        refine (AllReadyH.cons (o := { dst := some 243, op := Go.Op.call { callee := Go.Callee.value (Go.Operand.func 25), args := #[Go.Operand.tmp 242], argTypes := #[3] }, type := 9, pos := "ref.go:298", after := #[{ on := 6, ground := Go.Ground.data }, { on := 2, ground := Go.Ground.chain }], guard := none }) rfl (fun K hK => ?_) AllReadyH.nil)
        · go_simp
          go_wp2_with (go_at_call 25; (with_reducible refine (one_c _ _).mono ?_); rintro e U2 ⟨rfl, hb⟩)
          refine hK.out _ _ ?s508 (fun hNew => ?r508)
          case s508 => exact QS.below hHeld hb
          clear hK K
          clear hb
          clear hHeld
          have hHeld := hNew
          clear hNew
          refine wpAnyH_take (i := 8) (oi := { dst := some 244, op := Go.Op.binOp Go.BinOp.add 9 (Go.Operand.tmp 240) (Go.Operand.tmp 243) 9, type := 9, pos := "ref.go:298", after := #[{ on := 4, ground := Go.Ground.data }, { on := 7, ground := Go.Ground.data }], guard := none }) (v := ?v509) rfl (by kernel_rfl) (by kernel_rfl) (by kernel_rfl) (fun _ _ _ h => h) (Or.inl ⟨by rfl, ?y509⟩) (by assumption) ?z509
          case y509 => (intro w hSw; (try dsimp only at hSw); go_simp) <;> with_reducible rfl
          try simp only [Act.put, List.setIfInBounds_toArray, List.set_cons_zero, List.set_cons_succ]
          refine wpAnyH_take (i := 9) (oi := { dst := some 2, op := Go.Op.assign (Go.Operand.tmp 244), type := 9, pos := "ref.go:298", after := #[{ on := 8, ground := Go.Ground.data }, { on := 7, ground := Go.Ground.chain }, { on := 0, ground := Go.Ground.phase }, { on := 1, ground := Go.Ground.phase }, { on := 2, ground := Go.Ground.phase }, { on := 3, ground := Go.Ground.phase }, { on := 4, ground := Go.Ground.phase }, { on := 5, ground := Go.Ground.phase }, { on := 6, ground := Go.Ground.phase }, { on := 7, ground := Go.Ground.phase }, { on := 8, ground := Go.Ground.phase }], guard := none }) (v := ?v510) rfl (by kernel_rfl) (by kernel_rfl) (by kernel_rfl) (fun _ _ _ h => h) (Or.inl ⟨by rfl, ?y510⟩) (by assumption) ?z510
          case y510 => (intro w hSw; (try dsimp only at hSw); go_simp) <;> with_reducible rfl
          try simp only [Act.put, List.setIfInBounds_toArray, List.set_cons_zero, List.set_cons_succ]
          refine wpAnyH_done (by kernel_rfl) ?_ _
          go_wp2
          go_ret
          rw [cat]
          rw [cat]
          rw [cat]
          exact ⟨by simp, hHeld.2.1⟩
set_option maxRecDepth 100000 in
set_option maxHeartbeats 2000000 in
theorem rt_46 (x y s : Int) (n : Nat) (hn : n < 65536) (w : World) : Calls Tryd.prog 14 #[.agg #[.int .i64 46, .int .i64 x, .int .i64 y, .int .i64 s, .int .u16 (n : Nat)]] w fun e w' => e = .returned (.string ⟨(lineL ([115, 101, 116]) ([pickL x bitN, pickL y placeN])).toArray⟩) ∧ Below w.heap.size w w' := by
  rw [line2]
  have l2 := hexs_len n 2
  have l4 := hexs_len n 4
  have t1 := pick_len x bitN (by decide)
  have t2 := pick_len y placeN (by decide)
  have q0 : ¬ 9223372036854775807 < 4 + (pickL x bitN).length := by omega
  have q1 : ¬ 9223372036854775807 < 4 + (pickL x bitN).length + 2 := by omega
  have q2 : ¬ 9223372036854775807 < 4 + (pickL x bitN).length + 2 + (pickL y placeN).length := by omega
  clear l2 l4
  go_enter Tryd.func14, Tryd.ntmps14
  go_wp2_with fail
  refine wp_region_held_drew (S := (fun w' => (∀ o, w'.cell? ⟨w.heap.size, o, none⟩ = #[Value.int .i64 46, .int .i64 x, .int .i64 y, .int .i64 s, .int .u16 (n : Nat)][o]?) ∧ QR w w')) (by kernel_rfl) (QS.new w #[.int .i64 46, .int .i64 x, .int .i64 y, .int .i64 s, .int .u16 (n : Nat)] 29) (fun hHeld => ?_)
  generalize (w.alloc (.cells #[.int .i64 46, .int .i64 x, .int .i64 y, .int .i64 s, .int .u16 (n : Nat)] 29)).drew = V0 at hHeld ⊢
  refine wpAnyH_take (i := 0) (oi := { dst := some 5, op := Go.Op.fieldAddr 29 (Go.Operand.tmp 1) 4, type := 0, pos := "ref.go:207", after := #[], guard := none }) (v := ?v1) rfl (by kernel_rfl) (by kernel_rfl) (by kernel_rfl) (fun _ _ _ h => h) (Or.inl ⟨by rfl, ?y1⟩) (by assumption) ?z1
  case y1 => (intro w hSw; (try dsimp only at hSw); go_simp) <;> with_reducible rfl
  try simp only [Act.put, List.setIfInBounds_toArray, List.set_cons_zero, List.set_cons_succ]
  refine wpAnyH_take (i := 1) (oi := { dst := some 6, op := Go.Op.load 25 (Go.Operand.tmp 5), type := 25, pos := "ref.go:207", after := #[{ on := 0, ground := Go.Ground.data }], guard := none }) (v := ?v2) rfl (by kernel_rfl) (by kernel_rfl) (by kernel_rfl) (fun _ _ _ h => h) (Or.inl ⟨by rfl, ?y2⟩) (by assumption) ?z2
  case y2 => (intro w hSw; (try dsimp only at hSw); go_simp) <;> with_reducible rfl
  try simp only [Act.put, List.setIfInBounds_toArray, List.set_cons_zero, List.set_cons_succ]
  refine wpAnyH_take (i := 3) (oi := { dst := some 8, op := Go.Op.fieldAddr 29 (Go.Operand.tmp 1) 4, type := 0, pos := "ref.go:207", after := #[], guard := none }) (v := ?v3) rfl (by kernel_rfl) (by kernel_rfl) (by kernel_rfl) (fun _ _ _ h => h) (Or.inl ⟨by rfl, ?y3⟩) (by assumption) ?z3
  case y3 => (intro w hSw; (try dsimp only at hSw); go_simp) <;> with_reducible rfl
  try simp only [Act.put, List.setIfInBounds_toArray, List.set_cons_zero, List.set_cons_succ]
  refine wpAnyH_take (i := 4) (oi := { dst := some 9, op := Go.Op.load 25 (Go.Operand.tmp 8), type := 25, pos := "ref.go:207", after := #[{ on := 3, ground := Go.Ground.data }], guard := none }) (v := ?v4) rfl (by kernel_rfl) (by kernel_rfl) (by kernel_rfl) (fun _ _ _ h => h) (Or.inl ⟨by rfl, ?y4⟩) (by assumption) ?z4
  case y4 => (intro w hSw; (try dsimp only at hSw); go_simp) <;> with_reducible rfl
  try simp only [Act.put, List.setIfInBounds_toArray, List.set_cons_zero, List.set_cons_succ]
  refine wpAnyH_ready (rs := [2]) (by kernel_rfl) (by simp) ?_
  refine (AllReadyH.cons (o := { dst := some 7, op := Go.Op.call { callee := Go.Callee.value (Go.Operand.func 24), args := #[Go.Operand.tmp 6, Go.Operand.const (Go.Value.int Go.IntKind.i64 2)], argTypes := #[25, 3] }, type := 9, pos := "ref.go:207", after := #[{ on := 1, ground := Go.Ground.data }], guard := none }) rfl (fun K hK => ?_) AllReadyH.nil)
  · go_simp
    go_wp2_with (go_at_call 24; (with_reducible refine (rhex2 n hn _).mono ?_); rintro e V1 ⟨rfl, hb⟩)
    refine hK.out _ _ ?s5 (fun hNew => ?r5)
    case s5 => exact QS.below hHeld hb
    clear hK K
    clear hb
    clear hHeld
    have hHeld := hNew
    clear hNew
    refine wpAnyH_ready (rs := [5]) (by kernel_rfl) (by simp) ?_
    refine (AllReadyH.cons (o := { dst := some 10, op := Go.Op.call { callee := Go.Callee.value (Go.Operand.func 24), args := #[Go.Operand.tmp 9, Go.Operand.const (Go.Value.int Go.IntKind.i64 4)], argTypes := #[25, 3] }, type := 9, pos := "ref.go:207", after := #[{ on := 4, ground := Go.Ground.data }, { on := 2, ground := Go.Ground.chain }], guard := none }) rfl (fun K hK => ?_) AllReadyH.nil)
    · go_simp
      go_wp2_with (go_at_call 24; (with_reducible refine (rhex4 n hn _).mono ?_); rintro e V2 ⟨rfl, hb⟩)
      refine hK.out _ _ ?s6 (fun hNew => ?r6)
      case s6 => exact QS.below hHeld hb
      clear hK K
      clear hb
      clear hHeld
      have hHeld := hNew
      clear hNew
      refine wpAnyH_take (i := 6) (oi := { dst := some 3, op := Go.Op.assign (Go.Operand.tmp 7), type := 9, pos := "ref.go:207", after := #[{ on := 2, ground := Go.Ground.data }, { on := 5, ground := Go.Ground.chain }, { on := 0, ground := Go.Ground.phase }, { on := 1, ground := Go.Ground.phase }, { on := 2, ground := Go.Ground.phase }, { on := 3, ground := Go.Ground.textOnly Go.Departure.lateStores }, { on := 4, ground := Go.Ground.textOnly Go.Departure.lateStores }, { on := 5, ground := Go.Ground.textOnly Go.Departure.lateStoresUnsure }], guard := none }) (v := ?v7) rfl (by kernel_rfl) (by kernel_rfl) (by kernel_rfl) (fun _ _ _ h => h) (Or.inl ⟨by rfl, ?y7⟩) (by assumption) ?z7
      case y7 => (intro w hSw; (try dsimp only at hSw); go_simp) <;> with_reducible rfl
      try simp only [Act.put, List.setIfInBounds_toArray, List.set_cons_zero, List.set_cons_succ]
      refine wpAnyH_take (i := 7) (oi := { dst := some 4, op := Go.Op.assign (Go.Operand.tmp 10), type := 9, pos := "ref.go:207", after := #[{ on := 5, ground := Go.Ground.data }, { on := 6, ground := Go.Ground.chain }, { on := 0, ground := Go.Ground.phase }, { on := 1, ground := Go.Ground.phase }, { on := 2, ground := Go.Ground.phase }, { on := 3, ground := Go.Ground.phase }, { on := 4, ground := Go.Ground.phase }, { on := 5, ground := Go.Ground.phase }, { on := 6, ground := Go.Ground.phase }], guard := none }) (v := ?v8) rfl (by kernel_rfl) (by kernel_rfl) (by kernel_rfl) (fun _ _ _ h => h) (Or.inl ⟨by rfl, ?y8⟩) (by assumption) ?z8
      case y8 => (intro w hSw; (try dsimp only at hSw); go_simp) <;> with_reducible rfl
      try simp only [Act.put, List.setIfInBounds_toArray, List.set_cons_zero, List.set_cons_succ]
      refine wpAnyH_done (by kernel_rfl) ?_ _
      generalize hV : V2 = V at hHeld ⊢
      clear hV
      have hc := hHeld.1
      clear hc
      go_wp2_with fail
      refine wp_region_held_drew (S := (fun w' => (∀ o, w'.cell? ⟨w.heap.size, o, none⟩ = #[Value.int .i64 46, .int .i64 x, .int .i64 y, .int .i64 s, .int .u16 (n : Nat)][o]?) ∧ QR w w')) (by kernel_rfl) (QS.drew hHeld) (fun hNew => ?_)
      clear hHeld
      have hHeld := hNew
      clear hNew
      generalize V.drew = U0 at hHeld ⊢
      refine wpAnyH_take (i := 0) (oi := { dst := some 247, op := Go.Op.fieldAddr 29 (Go.Operand.tmp 1) 1, type := 0, pos := "ref.go:300", after := #[], guard := none }) (v := ?v501) rfl (by kernel_rfl) (by kernel_rfl) (by kernel_rfl) (fun _ _ _ h => h) (Or.inl ⟨by rfl, ?y501⟩) (by assumption) ?z501
      case y501 => (intro w hSw; (try dsimp only at hSw); go_simp) <;> with_reducible rfl
      try simp only [Act.put, List.setIfInBounds_toArray, List.set_cons_zero, List.set_cons_succ]
      refine wpAnyH_take (i := 1) (oi := { dst := some 248, op := Go.Op.load 3 (Go.Operand.tmp 247), type := 3, pos := "ref.go:300", after := #[{ on := 0, ground := Go.Ground.data }], guard := none }) (v := ?v502) rfl (by kernel_rfl) (by kernel_rfl) (by kernel_rfl) (fun _ _ _ h => h) (Or.inl ⟨by rfl, ?y502⟩) (by assumption) ?z502
      case y502 => (intro w hSw; (try dsimp only at hSw); go_simp) <;> with_reducible rfl
      try simp only [Act.put, List.setIfInBounds_toArray, List.set_cons_zero, List.set_cons_succ]
      refine wpAnyH_take (i := 5) (oi := { dst := some 252, op := Go.Op.fieldAddr 29 (Go.Operand.tmp 1) 2, type := 0, pos := "ref.go:300", after := #[], guard := none }) (v := ?v503) rfl (by kernel_rfl) (by kernel_rfl) (by kernel_rfl) (fun _ _ _ h => h) (Or.inl ⟨by rfl, ?y503⟩) (by assumption) ?z503
      case y503 => (intro w hSw; (try dsimp only at hSw); go_simp) <;> with_reducible rfl
      try simp only [Act.put, List.setIfInBounds_toArray, List.set_cons_zero, List.set_cons_succ]
      refine wpAnyH_take (i := 6) (oi := { dst := some 253, op := Go.Op.load 3 (Go.Operand.tmp 252), type := 3, pos := "ref.go:300", after := #[{ on := 5, ground := Go.Ground.data }], guard := none }) (v := ?v504) rfl (by kernel_rfl) (by kernel_rfl) (by kernel_rfl) (fun _ _ _ h => h) (Or.inl ⟨by rfl, ?y504⟩) (by assumption) ?z504
      case y504 => (intro w hSw; (try dsimp only at hSw); go_simp) <;> with_reducible rfl
      try simp only [Act.put, List.setIfInBounds_toArray, List.set_cons_zero, List.set_cons_succ]
      refine wpAnyH_ready (rs := [2]) (by kernel_rfl) (by simp) ?_
      refine (AllReadyH.cons (o := { dst := some 249, op := Go.Op.call { callee := Go.Callee.value (Go.Operand.func 32), args := #[Go.Operand.tmp 248], argTypes := #[3] }, type := 9, pos := "ref.go:300", after := #[{ on := 1, ground := Go.Ground.data }], guard := none }) rfl (fun K hK => ?_) AllReadyH.nil)
      · go_simp
        go_wp2_with (go_at_call 32; (with_reducible refine (rbits_c _ _).mono ?_); rintro e U1 ⟨rfl, hb⟩)
        refine hK.out _ _ ?s505 (fun hNew => ?r505)
        case s505 => exact QS.below hHeld hb
        clear hK K
        clear hb
        clear hHeld
        have hHeld := hNew
        clear hNew
        refine wpAnyH_take (i := 3) (oi := { dst := some 250, op := Go.Op.binOp Go.BinOp.add 9 (Go.Operand.const (Go.Value.string { data := #[115, 101, 116, 32] })) (Go.Operand.tmp 249) 9, type := 9, pos := "ref.go:300", after := #[{ on := 2, ground := Go.Ground.data }], guard := none }) (v := ?v506) rfl (by kernel_rfl) (by kernel_rfl) (by kernel_rfl) (fun _ _ _ h => h) (Or.inl ⟨by rfl, ?y506⟩) (by assumption) ?z506
        case y506 => (intro w hSw; (try dsimp only at hSw); go_simp) <;> with_reducible rfl
        try simp only [Act.put, List.setIfInBounds_toArray, List.set_cons_zero, List.set_cons_succ]
        refine wpAnyH_take (i := 4) (oi := { dst := some 251, op := Go.Op.binOp Go.BinOp.add 9 (Go.Operand.tmp 250) (Go.Operand.const (Go.Value.string { data := #[44, 32] })) 9, type := 9, pos := "ref.go:300", after := #[{ on := 3, ground := Go.Ground.data }], guard := none }) (v := ?v507) rfl (by kernel_rfl) (by kernel_rfl) (by kernel_rfl) (fun _ _ _ h => h) (Or.inl ⟨by rfl, ?y507⟩) (by assumption) ?z507
        case y507 => (intro w hSw; (try dsimp only at hSw); go_simp) <;> with_reducible rfl
        try simp only [Act.put, List.setIfInBounds_toArray, List.set_cons_zero, List.set_cons_succ]
        refine wpAnyH_ready (rs := [7]) (by kernel_rfl) (by simp) ?_
        refine (AllReadyH.cons (o := { dst := some 254, op := Go.Op.call { callee := Go.Callee.value (Go.Operand.func 25), args := #[Go.Operand.tmp 253], argTypes := #[3] }, type := 9, pos := "ref.go:300", after := #[{ on := 6, ground := Go.Ground.data }, { on := 2, ground := Go.Ground.chain }], guard := none }) rfl (fun K hK => ?_) AllReadyH.nil)
        · go_simp
          go_wp2_with (go_at_call 25; (with_reducible refine (one_c _ _).mono ?_); rintro e U2 ⟨rfl, hb⟩)
          refine hK.out _ _ ?s508 (fun hNew => ?r508)
          case s508 => exact QS.below hHeld hb
          clear hK K
          clear hb
          clear hHeld
          have hHeld := hNew
          clear hNew
          refine wpAnyH_take (i := 8) (oi := { dst := some 255, op := Go.Op.binOp Go.BinOp.add 9 (Go.Operand.tmp 251) (Go.Operand.tmp 254) 9, type := 9, pos := "ref.go:300", after := #[{ on := 4, ground := Go.Ground.data }, { on := 7, ground := Go.Ground.data }], guard := none }) (v := ?v509) rfl (by kernel_rfl) (by kernel_rfl) (by kernel_rfl) (fun _ _ _ h => h) (Or.inl ⟨by rfl, ?y509⟩) (by assumption) ?z509
          case y509 => (intro w hSw; (try dsimp only at hSw); go_simp) <;> with_reducible rfl
          try simp only [Act.put, List.setIfInBounds_toArray, List.set_cons_zero, List.set_cons_succ]
          refine wpAnyH_take (i := 9) (oi := { dst := some 2, op := Go.Op.assign (Go.Operand.tmp 255), type := 9, pos := "ref.go:300", after := #[{ on := 8, ground := Go.Ground.data }, { on := 7, ground := Go.Ground.chain }, { on := 0, ground := Go.Ground.phase }, { on := 1, ground := Go.Ground.phase }, { on := 2, ground := Go.Ground.phase }, { on := 3, ground := Go.Ground.phase }, { on := 4, ground := Go.Ground.phase }, { on := 5, ground := Go.Ground.phase }, { on := 6, ground := Go.Ground.phase }, { on := 7, ground := Go.Ground.phase }, { on := 8, ground := Go.Ground.phase }], guard := none }) (v := ?v510) rfl (by kernel_rfl) (by kernel_rfl) (by kernel_rfl) (fun _ _ _ h => h) (Or.inl ⟨by rfl, ?y510⟩) (by assumption) ?z510
          case y510 => (intro w hSw; (try dsimp only at hSw); go_simp) <;> with_reducible rfl
          try simp only [Act.put, List.setIfInBounds_toArray, List.set_cons_zero, List.set_cons_succ]
          refine wpAnyH_done (by kernel_rfl) ?_ _
          go_wp2
          go_ret
          rw [cat]
          rw [cat]
          rw [cat]
          exact ⟨by simp, hHeld.2.1⟩
set_option maxRecDepth 100000 in
set_option maxHeartbeats 2000000 in
theorem rt_d (k x y s : Int) (n : Nat) (hn : n < 65536) (h1 : (k == 1) = false) (h2 : (k == 2) = false) (h3 : (k == 3) = false) (h4 : (k == 4) = false) (h5 : (k == 5) = false) (h6 : (k == 6) = false) (h7 : (k == 7) = false) (h8 : (k == 8) = false) (h9 : (k == 9) = false) (h10 : (k == 10) = false) (h11 : (k == 11) = false) (h12 : (k == 12) = false) (h13 : (k == 13) = false) (h14 : (k == 14) = false) (h15 : (k == 15) = false) (h16 : (k == 16) = false) (h17 : (k == 17) = false) (h18 : (k == 18) = false) (h19 : (k == 19) = false) (h20 : (k == 20) = false) (h21 : (k == 21) = false) (h22 : (k == 22) = false) (h23 : (k == 23) = false) (h24 : (k == 24) = false) (h25 : (k == 25) = false) (h26 : (k == 26) = false) (h27 : (k == 27) = false) (h28 : (k == 28) = false) (h29 : (k == 29) = false) (h30 : (k == 30) = false) (h31 : (k == 31) = false) (h32 : (k == 32) = false) (h33 : (k == 33) = false) (h34 : (k == 34) = false) (h35 : (k == 35) = false) (h36 : (k == 36) = false) (h37 : (k == 37) = false) (h38 : (k == 38) = false) (h39 : (k == 39) = false) (h40 : (k == 40) = false) (h41 : (k == 41) = false) (h42 : (k == 42) = false) (h43 : (k == 43) = false) (h44 : (k == 44) = false) (h45 : (k == 45) = false) (h46 : (k == 46) = false) (w : World) : Calls Tryd.prog 14 #[.agg #[.int .i64 k, .int .i64 x, .int .i64 y, .int .i64 s, .int .u16 (n : Nat)]] w fun e w' => e = .returned (.string ⟨(lineL ([63]) ([])).toArray⟩) ∧ Below w.heap.size w w' := by
  go_enter Tryd.func14, Tryd.ntmps14
  go_wp2_with fail
  refine wp_region_held_drew (S := (fun w' => (∀ o, w'.cell? ⟨w.heap.size, o, none⟩ = #[Value.int .i64 k, .int .i64 x, .int .i64 y, .int .i64 s, .int .u16 (n : Nat)][o]?) ∧ QR w w')) (by kernel_rfl) (QS.new w #[.int .i64 k, .int .i64 x, .int .i64 y, .int .i64 s, .int .u16 (n : Nat)] 29) (fun hHeld => ?_)
  generalize (w.alloc (.cells #[.int .i64 k, .int .i64 x, .int .i64 y, .int .i64 s, .int .u16 (n : Nat)] 29)).drew = V0 at hHeld ⊢
  refine wpAnyH_take (i := 0) (oi := { dst := some 5, op := Go.Op.fieldAddr 29 (Go.Operand.tmp 1) 4, type := 0, pos := "ref.go:207", after := #[], guard := none }) (v := ?v1) rfl (by kernel_rfl) (by kernel_rfl) (by kernel_rfl) (fun _ _ _ h => h) (Or.inl ⟨by rfl, ?y1⟩) (by assumption) ?z1
  case y1 => (intro w hSw; (try dsimp only at hSw); go_simp) <;> with_reducible rfl
  try simp only [Act.put, List.setIfInBounds_toArray, List.set_cons_zero, List.set_cons_succ]
  refine wpAnyH_take (i := 1) (oi := { dst := some 6, op := Go.Op.load 25 (Go.Operand.tmp 5), type := 25, pos := "ref.go:207", after := #[{ on := 0, ground := Go.Ground.data }], guard := none }) (v := ?v2) rfl (by kernel_rfl) (by kernel_rfl) (by kernel_rfl) (fun _ _ _ h => h) (Or.inl ⟨by rfl, ?y2⟩) (by assumption) ?z2
  case y2 => (intro w hSw; (try dsimp only at hSw); go_simp) <;> with_reducible rfl
  try simp only [Act.put, List.setIfInBounds_toArray, List.set_cons_zero, List.set_cons_succ]
  refine wpAnyH_take (i := 3) (oi := { dst := some 8, op := Go.Op.fieldAddr 29 (Go.Operand.tmp 1) 4, type := 0, pos := "ref.go:207", after := #[], guard := none }) (v := ?v3) rfl (by kernel_rfl) (by kernel_rfl) (by kernel_rfl) (fun _ _ _ h => h) (Or.inl ⟨by rfl, ?y3⟩) (by assumption) ?z3
  case y3 => (intro w hSw; (try dsimp only at hSw); go_simp) <;> with_reducible rfl
  try simp only [Act.put, List.setIfInBounds_toArray, List.set_cons_zero, List.set_cons_succ]
  refine wpAnyH_take (i := 4) (oi := { dst := some 9, op := Go.Op.load 25 (Go.Operand.tmp 8), type := 25, pos := "ref.go:207", after := #[{ on := 3, ground := Go.Ground.data }], guard := none }) (v := ?v4) rfl (by kernel_rfl) (by kernel_rfl) (by kernel_rfl) (fun _ _ _ h => h) (Or.inl ⟨by rfl, ?y4⟩) (by assumption) ?z4
  case y4 => (intro w hSw; (try dsimp only at hSw); go_simp) <;> with_reducible rfl
  try simp only [Act.put, List.setIfInBounds_toArray, List.set_cons_zero, List.set_cons_succ]
  refine wpAnyH_ready (rs := [2]) (by kernel_rfl) (by simp) ?_
  refine (AllReadyH.cons (o := { dst := some 7, op := Go.Op.call { callee := Go.Callee.value (Go.Operand.func 24), args := #[Go.Operand.tmp 6, Go.Operand.const (Go.Value.int Go.IntKind.i64 2)], argTypes := #[25, 3] }, type := 9, pos := "ref.go:207", after := #[{ on := 1, ground := Go.Ground.data }], guard := none }) rfl (fun K hK => ?_) AllReadyH.nil)
  · go_simp
    go_wp2_with (go_at_call 24; (with_reducible refine (rhex2 n hn _).mono ?_); rintro e V1 ⟨rfl, hb⟩)
    refine hK.out _ _ ?s5 (fun hNew => ?r5)
    case s5 => exact QS.below hHeld hb
    clear hK K
    clear hb
    clear hHeld
    have hHeld := hNew
    clear hNew
    refine wpAnyH_ready (rs := [5]) (by kernel_rfl) (by simp) ?_
    refine (AllReadyH.cons (o := { dst := some 10, op := Go.Op.call { callee := Go.Callee.value (Go.Operand.func 24), args := #[Go.Operand.tmp 9, Go.Operand.const (Go.Value.int Go.IntKind.i64 4)], argTypes := #[25, 3] }, type := 9, pos := "ref.go:207", after := #[{ on := 4, ground := Go.Ground.data }, { on := 2, ground := Go.Ground.chain }], guard := none }) rfl (fun K hK => ?_) AllReadyH.nil)
    · go_simp
      go_wp2_with (go_at_call 24; (with_reducible refine (rhex4 n hn _).mono ?_); rintro e V2 ⟨rfl, hb⟩)
      refine hK.out _ _ ?s6 (fun hNew => ?r6)
      case s6 => exact QS.below hHeld hb
      clear hK K
      clear hb
      clear hHeld
      have hHeld := hNew
      clear hNew
      refine wpAnyH_take (i := 6) (oi := { dst := some 3, op := Go.Op.assign (Go.Operand.tmp 7), type := 9, pos := "ref.go:207", after := #[{ on := 2, ground := Go.Ground.data }, { on := 5, ground := Go.Ground.chain }, { on := 0, ground := Go.Ground.phase }, { on := 1, ground := Go.Ground.phase }, { on := 2, ground := Go.Ground.phase }, { on := 3, ground := Go.Ground.textOnly Go.Departure.lateStores }, { on := 4, ground := Go.Ground.textOnly Go.Departure.lateStores }, { on := 5, ground := Go.Ground.textOnly Go.Departure.lateStoresUnsure }], guard := none }) (v := ?v7) rfl (by kernel_rfl) (by kernel_rfl) (by kernel_rfl) (fun _ _ _ h => h) (Or.inl ⟨by rfl, ?y7⟩) (by assumption) ?z7
      case y7 => (intro w hSw; (try dsimp only at hSw); go_simp) <;> with_reducible rfl
      try simp only [Act.put, List.setIfInBounds_toArray, List.set_cons_zero, List.set_cons_succ]
      refine wpAnyH_take (i := 7) (oi := { dst := some 4, op := Go.Op.assign (Go.Operand.tmp 10), type := 9, pos := "ref.go:207", after := #[{ on := 5, ground := Go.Ground.data }, { on := 6, ground := Go.Ground.chain }, { on := 0, ground := Go.Ground.phase }, { on := 1, ground := Go.Ground.phase }, { on := 2, ground := Go.Ground.phase }, { on := 3, ground := Go.Ground.phase }, { on := 4, ground := Go.Ground.phase }, { on := 5, ground := Go.Ground.phase }, { on := 6, ground := Go.Ground.phase }], guard := none }) (v := ?v8) rfl (by kernel_rfl) (by kernel_rfl) (by kernel_rfl) (fun _ _ _ h => h) (Or.inl ⟨by rfl, ?y8⟩) (by assumption) ?z8
      case y8 => (intro w hSw; (try dsimp only at hSw); go_simp) <;> with_reducible rfl
      try simp only [Act.put, List.setIfInBounds_toArray, List.set_cons_zero, List.set_cons_succ]
      refine wpAnyH_done (by kernel_rfl) ?_ _
      generalize hV : V2 = V at hHeld ⊢
      clear hV
      have hc := hHeld.1
      go_wp2
      go_ret
      exact ⟨rfl, hHeld.2.1⟩
end Go.Proofs.YtaggebfcfebomaaDoor
