/-
  What the document's Text returns, kind by kind: for every world and every order.
-/
import Derived.Test.YtaggebfcfebomaaDoorRX0
namespace Go.Proofs.YtaggebfcfebomaaDoor
open Go.ChangeShapes Go.WideShapes Go.ChangeAt Go.RowKit
set_option linter.unusedVariables false
set_option maxRecDepth 100000 in
set_option maxHeartbeats 2000000 in
theorem rt_1 (x y s : Int) (n : Nat) (hn : n < 65536) (w : World) : Calls Tryd.prog 14 #[.agg #[.int .i64 1, .int .i64 x, .int .i64 y, .int .i64 s, .int .u16 (n : Nat)]] w fun e w' => e = .returned (.string ⟨(lineL ([110, 111, 112]) ([])).toArray⟩) ∧ Below w.heap.size w w' := by
  have el : lineL ([110, 111, 112]) [] = [110, 111, 112] := rfl
  rw [el]
  clear el
  go_enter Tryd.func14, Tryd.ntmps14
  go_wp2_with fail
  refine wp_region_held_drew (S := (fun w' => (∀ o, w'.cell? ⟨w.heap.size, o, none⟩ = #[Value.int .i64 1, .int .i64 x, .int .i64 y, .int .i64 s, .int .u16 (n : Nat)][o]?) ∧ QR w w')) (by kernel_rfl) (QS.new w #[.int .i64 1, .int .i64 x, .int .i64 y, .int .i64 s, .int .u16 (n : Nat)] 29) (fun hHeld => ?_)
  generalize (w.alloc (.cells #[.int .i64 1, .int .i64 x, .int .i64 y, .int .i64 s, .int .u16 (n : Nat)] 29)).drew = V0 at hHeld ⊢
  refine wpAnyH_take (i := 0) (oi := { dst := some 5, op := Go.Op.fieldAddr 29 (Go.Operand.tmp 1) 4, type := 0, pos := "ref.go:207", after := #[], guard := none }) (v := ?v1) rfl (by kernel_rfl) (by kernel_rfl) (by kernel_rfl) (fun _ _ _ h => h) (Or.inl ⟨by rfl, ?y1⟩) (by assumption) ?z1
  case y1 => (intro w hSw; (try dsimp only at hSw); go_simp) <;> with_reducible rfl
  try simp only [Act.put, List.setIfInBounds_toArray, List.set_cons_zero, List.set_cons_succ]
  refine wpAnyH_take (i := 1) (oi := { dst := some 6, op := Go.Op.load 25 (Go.Operand.tmp 5), type := 25, pos := "ref.go:207", after := #[{ on := 0, ground := Go.Ground.data }], guard := none }) (v := ?v2) rfl (by kernel_rfl) (by kernel_rfl) (by kernel_rfl) (fun _ _ _ h => h) (Or.inl ⟨by rfl, ?y2⟩) (by assumption) ?z2
  case y2 => (intro w hSw; (try dsimp only at hSw); go_simp) <;> with_reducible rfl
  try simp only [Act.put, List.setIfInBounds_toArray, List.set_cons_zero, List.set_cons_succ]
  refine wpAnyH_take (i := 3) (oi := { dst := some 8, op := Go.Op.fieldAddr 29 (Go.Operand.tmp 1) 4, type := 0, pos := "ref.go:207", after := #[], guard := none }) (v := ?v3) rfl (by kernel_rfl) (by kernel_rfl) (by kernel_rfl) (fun _ _ _ h => h) (Or.inl ⟨by rfl, ?y3⟩) (by assumption) ?z3
  case y3 => (intro w hSw; (try dsimp only at hSw); go_simp) <;> with_reducible rfl
  try simp only [Act.put, List.setIfInBounds_toArray, List.set_cons_zero, List.set_cons_succ]
  refine wpAnyH_take (i := 4) (oi := { dst := some 9, op := Go.Op.load 25 (Go.Operand.tmp 8), type := 25, pos := "ref.go:207", after := #[{ on := 3, ground := Go.Ground.data }], guard := none }) (v := ?v4) rfl (by kernel_rfl) (by kernel_rfl) (by kernel_rfl) (fun _ _ _ h => h) (Or.inl ⟨by rfl, ?y4⟩) (by assumption) ?z4
  case y4 => (intro w hSw; (try dsimp only at hSw); go_simp) <;> with_reducible rfl
  try simp only [Act.put, List.setIfInBounds_toArray, List.set_cons_zero, List.set_cons_succ]
  refine wpAnyH_ready (rs := [2]) (by kernel_rfl) (by simp) ?_
  refine (AllReadyH.cons (o := { dst := some 7, op := Go.Op.call { callee := Go.Callee.value (Go.Operand.func 24), args := #[Go.Operand.tmp 6, Go.Operand.const (Go.Value.int Go.IntKind.i64 2)], argTypes := #[25, 3] }, type := 9, pos := "ref.go:207", after := #[{ on := 1, ground := Go.Ground.data }], guard := none }) rfl (fun K hK => ?_) AllReadyH.nil)
  · go_simp
    go_wp2_with (go_at_call 24; (with_reducible refine (rhex2 n hn _).mono ?_); rintro e V1 ⟨rfl, hb⟩)
    refine hK.out _ _ ?s5 (fun hNew => ?r5)
    case s5 => exact QS.below hHeld hb
    clear hK K
    clear hb
    clear hHeld
    have hHeld := hNew
    clear hNew
    refine wpAnyH_ready (rs := [5]) (by kernel_rfl) (by simp) ?_
    refine (AllReadyH.cons (o := { dst := some 10, op := Go.Op.call { callee := Go.Callee.value (Go.Operand.func 24), args := #[Go.Operand.tmp 9, Go.Operand.const (Go.Value.int Go.IntKind.i64 4)], argTypes := #[25, 3] }, type := 9, pos := "ref.go:207", after := #[{ on := 4, ground := Go.Ground.data }, { on := 2, ground := Go.Ground.chain }], guard := none }) rfl (fun K hK => ?_) AllReadyH.nil)
    · go_simp
      go_wp2_with (go_at_call 24; (with_reducible refine (rhex4 n hn _).mono ?_); rintro e V2 ⟨rfl, hb⟩)
      refine hK.out _ _ ?s6 (fun hNew => ?r6)
      case s6 => exact QS.below hHeld hb
      clear hK K
      clear hb
      clear hHeld
      have hHeld := hNew
      clear hNew
      refine wpAnyH_take (i := 6) (oi := { dst := some 3, op := Go.Op.assign (Go.Operand.tmp 7), type := 9, pos := "ref.go:207", after := #[{ on := 2, ground := Go.Ground.data }, { on := 5, ground := Go.Ground.chain }, { on := 0, ground := Go.Ground.phase }, { on := 1, ground := Go.Ground.phase }, { on := 2, ground := Go.Ground.phase }, { on := 3, ground := Go.Ground.textOnly Go.Departure.lateStores }, { on := 4, ground := Go.Ground.textOnly Go.Departure.lateStores }, { on := 5, ground := Go.Ground.textOnly Go.Departure.lateStoresUnsure }], guard := none }) (v := ?v7) rfl (by kernel_rfl) (by kernel_rfl) (by kernel_rfl) (fun _ _ _ h => h) (Or.inl ⟨by rfl, ?y7⟩) (by assumption) ?z7
      case y7 => (intro w hSw; (try dsimp only at hSw); go_simp) <;> with_reducible rfl
      try simp only [Act.put, List.setIfInBounds_toArray, List.set_cons_zero, List.set_cons_succ]
      refine wpAnyH_take (i := 7) (oi := { dst := some 4, op := Go.Op.assign (Go.Operand.tmp 10), type := 9, pos := "ref.go:207", after := #[{ on := 5, ground := Go.Ground.data }, { on := 6, ground := Go.Ground.chain }, { on := 0, ground := Go.Ground.phase }, { on := 1, ground := Go.Ground.phase }, { on := 2, ground := Go.Ground.phase }, { on := 3, ground := Go.Ground.phase }, { on := 4, ground := Go.Ground.phase }, { on := 5, ground := Go.Ground.phase }, { on := 6, ground := Go.Ground.phase }], guard := none }) (v := ?v8) rfl (by kernel_rfl) (by kernel_rfl) (by kernel_rfl) (fun _ _ _ h => h) (Or.inl ⟨by rfl, ?y8⟩) (by assumption) ?z8
      case y8 => (intro w hSw; (try dsimp only at hSw); go_simp) <;> with_reducible rfl
      try simp only [Act.put, List.setIfInBounds_toArray, List.set_cons_zero, List.set_cons_succ]
      refine wpAnyH_done (by kernel_rfl) ?_ _
      generalize hV : V2 = V at hHeld ⊢
      clear hV
      have hc := hHeld.1
      go_wp2
      go_ret
      exact ⟨rfl, hHeld.2.1⟩
set_option maxRecDepth 100000 in
set_option maxHeartbeats 2000000 in
theorem rt_2 (x y s : Int) (n : Nat) (hn : n < 65536) (w : World) : Calls Tryd.prog 14 #[.agg #[.int .i64 2, .int .i64 x, .int .i64 y, .int .i64 s, .int .u16 (n : Nat)]] w fun e w' => e = .returned (.string ⟨(lineL ([115, 116, 111, 112]) ([hexs n 2])).toArray⟩) ∧ Below w.heap.size w w' := by
  rw [line1]
  have l2 := hexs_len n 2
  have l4 := hexs_len n 4
  have q0 : ¬ 9223372036854775807 < 5 + (hexs n 2).length := by omega
  clear l2 l4
  go_enter Tryd.func14, Tryd.ntmps14
  go_wp2_with fail
  refine wp_region_held_drew (S := (fun w' => (∀ o, w'.cell? ⟨w.heap.size, o, none⟩ = #[Value.int .i64 2, .int .i64 x, .int .i64 y, .int .i64 s, .int .u16 (n : Nat)][o]?) ∧ QR w w')) (by kernel_rfl) (QS.new w #[.int .i64 2, .int .i64 x, .int .i64 y, .int .i64 s, .int .u16 (n : Nat)] 29) (fun hHeld => ?_)
  generalize (w.alloc (.cells #[.int .i64 2, .int .i64 x, .int .i64 y, .int .i64 s, .int .u16 (n : Nat)] 29)).drew = V0 at hHeld ⊢
  refine wpAnyH_take (i := 0) (oi := { dst := some 5, op := Go.Op.fieldAddr 29 (Go.Operand.tmp 1) 4, type := 0, pos := "ref.go:207", after := #[], guard := none }) (v := ?v1) rfl (by kernel_rfl) (by kernel_rfl) (by kernel_rfl) (fun _ _ _ h => h) (Or.inl ⟨by rfl, ?y1⟩) (by assumption) ?z1
  case y1 => (intro w hSw; (try dsimp only at hSw); go_simp) <;> with_reducible rfl
  try simp only [Act.put, List.setIfInBounds_toArray, List.set_cons_zero, List.set_cons_succ]
  refine wpAnyH_take (i := 1) (oi := { dst := some 6, op := Go.Op.load 25 (Go.Operand.tmp 5), type := 25, pos := "ref.go:207", after := #[{ on := 0, ground := Go.Ground.data }], guard := none }) (v := ?v2) rfl (by kernel_rfl) (by kernel_rfl) (by kernel_rfl) (fun _ _ _ h => h) (Or.inl ⟨by rfl, ?y2⟩) (by assumption) ?z2
  case y2 => (intro w hSw; (try dsimp only at hSw); go_simp) <;> with_reducible rfl
  try simp only [Act.put, List.setIfInBounds_toArray, List.set_cons_zero, List.set_cons_succ]
  refine wpAnyH_take (i := 3) (oi := { dst := some 8, op := Go.Op.fieldAddr 29 (Go.Operand.tmp 1) 4, type := 0, pos := "ref.go:207", after := #[], guard := none }) (v := ?v3) rfl (by kernel_rfl) (by kernel_rfl) (by kernel_rfl) (fun _ _ _ h => h) (Or.inl ⟨by rfl, ?y3⟩) (by assumption) ?z3
  case y3 => (intro w hSw; (try dsimp only at hSw); go_simp) <;> with_reducible rfl
  try simp only [Act.put, List.setIfInBounds_toArray, List.set_cons_zero, List.set_cons_succ]
  refine wpAnyH_take (i := 4) (oi := { dst := some 9, op := Go.Op.load 25 (Go.Operand.tmp 8), type := 25, pos := "ref.go:207", after := #[{ on := 3, ground := Go.Ground.data }], guard := none }) (v := ?v4) rfl (by kernel_rfl) (by kernel_rfl) (by kernel_rfl) (fun _ _ _ h => h) (Or.inl ⟨by rfl, ?y4⟩) (by assumption) ?z4
  case y4 => (intro w hSw; (try dsimp only at hSw); go_simp) <;> with_reducible rfl
  try simp only [Act.put, List.setIfInBounds_toArray, List.set_cons_zero, List.set_cons_succ]
  refine wpAnyH_ready (rs := [2]) (by kernel_rfl) (by simp) ?_
  refine (AllReadyH.cons (o := { dst := some 7, op := Go.Op.call { callee := Go.Callee.value (Go.Operand.func 24), args := #[Go.Operand.tmp 6, Go.Operand.const (Go.Value.int Go.IntKind.i64 2)], argTypes := #[25, 3] }, type := 9, pos := "ref.go:207", after := #[{ on := 1, ground := Go.Ground.data }], guard := none }) rfl (fun K hK => ?_) AllReadyH.nil)
  · go_simp
    go_wp2_with (go_at_call 24; (with_reducible refine (rhex2 n hn _).mono ?_); rintro e V1 ⟨rfl, hb⟩)
    refine hK.out _ _ ?s5 (fun hNew => ?r5)
    case s5 => exact QS.below hHeld hb
    clear hK K
    clear hb
    clear hHeld
    have hHeld := hNew
    clear hNew
    refine wpAnyH_ready (rs := [5]) (by kernel_rfl) (by simp) ?_
    refine (AllReadyH.cons (o := { dst := some 10, op := Go.Op.call { callee := Go.Callee.value (Go.Operand.func 24), args := #[Go.Operand.tmp 9, Go.Operand.const (Go.Value.int Go.IntKind.i64 4)], argTypes := #[25, 3] }, type := 9, pos := "ref.go:207", after := #[{ on := 4, ground := Go.Ground.data }, { on := 2, ground := Go.Ground.chain }], guard := none }) rfl (fun K hK => ?_) AllReadyH.nil)
    · go_simp
      go_wp2_with (go_at_call 24; (with_reducible refine (rhex4 n hn _).mono ?_); rintro e V2 ⟨rfl, hb⟩)
      refine hK.out _ _ ?s6 (fun hNew => ?r6)
      case s6 => exact QS.below hHeld hb
      clear hK K
      clear hb
      clear hHeld
      have hHeld := hNew
      clear hNew
      refine wpAnyH_take (i := 6) (oi := { dst := some 3, op := Go.Op.assign (Go.Operand.tmp 7), type := 9, pos := "ref.go:207", after := #[{ on := 2, ground := Go.Ground.data }, { on := 5, ground := Go.Ground.chain }, { on := 0, ground := Go.Ground.phase }, { on := 1, ground := Go.Ground.phase }, { on := 2, ground := Go.Ground.phase }, { on := 3, ground := Go.Ground.textOnly Go.Departure.lateStores }, { on := 4, ground := Go.Ground.textOnly Go.Departure.lateStores }, { on := 5, ground := Go.Ground.textOnly Go.Departure.lateStoresUnsure }], guard := none }) (v := ?v7) rfl (by kernel_rfl) (by kernel_rfl) (by kernel_rfl) (fun _ _ _ h => h) (Or.inl ⟨by rfl, ?y7⟩) (by assumption) ?z7
      case y7 => (intro w hSw; (try dsimp only at hSw); go_simp) <;> with_reducible rfl
      try simp only [Act.put, List.setIfInBounds_toArray, List.set_cons_zero, List.set_cons_succ]
      refine wpAnyH_take (i := 7) (oi := { dst := some 4, op := Go.Op.assign (Go.Operand.tmp 10), type := 9, pos := "ref.go:207", after := #[{ on := 5, ground := Go.Ground.data }, { on := 6, ground := Go.Ground.chain }, { on := 0, ground := Go.Ground.phase }, { on := 1, ground := Go.Ground.phase }, { on := 2, ground := Go.Ground.phase }, { on := 3, ground := Go.Ground.phase }, { on := 4, ground := Go.Ground.phase }, { on := 5, ground := Go.Ground.phase }, { on := 6, ground := Go.Ground.phase }], guard := none }) (v := ?v8) rfl (by kernel_rfl) (by kernel_rfl) (by kernel_rfl) (fun _ _ _ h => h) (Or.inl ⟨by rfl, ?y8⟩) (by assumption) ?z8
      case y8 => (intro w hSw; (try dsimp only at hSw); go_simp) <;> with_reducible rfl
      try simp only [Act.put, List.setIfInBounds_toArray, List.set_cons_zero, List.set_cons_succ]
      refine wpAnyH_done (by kernel_rfl) ?_ _
      generalize hV : V2 = V at hHeld ⊢
      clear hV
      have hc := hHeld.1
      go_wp2
      go_ret
      rw [cat]
      exact ⟨by simp, hHeld.2.1⟩
set_option maxRecDepth 100000 in
set_option maxHeartbeats 2000000 in
theorem rt_3 (x y s : Int) (n : Nat) (hn : n < 65536) (w : World) : Calls Tryd.prog 14 #[.agg #[.int .i64 3, .int .i64 x, .int .i64 y, .int .i64 s, .int .u16 (n : Nat)]] w fun e w' => e = .returned (.string ⟨(lineL ([104, 97, 108, 116]) ([])).toArray⟩) ∧ Below w.heap.size w w' := by
  have el : lineL ([104, 97, 108, 116]) [] = [104, 97, 108, 116] := rfl
  rw [el]
  clear el
  go_enter Tryd.func14, Tryd.ntmps14
  go_wp2_with fail
  refine wp_region_held_drew (S := (fun w' => (∀ o, w'.cell? ⟨w.heap.size, o, none⟩ = #[Value.int .i64 3, .int .i64 x, .int .i64 y, .int .i64 s, .int .u16 (n : Nat)][o]?) ∧ QR w w')) (by kernel_rfl) (QS.new w #[.int .i64 3, .int .i64 x, .int .i64 y, .int .i64 s, .int .u16 (n : Nat)] 29) (fun hHeld => ?_)
  generalize (w.alloc (.cells #[.int .i64 3, .int .i64 x, .int .i64 y, .int .i64 s, .int .u16 (n : Nat)] 29)).drew = V0 at hHeld ⊢
  refine wpAnyH_take (i := 0) (oi := { dst := some 5, op := Go.Op.fieldAddr 29 (Go.Operand.tmp 1) 4, type := 0, pos := "ref.go:207", after := #[], guard := none }) (v := ?v1) rfl (by kernel_rfl) (by kernel_rfl) (by kernel_rfl) (fun _ _ _ h => h) (Or.inl ⟨by rfl, ?y1⟩) (by assumption) ?z1
  case y1 => (intro w hSw; (try dsimp only at hSw); go_simp) <;> with_reducible rfl
  try simp only [Act.put, List.setIfInBounds_toArray, List.set_cons_zero, List.set_cons_succ]
  refine wpAnyH_take (i := 1) (oi := { dst := some 6, op := Go.Op.load 25 (Go.Operand.tmp 5), type := 25, pos := "ref.go:207", after := #[{ on := 0, ground := Go.Ground.data }], guard := none }) (v := ?v2) rfl (by kernel_rfl) (by kernel_rfl) (by kernel_rfl) (fun _ _ _ h => h) (Or.inl ⟨by rfl, ?y2⟩) (by assumption) ?z2
  case y2 => (intro w hSw; (try dsimp only at hSw); go_simp) <;> with_reducible rfl
  try simp only [Act.put, List.setIfInBounds_toArray, List.set_cons_zero, List.set_cons_succ]
  refine wpAnyH_take (i := 3) (oi := { dst := some 8, op := Go.Op.fieldAddr 29 (Go.Operand.tmp 1) 4, type := 0, pos := "ref.go:207", after := #[], guard := none }) (v := ?v3) rfl (by kernel_rfl) (by kernel_rfl) (by kernel_rfl) (fun _ _ _ h => h) (Or.inl ⟨by rfl, ?y3⟩) (by assumption) ?z3
  case y3 => (intro w hSw; (try dsimp only at hSw); go_simp) <;> with_reducible rfl
  try simp only [Act.put, List.setIfInBounds_toArray, List.set_cons_zero, List.set_cons_succ]
  refine wpAnyH_take (i := 4) (oi := { dst := some 9, op := Go.Op.load 25 (Go.Operand.tmp 8), type := 25, pos := "ref.go:207", after := #[{ on := 3, ground := Go.Ground.data }], guard := none }) (v := ?v4) rfl (by kernel_rfl) (by kernel_rfl) (by kernel_rfl) (fun _ _ _ h => h) (Or.inl ⟨by rfl, ?y4⟩) (by assumption) ?z4
  case y4 => (intro w hSw; (try dsimp only at hSw); go_simp) <;> with_reducible rfl
  try simp only [Act.put, List.setIfInBounds_toArray, List.set_cons_zero, List.set_cons_succ]
  refine wpAnyH_ready (rs := [2]) (by kernel_rfl) (by simp) ?_
  refine (AllReadyH.cons (o := { dst := some 7, op := Go.Op.call { callee := Go.Callee.value (Go.Operand.func 24), args := #[Go.Operand.tmp 6, Go.Operand.const (Go.Value.int Go.IntKind.i64 2)], argTypes := #[25, 3] }, type := 9, pos := "ref.go:207", after := #[{ on := 1, ground := Go.Ground.data }], guard := none }) rfl (fun K hK => ?_) AllReadyH.nil)
  · go_simp
    go_wp2_with (go_at_call 24; (with_reducible refine (rhex2 n hn _).mono ?_); rintro e V1 ⟨rfl, hb⟩)
    refine hK.out _ _ ?s5 (fun hNew => ?r5)
    case s5 => exact QS.below hHeld hb
    clear hK K
    clear hb
    clear hHeld
    have hHeld := hNew
    clear hNew
    refine wpAnyH_ready (rs := [5]) (by kernel_rfl) (by simp) ?_
    refine (AllReadyH.cons (o := { dst := some 10, op := Go.Op.call { callee := Go.Callee.value (Go.Operand.func 24), args := #[Go.Operand.tmp 9, Go.Operand.const (Go.Value.int Go.IntKind.i64 4)], argTypes := #[25, 3] }, type := 9, pos := "ref.go:207", after := #[{ on := 4, ground := Go.Ground.data }, { on := 2, ground := Go.Ground.chain }], guard := none }) rfl (fun K hK => ?_) AllReadyH.nil)
    · go_simp
      go_wp2_with (go_at_call 24; (with_reducible refine (rhex4 n hn _).mono ?_); rintro e V2 ⟨rfl, hb⟩)
      refine hK.out _ _ ?s6 (fun hNew => ?r6)
      case s6 => exact QS.below hHeld hb
      clear hK K
      clear hb
      clear hHeld
      have hHeld := hNew
      clear hNew
      refine wpAnyH_take (i := 6) (oi := { dst := some 3, op := Go.Op.assign (Go.Operand.tmp 7), type := 9, pos := "ref.go:207", after := #[{ on := 2, ground := Go.Ground.data }, { on := 5, ground := Go.Ground.chain }, { on := 0, ground := Go.Ground.phase }, { on := 1, ground := Go.Ground.phase }, { on := 2, ground := Go.Ground.phase }, { on := 3, ground := Go.Ground.textOnly Go.Departure.lateStores }, { on := 4, ground := Go.Ground.textOnly Go.Departure.lateStores }, { on := 5, ground := Go.Ground.textOnly Go.Departure.lateStoresUnsure }], guard := none }) (v := ?v7) rfl (by kernel_rfl) (by kernel_rfl) (by kernel_rfl) (fun _ _ _ h => h) (Or.inl ⟨by rfl, ?y7⟩) (by assumption) ?z7
      case y7 => (intro w hSw; (try dsimp only at hSw); go_simp) <;> with_reducible rfl
      try simp only [Act.put, List.setIfInBounds_toArray, List.set_cons_zero, List.set_cons_succ]
      refine wpAnyH_take (i := 7) (oi := { dst := some 4, op := Go.Op.assign (Go.Operand.tmp 10), type := 9, pos := "ref.go:207", after := #[{ on := 5, ground := Go.Ground.data }, { on := 6, ground := Go.Ground.chain }, { on := 0, ground := Go.Ground.phase }, { on := 1, ground := Go.Ground.phase }, { on := 2, ground := Go.Ground.phase }, { on := 3, ground := Go.Ground.phase }, { on := 4, ground := Go.Ground.phase }, { on := 5, ground := Go.Ground.phase }, { on := 6, ground := Go.Ground.phase }], guard := none }) (v := ?v8) rfl (by kernel_rfl) (by kernel_rfl) (by kernel_rfl) (fun _ _ _ h => h) (Or.inl ⟨by rfl, ?y8⟩) (by assumption) ?z8
      case y8 => (intro w hSw; (try dsimp only at hSw); go_simp) <;> with_reducible rfl
      try simp only [Act.put, List.setIfInBounds_toArray, List.set_cons_zero, List.set_cons_succ]
      refine wpAnyH_done (by kernel_rfl) ?_ _
      generalize hV : V2 = V at hHeld ⊢
      clear hV
      have hc := hHeld.1
      go_wp2
      go_ret
      exact ⟨rfl, hHeld.2.1⟩
set_option maxRecDepth 100000 in
set_option maxHeartbeats 2000000 in
theorem rt_4 (x y s : Int) (n : Nat) (hn : n < 65536) (w : World) : Calls Tryd.prog 14 #[.agg #[.int .i64 4, .int .i64 x, .int .i64 y, .int .i64 s, .int .u16 (n : Nat)]] w fun e w' => e = .returned (.string ⟨(lineL ([98, 97, 100]) ([])).toArray⟩) ∧ Below w.heap.size w w' := by
  have el : lineL ([98, 97, 100]) [] = [98, 97, 100] := rfl
  rw [el]
  clear el
  go_enter Tryd.func14, Tryd.ntmps14
  go_wp2_with fail
  refine wp_region_held_drew (S := (fun w' => (∀ o, w'.cell? ⟨w.heap.size, o, none⟩ = #[Value.int .i64 4, .int .i64 x, .int .i64 y, .int .i64 s, .int .u16 (n : Nat)][o]?) ∧ QR w w')) (by kernel_rfl) (QS.new w #[.int .i64 4, .int .i64 x, .int .i64 y, .int .i64 s, .int .u16 (n : Nat)] 29) (fun hHeld => ?_)
  generalize (w.alloc (.cells #[.int .i64 4, .int .i64 x, .int .i64 y, .int .i64 s, .int .u16 (n : Nat)] 29)).drew = V0 at hHeld ⊢
  refine wpAnyH_take (i := 0) (oi := { dst := some 5, op := Go.Op.fieldAddr 29 (Go.Operand.tmp 1) 4, type := 0, pos := "ref.go:207", after := #[], guard := none }) (v := ?v1) rfl (by kernel_rfl) (by kernel_rfl) (by kernel_rfl) (fun _ _ _ h => h) (Or.inl ⟨by rfl, ?y1⟩) (by assumption) ?z1
  case y1 => (intro w hSw; (try dsimp only at hSw); go_simp) <;> with_reducible rfl
  try simp only [Act.put, List.setIfInBounds_toArray, List.set_cons_zero, List.set_cons_succ]
  refine wpAnyH_take (i := 1) (oi := { dst := some 6, op := Go.Op.load 25 (Go.Operand.tmp 5), type := 25, pos := "ref.go:207", after := #[{ on := 0, ground := Go.Ground.data }], guard := none }) (v := ?v2) rfl (by kernel_rfl) (by kernel_rfl) (by kernel_rfl) (fun _ _ _ h => h) (Or.inl ⟨by rfl, ?y2⟩) (by assumption) ?z2
  case y2 => (intro w hSw; (try dsimp only at hSw); go_simp) <;> with_reducible rfl
  try simp only [Act.put, List.setIfInBounds_toArray, List.set_cons_zero, List.set_cons_succ]
  refine wpAnyH_take (i := 3) (oi := { dst := some 8, op := Go.Op.fieldAddr 29 (Go.Operand.tmp 1) 4, type := 0, pos := "ref.go:207", after := #[], guard := none }) (v := ?v3) rfl (by kernel_rfl) (by kernel_rfl) (by kernel_rfl) (fun _ _ _ h => h) (Or.inl ⟨by rfl, ?y3⟩) (by assumption) ?z3
  case y3 => (intro w hSw; (try dsimp only at hSw); go_simp) <;> with_reducible rfl
  try simp only [Act.put, List.setIfInBounds_toArray, List.set_cons_zero, List.set_cons_succ]
  refine wpAnyH_take (i := 4) (oi := { dst := some 9, op := Go.Op.load 25 (Go.Operand.tmp 8), type := 25, pos := "ref.go:207", after := #[{ on := 3, ground := Go.Ground.data }], guard := none }) (v := ?v4) rfl (by kernel_rfl) (by kernel_rfl) (by kernel_rfl) (fun _ _ _ h => h) (Or.inl ⟨by rfl, ?y4⟩) (by assumption) ?z4
  case y4 => (intro w hSw; (try dsimp only at hSw); go_simp) <;> with_reducible rfl
  try simp only [Act.put, List.setIfInBounds_toArray, List.set_cons_zero, List.set_cons_succ]
  refine wpAnyH_ready (rs := [2]) (by kernel_rfl) (by simp) ?_
  refine (AllReadyH.cons (o := { dst := some 7, op := Go.Op.call { callee := Go.Callee.value (Go.Operand.func 24), args := #[Go.Operand.tmp 6, Go.Operand.const (Go.Value.int Go.IntKind.i64 2)], argTypes := #[25, 3] }, type := 9, pos := "ref.go:207", after := #[{ on := 1, ground := Go.Ground.data }], guard := none }) rfl (fun K hK => ?_) AllReadyH.nil)
  · go_simp
    go_wp2_with (go_at_call 24; (with_reducible refine (rhex2 n hn _).mono ?_); rintro e V1 ⟨rfl, hb⟩)
    refine hK.out _ _ ?s5 (fun hNew => ?r5)
    case s5 => exact QS.below hHeld hb
    clear hK K
    clear hb
    clear hHeld
    have hHeld := hNew
    clear hNew
    refine wpAnyH_ready (rs := [5]) (by kernel_rfl) (by simp) ?_
    refine (AllReadyH.cons (o := { dst := some 10, op := Go.Op.call { callee := Go.Callee.value (Go.Operand.func 24), args := #[Go.Operand.tmp 9, Go.Operand.const (Go.Value.int Go.IntKind.i64 4)], argTypes := #[25, 3] }, type := 9, pos := "ref.go:207", after := #[{ on := 4, ground := Go.Ground.data }, { on := 2, ground := Go.Ground.chain }], guard := none }) rfl (fun K hK => ?_) AllReadyH.nil)
    · go_simp
      go_wp2_with (go_at_call 24; (with_reducible refine (rhex4 n hn _).mono ?_); rintro e V2 ⟨rfl, hb⟩)
      refine hK.out _ _ ?s6 (fun hNew => ?r6)
      case s6 => exact QS.below hHeld hb
      clear hK K
      clear hb
      clear hHeld
      have hHeld := hNew
      clear hNew
      refine wpAnyH_take (i := 6) (oi := { dst := some 3, op := Go.Op.assign (Go.Operand.tmp 7), type := 9, pos := "ref.go:207", after := #[{ on := 2, ground := Go.Ground.data }, { on := 5, ground := Go.Ground.chain }, { on := 0, ground := Go.Ground.phase }, { on := 1, ground := Go.Ground.phase }, { on := 2, ground := Go.Ground.phase }, { on := 3, ground := Go.Ground.textOnly Go.Departure.lateStores }, { on := 4, ground := Go.Ground.textOnly Go.Departure.lateStores }, { on := 5, ground := Go.Ground.textOnly Go.Departure.lateStoresUnsure }], guard := none }) (v := ?v7) rfl (by kernel_rfl) (by kernel_rfl) (by kernel_rfl) (fun _ _ _ h => h) (Or.inl ⟨by rfl, ?y7⟩) (by assumption) ?z7
      case y7 => (intro w hSw; (try dsimp only at hSw); go_simp) <;> with_reducible rfl
      try simp only [Act.put, List.setIfInBounds_toArray, List.set_cons_zero, List.set_cons_succ]
      refine wpAnyH_take (i := 7) (oi := { dst := some 4, op := Go.Op.assign (Go.Operand.tmp 10), type := 9, pos := "ref.go:207", after := #[{ on := 5, ground := Go.Ground.data }, { on := 6, ground := Go.Ground.chain }, { on := 0, ground := Go.Ground.phase }, { on := 1, ground := Go.Ground.phase }, { on := 2, ground := Go.Ground.phase }, { on := 3, ground := Go.Ground.phase }, { on := 4, ground := Go.Ground.phase }, { on := 5, ground := Go.Ground.phase }, { on := 6, ground := Go.Ground.phase }], guard := none }) (v := ?v8) rfl (by kernel_rfl) (by kernel_rfl) (by kernel_rfl) (fun _ _ _ h => h) (Or.inl ⟨by rfl, ?y8⟩) (by assumption) ?z8
      case y8 => (intro w hSw; (try dsimp only at hSw); go_simp) <;> with_reducible rfl
      try simp only [Act.put, List.setIfInBounds_toArray, List.set_cons_zero, List.set_cons_succ]
      refine wpAnyH_done (by kernel_rfl) ?_ _
      generalize hV : V2 = V at hHeld ⊢
      clear hV
      have hc := hHeld.1
      go_wp2
      go_ret
      exact ⟨rfl, hHeld.2.1⟩
set_option maxRecDepth 100000 in
set_option maxHeartbeats 2000000 in
theorem rt_5 (x y s : Int) (n : Nat) (hn : n < 65536) (w : World) : Calls Tryd.prog 14 #[.agg #[.int .i64 5, .int .i64 x, .int .i64 y, .int .i64 s, .int .u16 (n : Nat)]] w fun e w' => e = .returned (.string ⟨(lineL ([100, 105]) ([])).toArray⟩) ∧ Below w.heap.size w w' := by
  have el : lineL ([100, 105]) [] = [100, 105] := rfl
  rw [el]
  clear el
  go_enter Tryd.func14, Tryd.ntmps14
  go_wp2_with fail
  refine wp_region_held_drew (S := (fun w' => (∀ o, w'.cell? ⟨w.heap.size, o, none⟩ = #[Value.int .i64 5, .int .i64 x, .int .i64 y, .int .i64 s, .int .u16 (n : Nat)][o]?) ∧ QR w w')) (by kernel_rfl) (QS.new w #[.int .i64 5, .int .i64 x, .int .i64 y, .int .i64 s, .int .u16 (n : Nat)] 29) (fun hHeld => ?_)
  generalize (w.alloc (.cells #[.int .i64 5, .int .i64 x, .int .i64 y, .int .i64 s, .int .u16 (n : Nat)] 29)).drew = V0 at hHeld ⊢
  refine wpAnyH_take (i := 0) (oi := { dst := some 5, op := Go.Op.fieldAddr 29 (Go.Operand.tmp 1) 4, type := 0, pos := "ref.go:207", after := #[], guard := none }) (v := ?v1) rfl (by kernel_rfl) (by kernel_rfl) (by kernel_rfl) (fun _ _ _ h => h) (Or.inl ⟨by rfl, ?y1⟩) (by assumption) ?z1
  case y1 => (intro w hSw; (try dsimp only at hSw); go_simp) <;> with_reducible rfl
  try simp only [Act.put, List.setIfInBounds_toArray, List.set_cons_zero, List.set_cons_succ]
  refine wpAnyH_take (i := 1) (oi := { dst := some 6, op := Go.Op.load 25 (Go.Operand.tmp 5), type := 25, pos := "ref.go:207", after := #[{ on := 0, ground := Go.Ground.data }], guard := none }) (v := ?v2) rfl (by kernel_rfl) (by kernel_rfl) (by kernel_rfl) (fun _ _ _ h => h) (Or.inl ⟨by rfl, ?y2⟩) (by assumption) ?z2
  case y2 => (intro w hSw; (try dsimp only at hSw); go_simp) <;> with_reducible rfl
  try simp only [Act.put, List.setIfInBounds_toArray, List.set_cons_zero, List.set_cons_succ]
  refine wpAnyH_take (i := 3) (oi := { dst := some 8, op := Go.Op.fieldAddr 29 (Go.Operand.tmp 1) 4, type := 0, pos := "ref.go:207", after := #[], guard := none }) (v := ?v3) rfl (by kernel_rfl) (by kernel_rfl) (by kernel_rfl) (fun _ _ _ h => h) (Or.inl ⟨by rfl, ?y3⟩) (by assumption) ?z3
  case y3 => (intro w hSw; (try dsimp only at hSw); go_simp) <;> with_reducible rfl
  try simp only [Act.put, List.setIfInBounds_toArray, List.set_cons_zero, List.set_cons_succ]
  refine wpAnyH_take (i := 4) (oi := { dst := some 9, op := Go.Op.load 25 (Go.Operand.tmp 8), type := 25, pos := "ref.go:207", after := #[{ on := 3, ground := Go.Ground.data }], guard := none }) (v := ?v4) rfl (by kernel_rfl) (by kernel_rfl) (by kernel_rfl) (fun _ _ _ h => h) (Or.inl ⟨by rfl, ?y4⟩) (by assumption) ?z4
  case y4 => (intro w hSw; (try dsimp only at hSw); go_simp) <;> with_reducible rfl
  try simp only [Act.put, List.setIfInBounds_toArray, List.set_cons_zero, List.set_cons_succ]
  refine wpAnyH_ready (rs := [2]) (by kernel_rfl) (by simp) ?_
  refine (AllReadyH.cons (o := { dst := some 7, op := Go.Op.call { callee := Go.Callee.value (Go.Operand.func 24), args := #[Go.Operand.tmp 6, Go.Operand.const (Go.Value.int Go.IntKind.i64 2)], argTypes := #[25, 3] }, type := 9, pos := "ref.go:207", after := #[{ on := 1, ground := Go.Ground.data }], guard := none }) rfl (fun K hK => ?_) AllReadyH.nil)
  · go_simp
    go_wp2_with (go_at_call 24; (with_reducible refine (rhex2 n hn _).mono ?_); rintro e V1 ⟨rfl, hb⟩)
    refine hK.out _ _ ?s5 (fun hNew => ?r5)
    case s5 => exact QS.below hHeld hb
    clear hK K
    clear hb
    clear hHeld
    have hHeld := hNew
    clear hNew
    refine wpAnyH_ready (rs := [5]) (by kernel_rfl) (by simp) ?_
    refine (AllReadyH.cons (o := { dst := some 10, op := Go.Op.call { callee := Go.Callee.value (Go.Operand.func 24), args := #[Go.Operand.tmp 9, Go.Operand.const (Go.Value.int Go.IntKind.i64 4)], argTypes := #[25, 3] }, type := 9, pos := "ref.go:207", after := #[{ on := 4, ground := Go.Ground.data }, { on := 2, ground := Go.Ground.chain }], guard := none }) rfl (fun K hK => ?_) AllReadyH.nil)
    · go_simp
      go_wp2_with (go_at_call 24; (with_reducible refine (rhex4 n hn _).mono ?_); rintro e V2 ⟨rfl, hb⟩)
      refine hK.out _ _ ?s6 (fun hNew => ?r6)
      case s6 => exact QS.below hHeld hb
      clear hK K
      clear hb
      clear hHeld
      have hHeld := hNew
      clear hNew
      refine wpAnyH_take (i := 6) (oi := { dst := some 3, op := Go.Op.assign (Go.Operand.tmp 7), type := 9, pos := "ref.go:207", after := #[{ on := 2, ground := Go.Ground.data }, { on := 5, ground := Go.Ground.chain }, { on := 0, ground := Go.Ground.phase }, { on := 1, ground := Go.Ground.phase }, { on := 2, ground := Go.Ground.phase }, { on := 3, ground := Go.Ground.textOnly Go.Departure.lateStores }, { on := 4, ground := Go.Ground.textOnly Go.Departure.lateStores }, { on := 5, ground := Go.Ground.textOnly Go.Departure.lateStoresUnsure }], guard := none }) (v := ?v7) rfl (by kernel_rfl) (by kernel_rfl) (by kernel_rfl) (fun _ _ _ h => h) (Or.inl ⟨by rfl, ?y7⟩) (by assumption) ?z7
      case y7 => (intro w hSw; (try dsimp only at hSw); go_simp) <;> with_reducible rfl
      try simp only [Act.put, List.setIfInBounds_toArray, List.set_cons_zero, List.set_cons_succ]
      refine wpAnyH_take (i := 7) (oi := { dst := some 4, op := Go.Op.assign (Go.Operand.tmp 10), type := 9, pos := "ref.go:207", after := #[{ on := 5, ground := Go.Ground.data }, { on := 6, ground := Go.Ground.chain }, { on := 0, ground := Go.Ground.phase }, { on := 1, ground := Go.Ground.phase }, { on := 2, ground := Go.Ground.phase }, { on := 3, ground := Go.Ground.phase }, { on := 4, ground := Go.Ground.phase }, { on := 5, ground := Go.Ground.phase }, { on := 6, ground := Go.Ground.phase }], guard := none }) (v := ?v8) rfl (by kernel_rfl) (by kernel_rfl) (by kernel_rfl) (fun _ _ _ h => h) (Or.inl ⟨by rfl, ?y8⟩) (by assumption) ?z8
      case y8 => (intro w hSw; (try dsimp only at hSw); go_simp) <;> with_reducible rfl
      try simp only [Act.put, List.setIfInBounds_toArray, List.set_cons_zero, List.set_cons_succ]
      refine wpAnyH_done (by kernel_rfl) ?_ _
      generalize hV : V2 = V at hHeld ⊢
      clear hV
      have hc := hHeld.1
      go_wp2
      go_ret
      exact ⟨rfl, hHeld.2.1⟩
set_option maxRecDepth 100000 in
set_option maxHeartbeats 2000000 in
theorem rt_6 (x y s : Int) (n : Nat) (hn : n < 65536) (w : World) : Calls Tryd.prog 14 #[.agg #[.int .i64 6, .int .i64 x, .int .i64 y, .int .i64 s, .int .u16 (n : Nat)]] w fun e w' => e = .returned (.string ⟨(lineL ([101, 105]) ([])).toArray⟩) ∧ Below w.heap.size w w' := by
  have el : lineL ([101, 105]) [] = [101, 105] := rfl
  rw [el]
  clear el
  go_enter Tryd.func14, Tryd.ntmps14
  go_wp2_with fail
  refine wp_region_held_drew (S := (fun w' => (∀ o, w'.cell? ⟨w.heap.size, o, none⟩ = #[Value.int .i64 6, .int .i64 x, .int .i64 y, .int .i64 s, .int .u16 (n : Nat)][o]?) ∧ QR w w')) (by kernel_rfl) (QS.new w #[.int .i64 6, .int .i64 x, .int .i64 y, .int .i64 s, .int .u16 (n : Nat)] 29) (fun hHeld => ?_)
  generalize (w.alloc (.cells #[.int .i64 6, .int .i64 x, .int .i64 y, .int .i64 s, .int .u16 (n : Nat)] 29)).drew = V0 at hHeld ⊢
  refine wpAnyH_take (i := 0) (oi := { dst := some 5, op := Go.Op.fieldAddr 29 (Go.Operand.tmp 1) 4, type := 0, pos := "ref.go:207", after := #[], guard := none }) (v := ?v1) rfl (by kernel_rfl) (by kernel_rfl) (by kernel_rfl) (fun _ _ _ h => h) (Or.inl ⟨by rfl, ?y1⟩) (by assumption) ?z1
  case y1 => (intro w hSw; (try dsimp only at hSw); go_simp) <;> with_reducible rfl
  try simp only [Act.put, List.setIfInBounds_toArray, List.set_cons_zero, List.set_cons_succ]
  refine wpAnyH_take (i := 1) (oi := { dst := some 6, op := Go.Op.load 25 (Go.Operand.tmp 5), type := 25, pos := "ref.go:207", after := #[{ on := 0, ground := Go.Ground.data }], guard := none }) (v := ?v2) rfl (by kernel_rfl) (by kernel_rfl) (by kernel_rfl) (fun _ _ _ h => h) (Or.inl ⟨by rfl, ?y2⟩) (by assumption) ?z2
  case y2 => (intro w hSw; (try dsimp only at hSw); go_simp) <;> with_reducible rfl
  try simp only [Act.put, List.setIfInBounds_toArray, List.set_cons_zero, List.set_cons_succ]
  refine wpAnyH_take (i := 3) (oi := { dst := some 8, op := Go.Op.fieldAddr 29 (Go.Operand.tmp 1) 4, type := 0, pos := "ref.go:207", after := #[], guard := none }) (v := ?v3) rfl (by kernel_rfl) (by kernel_rfl) (by kernel_rfl) (fun _ _ _ h => h) (Or.inl ⟨by rfl, ?y3⟩) (by assumption) ?z3
  case y3 => (intro w hSw; (try dsimp only at hSw); go_simp) <;> with_reducible rfl
  try simp only [Act.put, List.setIfInBounds_toArray, List.set_cons_zero, List.set_cons_succ]
  refine wpAnyH_take (i := 4) (oi := { dst := some 9, op := Go.Op.load 25 (Go.Operand.tmp 8), type := 25, pos := "ref.go:207", after := #[{ on := 3, ground := Go.Ground.data }], guard := none }) (v := ?v4) rfl (by kernel_rfl) (by kernel_rfl) (by kernel_rfl) (fun _ _ _ h => h) (Or.inl ⟨by rfl, ?y4⟩) (by assumption) ?z4
  case y4 => (intro w hSw; (try dsimp only at hSw); go_simp) <;> with_reducible rfl
  try simp only [Act.put, List.setIfInBounds_toArray, List.set_cons_zero, List.set_cons_succ]
  refine wpAnyH_ready (rs := [2]) (by kernel_rfl) (by simp) ?_
  refine (AllReadyH.cons (o := { dst := some 7, op := Go.Op.call { callee := Go.Callee.value (Go.Operand.func 24), args := #[Go.Operand.tmp 6, Go.Operand.const (Go.Value.int Go.IntKind.i64 2)], argTypes := #[25, 3] }, type := 9, pos := "ref.go:207", after := #[{ on := 1, ground := Go.Ground.data }], guard := none }) rfl (fun K hK => ?_) AllReadyH.nil)
  · go_simp
    go_wp2_with (go_at_call 24; (with_reducible refine (rhex2 n hn _).mono ?_); rintro e V1 ⟨rfl, hb⟩)
    refine hK.out _ _ ?s5 (fun hNew => ?r5)
    case s5 => exact QS.below hHeld hb
    clear hK K
    clear hb
    clear hHeld
    have hHeld := hNew
    clear hNew
    refine wpAnyH_ready (rs := [5]) (by kernel_rfl) (by simp) ?_
    refine (AllReadyH.cons (o := { dst := some 10, op := Go.Op.call { callee := Go.Callee.value (Go.Operand.func 24), args := #[Go.Operand.tmp 9, Go.Operand.const (Go.Value.int Go.IntKind.i64 4)], argTypes := #[25, 3] }, type := 9, pos := "ref.go:207", after := #[{ on := 4, ground := Go.Ground.data }, { on := 2, ground := Go.Ground.chain }], guard := none }) rfl (fun K hK => ?_) AllReadyH.nil)
    · go_simp
      go_wp2_with (go_at_call 24; (with_reducible refine (rhex4 n hn _).mono ?_); rintro e V2 ⟨rfl, hb⟩)
      refine hK.out _ _ ?s6 (fun hNew => ?r6)
      case s6 => exact QS.below hHeld hb
      clear hK K
      clear hb
      clear hHeld
      have hHeld := hNew
      clear hNew
      refine wpAnyH_take (i := 6) (oi := { dst := some 3, op := Go.Op.assign (Go.Operand.tmp 7), type := 9, pos := "ref.go:207", after := #[{ on := 2, ground := Go.Ground.data }, { on := 5, ground := Go.Ground.chain }, { on := 0, ground := Go.Ground.phase }, { on := 1, ground := Go.Ground.phase }, { on := 2, ground := Go.Ground.phase }, { on := 3, ground := Go.Ground.textOnly Go.Departure.lateStores }, { on := 4, ground := Go.Ground.textOnly Go.Departure.lateStores }, { on := 5, ground := Go.Ground.textOnly Go.Departure.lateStoresUnsure }], guard := none }) (v := ?v7) rfl (by kernel_rfl) (by kernel_rfl) (by kernel_rfl) (fun _ _ _ h => h) (Or.inl ⟨by rfl, ?y7⟩) (by assumption) ?z7
      case y7 => (intro w hSw; (try dsimp only at hSw); go_simp) <;> with_reducible rfl
      try simp only [Act.put, List.setIfInBounds_toArray, List.set_cons_zero, List.set_cons_succ]
      refine wpAnyH_take (i := 7) (oi := { dst := some 4, op := Go.Op.assign (Go.Operand.tmp 10), type := 9, pos := "ref.go:207", after := #[{ on := 5, ground := Go.Ground.data }, { on := 6, ground := Go.Ground.chain }, { on := 0, ground := Go.Ground.phase }, { on := 1, ground := Go.Ground.phase }, { on := 2, ground := Go.Ground.phase }, { on := 3, ground := Go.Ground.phase }, { on := 4, ground := Go.Ground.phase }, { on := 5, ground := Go.Ground.phase }, { on := 6, ground := Go.Ground.phase }], guard := none }) (v := ?v8) rfl (by kernel_rfl) (by kernel_rfl) (by kernel_rfl) (fun _ _ _ h => h) (Or.inl ⟨by rfl, ?y8⟩) (by assumption) ?z8
      case y8 => (intro w hSw; (try dsimp only at hSw); go_simp) <;> with_reducible rfl
      try simp only [Act.put, List.setIfInBounds_toArray, List.set_cons_zero, List.set_cons_succ]
      refine wpAnyH_done (by kernel_rfl) ?_ _
      generalize hV : V2 = V at hHeld ⊢
      clear hV
      have hc := hHeld.1
      go_wp2
      go_ret
      exact ⟨rfl, hHeld.2.1⟩
set_option maxRecDepth 100000 in
set_option maxHeartbeats 2000000 in
theorem rt_7 (x y s : Int) (n : Nat) (hn : n < 65536) (w : World) : Calls Tryd.prog 14 #[.agg #[.int .i64 7, .int .i64 x, .int .i64 y, .int .i64 s, .int .u16 (n : Nat)]] w fun e w' => e = .returned (.string ⟨(lineL ([108, 100]) ([pickL x placeN, pickL y placeN])).toArray⟩) ∧ Below w.heap.size w w' := by
  rw [line2]
  have l2 := hexs_len n 2
  have l4 := hexs_len n 4
  have t1 := pick_len x placeN (by decide)
  have t2 := pick_len y placeN (by decide)
  have q0 : ¬ 9223372036854775807 < 3 + (pickL x placeN).length := by omega
  have q1 : ¬ 9223372036854775807 < 3 + (pickL x placeN).length + 2 := by omega
  have q2 : ¬ 9223372036854775807 < 3 + (pickL x placeN).length + 2 + (pickL y placeN).length := by omega
  clear l2 l4
  go_enter Tryd.func14, Tryd.ntmps14
  go_wp2_with fail
  refine wp_region_held_drew (S := (fun w' => (∀ o, w'.cell? ⟨w.heap.size, o, none⟩ = #[Value.int .i64 7, .int .i64 x, .int .i64 y, .int .i64 s, .int .u16 (n : Nat)][o]?) ∧ QR w w')) (by kernel_rfl) (QS.new w #[.int .i64 7, .int .i64 x, .int .i64 y, .int .i64 s, .int .u16 (n : Nat)] 29) (fun hHeld => ?_)
  generalize (w.alloc (.cells #[.int .i64 7, .int .i64 x, .int .i64 y, .int .i64 s, .int .u16 (n : Nat)] 29)).drew = V0 at hHeld ⊢
  refine wpAnyH_take (i := 0) (oi := { dst := some 5, op := Go.Op.fieldAddr 29 (Go.Operand.tmp 1) 4, type := 0, pos := "ref.go:207", after := #[], guard := none }) (v := ?v1) rfl (by kernel_rfl) (by kernel_rfl) (by kernel_rfl) (fun _ _ _ h => h) (Or.inl ⟨by rfl, ?y1⟩) (by assumption) ?z1
  case y1 => (intro w hSw; (try dsimp only at hSw); go_simp) <;> with_reducible rfl
  try simp only [Act.put, List.setIfInBounds_toArray, List.set_cons_zero, List.set_cons_succ]
  refine wpAnyH_take (i := 1) (oi := { dst := some 6, op := Go.Op.load 25 (Go.Operand.tmp 5), type := 25, pos := "ref.go:207", after := #[{ on := 0, ground := Go.Ground.data }], guard := none }) (v := ?v2) rfl (by kernel_rfl) (by kernel_rfl) (by kernel_rfl) (fun _ _ _ h => h) (Or.inl ⟨by rfl, ?y2⟩) (by assumption) ?z2
  case y2 => (intro w hSw; (try dsimp only at hSw); go_simp) <;> with_reducible rfl
  try simp only [Act.put, List.setIfInBounds_toArray, List.set_cons_zero, List.set_cons_succ]
  refine wpAnyH_take (i := 3) (oi := { dst := some 8, op := Go.Op.fieldAddr 29 (Go.Operand.tmp 1) 4, type := 0, pos := "ref.go:207", after := #[], guard := none }) (v := ?v3) rfl (by kernel_rfl) (by kernel_rfl) (by kernel_rfl) (fun _ _ _ h => h) (Or.inl ⟨by rfl, ?y3⟩) (by assumption) ?z3
  case y3 => (intro w hSw; (try dsimp only at hSw); go_simp) <;> with_reducible rfl
  try simp only [Act.put, List.setIfInBounds_toArray, List.set_cons_zero, List.set_cons_succ]
  refine wpAnyH_take (i := 4) (oi := { dst := some 9, op := Go.Op.load 25 (Go.Operand.tmp 8), type := 25, pos := "ref.go:207", after := #[{ on := 3, ground := Go.Ground.data }], guard := none }) (v := ?v4) rfl (by kernel_rfl) (by kernel_rfl) (by kernel_rfl) (fun _ _ _ h => h) (Or.inl ⟨by rfl, ?y4⟩) (by assumption) ?z4
  case y4 => (intro w hSw; (try dsimp only at hSw); go_simp) <;> with_reducible rfl
  try simp only [Act.put, List.setIfInBounds_toArray, List.set_cons_zero, List.set_cons_succ]
  refine wpAnyH_ready (rs := [2]) (by kernel_rfl) (by simp) ?_
  refine (AllReadyH.cons (o := { dst := some 7, op := Go.Op.call { callee := Go.Callee.value (Go.Operand.func 24), args := #[Go.Operand.tmp 6, Go.Operand.const (Go.Value.int Go.IntKind.i64 2)], argTypes := #[25, 3] }, type := 9, pos := "ref.go:207", after := #[{ on := 1, ground := Go.Ground.data }], guard := none }) rfl (fun K hK => ?_) AllReadyH.nil)
  · go_simp
    go_wp2_with (go_at_call 24; (with_reducible refine (rhex2 n hn _).mono ?_); rintro e V1 ⟨rfl, hb⟩)
    refine hK.out _ _ ?s5 (fun hNew => ?r5)
    case s5 => exact QS.below hHeld hb
    clear hK K
    clear hb
    clear hHeld
    have hHeld := hNew
    clear hNew
    refine wpAnyH_ready (rs := [5]) (by kernel_rfl) (by simp) ?_
    refine (AllReadyH.cons (o := { dst := some 10, op := Go.Op.call { callee := Go.Callee.value (Go.Operand.func 24), args := #[Go.Operand.tmp 9, Go.Operand.const (Go.Value.int Go.IntKind.i64 4)], argTypes := #[25, 3] }, type := 9, pos := "ref.go:207", after := #[{ on := 4, ground := Go.Ground.data }, { on := 2, ground := Go.Ground.chain }], guard := none }) rfl (fun K hK => ?_) AllReadyH.nil)
    · go_simp
      go_wp2_with (go_at_call 24; (with_reducible refine (rhex4 n hn _).mono ?_); rintro e V2 ⟨rfl, hb⟩)
      refine hK.out _ _ ?s6 (fun hNew => ?r6)
      case s6 => exact QS.below hHeld hb
      clear hK K
      clear hb
      clear hHeld
      have hHeld := hNew
      clear hNew
      refine wpAnyH_take (i := 6) (oi := { dst := some 3, op := Go.Op.assign (Go.Operand.tmp 7), type := 9, pos := "ref.go:207", after := #[{ on := 2, ground := Go.Ground.data }, { on := 5, ground := Go.Ground.chain }, { on := 0, ground := Go.Ground.phase }, { on := 1, ground := Go.Ground.phase }, { on := 2, ground := Go.Ground.phase }, { on := 3, ground := Go.Ground.textOnly Go.Departure.lateStores }, { on := 4, ground := Go.Ground.textOnly Go.Departure.lateStores }, { on := 5, ground := Go.Ground.textOnly Go.Departure.lateStoresUnsure }], guard := none }) (v := ?v7) rfl (by kernel_rfl) (by kernel_rfl) (by kernel_rfl) (fun _ _ _ h => h) (Or.inl ⟨by rfl, ?y7⟩) (by assumption) ?z7
      case y7 => (intro w hSw; (try dsimp only at hSw); go_simp) <;> with_reducible rfl
      try simp only [Act.put, List.setIfInBounds_toArray, List.set_cons_zero, List.set_cons_succ]
      refine wpAnyH_take (i := 7) (oi := { dst := some 4, op := Go.Op.assign (Go.Operand.tmp 10), type := 9, pos := "ref.go:207", after := #[{ on := 5, ground := Go.Ground.data }, { on := 6, ground := Go.Ground.chain }, { on := 0, ground := Go.Ground.phase }, { on := 1, ground := Go.Ground.phase }, { on := 2, ground := Go.Ground.phase }, { on := 3, ground := Go.Ground.phase }, { on := 4, ground := Go.Ground.phase }, { on := 5, ground := Go.Ground.phase }, { on := 6, ground := Go.Ground.phase }], guard := none }) (v := ?v8) rfl (by kernel_rfl) (by kernel_rfl) (by kernel_rfl) (fun _ _ _ h => h) (Or.inl ⟨by rfl, ?y8⟩) (by assumption) ?z8
      case y8 => (intro w hSw; (try dsimp only at hSw); go_simp) <;> with_reducible rfl
      try simp only [Act.put, List.setIfInBounds_toArray, List.set_cons_zero, List.set_cons_succ]
      refine wpAnyH_done (by kernel_rfl) ?_ _
      generalize hV : V2 = V at hHeld ⊢
      clear hV
      have hc := hHeld.1
      clear hc
      go_wp2_with fail
      refine wp_region_held_drew (S := (fun w' => (∀ o, w'.cell? ⟨w.heap.size, o, none⟩ = #[Value.int .i64 7, .int .i64 x, .int .i64 y, .int .i64 s, .int .u16 (n : Nat)][o]?) ∧ QR w w')) (by kernel_rfl) (QS.drew hHeld) (fun hNew => ?_)
      clear hHeld
      have hHeld := hNew
      clear hNew
      generalize V.drew = U0 at hHeld ⊢
      refine wpAnyH_take (i := 0) (oi := { dst := some 29, op := Go.Op.fieldAddr 29 (Go.Operand.tmp 1) 1, type := 0, pos := "ref.go:222", after := #[], guard := none }) (v := ?v501) rfl (by kernel_rfl) (by kernel_rfl) (by kernel_rfl) (fun _ _ _ h => h) (Or.inl ⟨by rfl, ?y501⟩) (by assumption) ?z501
      case y501 => (intro w hSw; (try dsimp only at hSw); go_simp) <;> with_reducible rfl
      try simp only [Act.put, List.setIfInBounds_toArray, List.set_cons_zero, List.set_cons_succ]
      refine wpAnyH_take (i := 1) (oi := { dst := some 30, op := Go.Op.load 3 (Go.Operand.tmp 29), type := 3, pos := "ref.go:222", after := #[{ on := 0, ground := Go.Ground.data }], guard := none }) (v := ?v502) rfl (by kernel_rfl) (by kernel_rfl) (by kernel_rfl) (fun _ _ _ h => h) (Or.inl ⟨by rfl, ?y502⟩) (by assumption) ?z502
      case y502 => (intro w hSw; (try dsimp only at hSw); go_simp) <;> with_reducible rfl
      try simp only [Act.put, List.setIfInBounds_toArray, List.set_cons_zero, List.set_cons_succ]
      refine wpAnyH_take (i := 5) (oi := { dst := some 34, op := Go.Op.fieldAddr 29 (Go.Operand.tmp 1) 2, type := 0, pos := "ref.go:222", after := #[], guard := none }) (v := ?v503) rfl (by kernel_rfl) (by kernel_rfl) (by kernel_rfl) (fun _ _ _ h => h) (Or.inl ⟨by rfl, ?y503⟩) (by assumption) ?z503
      case y503 => (intro w hSw; (try dsimp only at hSw); go_simp) <;> with_reducible rfl
      try simp only [Act.put, List.setIfInBounds_toArray, List.set_cons_zero, List.set_cons_succ]
      refine wpAnyH_take (i := 6) (oi := { dst := some 35, op := Go.Op.load 3 (Go.Operand.tmp 34), type := 3, pos := "ref.go:222", after := #[{ on := 5, ground := Go.Ground.data }], guard := none }) (v := ?v504) rfl (by kernel_rfl) (by kernel_rfl) (by kernel_rfl) (fun _ _ _ h => h) (Or.inl ⟨by rfl, ?y504⟩) (by assumption) ?z504
      case y504 => (intro w hSw; (try dsimp only at hSw); go_simp) <;> with_reducible rfl
      try simp only [Act.put, List.setIfInBounds_toArray, List.set_cons_zero, List.set_cons_succ]
      refine wpAnyH_ready (rs := [2]) (by kernel_rfl) (by simp) ?_
      refine (AllReadyH.cons (o := { dst := some 31, op := Go.Op.call { callee := Go.Callee.value (Go.Operand.func 25), args := #[Go.Operand.tmp 30], argTypes := #[3] }, type := 9, pos := "ref.go:222", after := #[{ on := 1, ground := Go.Ground.data }], guard := none }) rfl (fun K hK => ?_) AllReadyH.nil)
      · go_simp
        go_wp2_with (go_at_call 25; (with_reducible refine (one_c _ _).mono ?_); rintro e U1 ⟨rfl, hb⟩)
        refine hK.out _ _ ?s505 (fun hNew => ?r505)
        case s505 => exact QS.below hHeld hb
        clear hK K
        clear hb
        clear hHeld
        have hHeld := hNew
        clear hNew
        refine wpAnyH_take (i := 3) (oi := { dst := some 32, op := Go.Op.binOp Go.BinOp.add 9 (Go.Operand.const (Go.Value.string { data := #[108, 100, 32] })) (Go.Operand.tmp 31) 9, type := 9, pos := "ref.go:222", after := #[{ on := 2, ground := Go.Ground.data }], guard := none }) (v := ?v506) rfl (by kernel_rfl) (by kernel_rfl) (by kernel_rfl) (fun _ _ _ h => h) (Or.inl ⟨by rfl, ?y506⟩) (by assumption) ?z506
        case y506 => (intro w hSw; (try dsimp only at hSw); go_simp) <;> with_reducible rfl
        try simp only [Act.put, List.setIfInBounds_toArray, List.set_cons_zero, List.set_cons_succ]
        refine wpAnyH_take (i := 4) (oi := { dst := some 33, op := Go.Op.binOp Go.BinOp.add 9 (Go.Operand.tmp 32) (Go.Operand.const (Go.Value.string { data := #[44, 32] })) 9, type := 9, pos := "ref.go:222", after := #[{ on := 3, ground := Go.Ground.data }], guard := none }) (v := ?v507) rfl (by kernel_rfl) (by kernel_rfl) (by kernel_rfl) (fun _ _ _ h => h) (Or.inl ⟨by rfl, ?y507⟩) (by assumption) ?z507
        case y507 => (intro w hSw; (try dsimp only at hSw); go_simp) <;> with_reducible rfl
        try simp only [Act.put, List.setIfInBounds_toArray, List.set_cons_zero, List.set_cons_succ]
        refine wpAnyH_ready (rs := [7]) (by kernel_rfl) (by simp) ?_
        refine (AllReadyH.cons (o := { dst := some 36, op := Go.Op.call { callee := Go.Callee.value (Go.Operand.func 25), args := #[Go.Operand.tmp 35], argTypes := #[3] }, type := 9, pos := "ref.go:222", after := #[{ on := 6, ground := Go.Ground.data }, { on := 2, ground := Go.Ground.chain }], guard := none }) rfl (fun K hK => ?_) AllReadyH.nil)
        · go_simp
          go_wp2_with (go_at_call 25; (with_reducible refine (one_c _ _).mono ?_); rintro e U2 ⟨rfl, hb⟩)
          refine hK.out _ _ ?s508 (fun hNew => ?r508)
          case s508 => exact QS.below hHeld hb
          clear hK K
          clear hb
          clear hHeld
          have hHeld := hNew
          clear hNew
          refine wpAnyH_take (i := 8) (oi := { dst := some 37, op := Go.Op.binOp Go.BinOp.add 9 (Go.Operand.tmp 33) (Go.Operand.tmp 36) 9, type := 9, pos := "ref.go:222", after := #[{ on := 4, ground := Go.Ground.data }, { on := 7, ground := Go.Ground.data }], guard := none }) (v := ?v509) rfl (by kernel_rfl) (by kernel_rfl) (by kernel_rfl) (fun _ _ _ h => h) (Or.inl ⟨by rfl, ?y509⟩) (by assumption) ?z509
          case y509 => (intro w hSw; (try dsimp only at hSw); go_simp) <;> with_reducible rfl
          try simp only [Act.put, List.setIfInBounds_toArray, List.set_cons_zero, List.set_cons_succ]
          refine wpAnyH_take (i := 9) (oi := { dst := some 2, op := Go.Op.assign (Go.Operand.tmp 37), type := 9, pos := "ref.go:222", after := #[{ on := 8, ground := Go.Ground.data }, { on := 7, ground := Go.Ground.chain }, { on := 0, ground := Go.Ground.phase }, { on := 1, ground := Go.Ground.phase }, { on := 2, ground := Go.Ground.phase }, { on := 3, ground := Go.Ground.phase }, { on := 4, ground := Go.Ground.phase }, { on := 5, ground := Go.Ground.phase }, { on := 6, ground := Go.Ground.phase }, { on := 7, ground := Go.Ground.phase }, { on := 8, ground := Go.Ground.phase }], guard := none }) (v := ?v510) rfl (by kernel_rfl) (by kernel_rfl) (by kernel_rfl) (fun _ _ _ h => h) (Or.inl ⟨by rfl, ?y510⟩) (by assumption) ?z510
          case y510 => (intro w hSw; (try dsimp only at hSw); go_simp) <;> with_reducible rfl
          try simp only [Act.put, List.setIfInBounds_toArray, List.set_cons_zero, List.set_cons_succ]
          refine wpAnyH_done (by kernel_rfl) ?_ _
          go_wp2
          go_ret
          rw [cat]
          rw [cat]
          rw [cat]
          exact ⟨by simp, hHeld.2.1⟩
set_option maxRecDepth 100000 in
set_option maxHeartbeats 2000000 in
theorem rt_8 (x y s : Int) (n : Nat) (hn : n < 65536) (w : World) : Calls Tryd.prog 14 #[.agg #[.int .i64 8, .int .i64 x, .int .i64 y, .int .i64 s, .int .u16 (n : Nat)]] w fun e w' => e = .returned (.string ⟨(lineL ([108, 100]) ([pickL x placeN, hexs n 2])).toArray⟩) ∧ Below w.heap.size w w' := by
  rw [line2]
  have l2 := hexs_len n 2
  have l4 := hexs_len n 4
  have t1 := pick_len x placeN (by decide)
  have q0 : ¬ 9223372036854775807 < 3 + (pickL x placeN).length := by omega
  have q1 : ¬ 9223372036854775807 < 3 + (pickL x placeN).length + 2 := by omega
  have q2 : ¬ 9223372036854775807 < 3 + (pickL x placeN).length + 2 + (hexs n 2).length := by omega
  clear l2 l4
  go_enter Tryd.func14, Tryd.ntmps14
  go_wp2_with fail
  refine wp_region_held_drew (S := (fun w' => (∀ o, w'.cell? ⟨w.heap.size, o, none⟩ = #[Value.int .i64 8, .int .i64 x, .int .i64 y, .int .i64 s, .int .u16 (n : Nat)][o]?) ∧ QR w w')) (by kernel_rfl) (QS.new w #[.int .i64 8, .int .i64 x, .int .i64 y, .int .i64 s, .int .u16 (n : Nat)] 29) (fun hHeld => ?_)
  generalize (w.alloc (.cells #[.int .i64 8, .int .i64 x, .int .i64 y, .int .i64 s, .int .u16 (n : Nat)] 29)).drew = V0 at hHeld ⊢
  refine wpAnyH_take (i := 0) (oi := { dst := some 5, op := Go.Op.fieldAddr 29 (Go.Operand.tmp 1) 4, type := 0, pos := "ref.go:207", after := #[], guard := none }) (v := ?v1) rfl (by kernel_rfl) (by kernel_rfl) (by kernel_rfl) (fun _ _ _ h => h) (Or.inl ⟨by rfl, ?y1⟩) (by assumption) ?z1
  case y1 => (intro w hSw; (try dsimp only at hSw); go_simp) <;> with_reducible rfl
  try simp only [Act.put, List.setIfInBounds_toArray, List.set_cons_zero, List.set_cons_succ]
  refine wpAnyH_take (i := 1) (oi := { dst := some 6, op := Go.Op.load 25 (Go.Operand.tmp 5), type := 25, pos := "ref.go:207", after := #[{ on := 0, ground := Go.Ground.data }], guard := none }) (v := ?v2) rfl (by kernel_rfl) (by kernel_rfl) (by kernel_rfl) (fun _ _ _ h => h) (Or.inl ⟨by rfl, ?y2⟩) (by assumption) ?z2
  case y2 => (intro w hSw; (try dsimp only at hSw); go_simp) <;> with_reducible rfl
  try simp only [Act.put, List.setIfInBounds_toArray, List.set_cons_zero, List.set_cons_succ]
  refine wpAnyH_take (i := 3) (oi := { dst := some 8, op := Go.Op.fieldAddr 29 (Go.Operand.tmp 1) 4, type := 0, pos := "ref.go:207", after := #[], guard := none }) (v := ?v3) rfl (by kernel_rfl) (by kernel_rfl) (by kernel_rfl) (fun _ _ _ h => h) (Or.inl ⟨by rfl, ?y3⟩) (by assumption) ?z3
  case y3 => (intro w hSw; (try dsimp only at hSw); go_simp) <;> with_reducible rfl
  try simp only [Act.put, List.setIfInBounds_toArray, List.set_cons_zero, List.set_cons_succ]
  refine wpAnyH_take (i := 4) (oi := { dst := some 9, op := Go.Op.load 25 (Go.Operand.tmp 8), type := 25, pos := "ref.go:207", after := #[{ on := 3, ground := Go.Ground.data }], guard := none }) (v := ?v4) rfl (by kernel_rfl) (by kernel_rfl) (by kernel_rfl) (fun _ _ _ h => h) (Or.inl ⟨by rfl, ?y4⟩) (by assumption) ?z4
  case y4 => (intro w hSw; (try dsimp only at hSw); go_simp) <;> with_reducible rfl
  try simp only [Act.put, List.setIfInBounds_toArray, List.set_cons_zero, List.set_cons_succ]
  refine wpAnyH_ready (rs := [2]) (by kernel_rfl) (by simp) ?_
  refine (AllReadyH.cons (o := { dst := some 7, op := Go.Op.call { callee := Go.Callee.value (Go.Operand.func 24), args := #[Go.Operand.tmp 6, Go.Operand.const (Go.Value.int Go.IntKind.i64 2)], argTypes := #[25, 3] }, type := 9, pos := "ref.go:207", after := #[{ on := 1, ground := Go.Ground.data }], guard := none }) rfl (fun K hK => ?_) AllReadyH.nil)
  · go_simp
    go_wp2_with (go_at_call 24; (with_reducible refine (rhex2 n hn _).mono ?_); rintro e V1 ⟨rfl, hb⟩)
    refine hK.out _ _ ?s5 (fun hNew => ?r5)
    case s5 => exact QS.below hHeld hb
    clear hK K
    clear hb
    clear hHeld
    have hHeld := hNew
    clear hNew
    refine wpAnyH_ready (rs := [5]) (by kernel_rfl) (by simp) ?_
    refine (AllReadyH.cons (o := { dst := some 10, op := Go.Op.call { callee := Go.Callee.value (Go.Operand.func 24), args := #[Go.Operand.tmp 9, Go.Operand.const (Go.Value.int Go.IntKind.i64 4)], argTypes := #[25, 3] }, type := 9, pos := "ref.go:207", after := #[{ on := 4, ground := Go.Ground.data }, { on := 2, ground := Go.Ground.chain }], guard := none }) rfl (fun K hK => ?_) AllReadyH.nil)
    · go_simp
      go_wp2_with (go_at_call 24; (with_reducible refine (rhex4 n hn _).mono ?_); rintro e V2 ⟨rfl, hb⟩)
      refine hK.out _ _ ?s6 (fun hNew => ?r6)
      case s6 => exact QS.below hHeld hb
      clear hK K
      clear hb
      clear hHeld
      have hHeld := hNew
      clear hNew
      refine wpAnyH_take (i := 6) (oi := { dst := some 3, op := Go.Op.assign (Go.Operand.tmp 7), type := 9, pos := "ref.go:207", after := #[{ on := 2, ground := Go.Ground.data }, { on := 5, ground := Go.Ground.chain }, { on := 0, ground := Go.Ground.phase }, { on := 1, ground := Go.Ground.phase }, { on := 2, ground := Go.Ground.phase }, { on := 3, ground := Go.Ground.textOnly Go.Departure.lateStores }, { on := 4, ground := Go.Ground.textOnly Go.Departure.lateStores }, { on := 5, ground := Go.Ground.textOnly Go.Departure.lateStoresUnsure }], guard := none }) (v := ?v7) rfl (by kernel_rfl) (by kernel_rfl) (by kernel_rfl) (fun _ _ _ h => h) (Or.inl ⟨by rfl, ?y7⟩) (by assumption) ?z7
      case y7 => (intro w hSw; (try dsimp only at hSw); go_simp) <;> with_reducible rfl
      try simp only [Act.put, List.setIfInBounds_toArray, List.set_cons_zero, List.set_cons_succ]
      refine wpAnyH_take (i := 7) (oi := { dst := some 4, op := Go.Op.assign (Go.Operand.tmp 10), type := 9, pos := "ref.go:207", after := #[{ on := 5, ground := Go.Ground.data }, { on := 6, ground := Go.Ground.chain }, { on := 0, ground := Go.Ground.phase }, { on := 1, ground := Go.Ground.phase }, { on := 2, ground := Go.Ground.phase }, { on := 3, ground := Go.Ground.phase }, { on := 4, ground := Go.Ground.phase }, { on := 5, ground := Go.Ground.phase }, { on := 6, ground := Go.Ground.phase }], guard := none }) (v := ?v8) rfl (by kernel_rfl) (by kernel_rfl) (by kernel_rfl) (fun _ _ _ h => h) (Or.inl ⟨by rfl, ?y8⟩) (by assumption) ?z8
      case y8 => (intro w hSw; (try dsimp only at hSw); go_simp) <;> with_reducible rfl
      try simp only [Act.put, List.setIfInBounds_toArray, List.set_cons_zero, List.set_cons_succ]
      refine wpAnyH_done (by kernel_rfl) ?_ _
      generalize hV : V2 = V at hHeld ⊢
      clear hV
      have hc := hHeld.1
      go_wp2_with (first | (go_at_call 25; ((with_reducible refine (one_c _ _).mono ?_); rintro e w1 ⟨rfl, hb⟩; have HB := Lib.hid hb; clear hb)) | (go_at_call 25; ((with_reducible refine (one_c _ _).mono ?_); rintro e w1 ⟨rfl, hb⟩; have HB := Lib.hid hb; clear hb)) | (go_at_call 26; ((with_reducible refine (two_c _ _).mono ?_); rintro e w1 ⟨rfl, hb⟩; have HB := Lib.hid hb; clear hb)) | (go_at_call 27; ((with_reducible refine (rsum_c _ _).mono ?_); rintro e w1 ⟨rfl, hb⟩; have HB := Lib.hid hb; clear hb)) | (go_at_call 28; ((with_reducible refine (rturn_c _ _).mono ?_); rintro e w1 ⟨rfl, hb⟩; have HB := Lib.hid hb; clear hb)) | (go_at_call 31; ((with_reducible refine (rfar_c _ _).mono ?_); rintro e w1 ⟨rfl, hb⟩; have HB := Lib.hid hb; clear hb)) | (go_at_call 32; ((with_reducible refine (rbits_c _ _).mono ?_); rintro e w1 ⟨rfl, hb⟩; have HB := Lib.hid hb; clear hb)))
      go_ret
      rw [cat]
      rw [cat]
      rw [cat]
      exact ⟨by simp, via hHeld.2.1 HB.out⟩
set_option maxRecDepth 100000 in
set_option maxHeartbeats 2000000 in
theorem rt_9 (x y s : Int) (n : Nat) (hn : n < 65536) (w : World) : Calls Tryd.prog 14 #[.agg #[.int .i64 9, .int .i64 x, .int .i64 y, .int .i64 s, .int .u16 (n : Nat)]] w fun e w' => e = .returned (.string ⟨(lineL ([108, 100]) ([pickL x pairN, hexs n 4])).toArray⟩) ∧ Below w.heap.size w w' := by
  rw [line2]
  have l2 := hexs_len n 2
  have l4 := hexs_len n 4
  have t1 := pick_len x pairN (by decide)
  have q0 : ¬ 9223372036854775807 < 3 + (pickL x pairN).length := by omega
  have q1 : ¬ 9223372036854775807 < 3 + (pickL x pairN).length + 2 := by omega
  have q2 : ¬ 9223372036854775807 < 3 + (pickL x pairN).length + 2 + (hexs n 4).length := by omega
  clear l2 l4
  go_enter Tryd.func14, Tryd.ntmps14
  go_wp2_with fail
  refine wp_region_held_drew (S := (fun w' => (∀ o, w'.cell? ⟨w.heap.size, o, none⟩ = #[Value.int .i64 9, .int .i64 x, .int .i64 y, .int .i64 s, .int .u16 (n : Nat)][o]?) ∧ QR w w')) (by kernel_rfl) (QS.new w #[.int .i64 9, .int .i64 x, .int .i64 y, .int .i64 s, .int .u16 (n : Nat)] 29) (fun hHeld => ?_)
  generalize (w.alloc (.cells #[.int .i64 9, .int .i64 x, .int .i64 y, .int .i64 s, .int .u16 (n : Nat)] 29)).drew = V0 at hHeld ⊢
  refine wpAnyH_take (i := 0) (oi := { dst := some 5, op := Go.Op.fieldAddr 29 (Go.Operand.tmp 1) 4, type := 0, pos := "ref.go:207", after := #[], guard := none }) (v := ?v1) rfl (by kernel_rfl) (by kernel_rfl) (by kernel_rfl) (fun _ _ _ h => h) (Or.inl ⟨by rfl, ?y1⟩) (by assumption) ?z1
  case y1 => (intro w hSw; (try dsimp only at hSw); go_simp) <;> with_reducible rfl
  try simp only [Act.put, List.setIfInBounds_toArray, List.set_cons_zero, List.set_cons_succ]
  refine wpAnyH_take (i := 1) (oi := { dst := some 6, op := Go.Op.load 25 (Go.Operand.tmp 5), type := 25, pos := "ref.go:207", after := #[{ on := 0, ground := Go.Ground.data }], guard := none }) (v := ?v2) rfl (by kernel_rfl) (by kernel_rfl) (by kernel_rfl) (fun _ _ _ h => h) (Or.inl ⟨by rfl, ?y2⟩) (by assumption) ?z2
  case y2 => (intro w hSw; (try dsimp only at hSw); go_simp) <;> with_reducible rfl
  try simp only [Act.put, List.setIfInBounds_toArray, List.set_cons_zero, List.set_cons_succ]
  refine wpAnyH_take (i := 3) (oi := { dst := some 8, op := Go.Op.fieldAddr 29 (Go.Operand.tmp 1) 4, type := 0, pos := "ref.go:207", after := #[], guard := none }) (v := ?v3) rfl (by kernel_rfl) (by kernel_rfl) (by kernel_rfl) (fun _ _ _ h => h) (Or.inl ⟨by rfl, ?y3⟩) (by assumption) ?z3
  case y3 => (intro w hSw; (try dsimp only at hSw); go_simp) <;> with_reducible rfl
  try simp only [Act.put, List.setIfInBounds_toArray, List.set_cons_zero, List.set_cons_succ]
  refine wpAnyH_take (i := 4) (oi := { dst := some 9, op := Go.Op.load 25 (Go.Operand.tmp 8), type := 25, pos := "ref.go:207", after := #[{ on := 3, ground := Go.Ground.data }], guard := none }) (v := ?v4) rfl (by kernel_rfl) (by kernel_rfl) (by kernel_rfl) (fun _ _ _ h => h) (Or.inl ⟨by rfl, ?y4⟩) (by assumption) ?z4
  case y4 => (intro w hSw; (try dsimp only at hSw); go_simp) <;> with_reducible rfl
  try simp only [Act.put, List.setIfInBounds_toArray, List.set_cons_zero, List.set_cons_succ]
  refine wpAnyH_ready (rs := [2]) (by kernel_rfl) (by simp) ?_
  refine (AllReadyH.cons (o := { dst := some 7, op := Go.Op.call { callee := Go.Callee.value (Go.Operand.func 24), args := #[Go.Operand.tmp 6, Go.Operand.const (Go.Value.int Go.IntKind.i64 2)], argTypes := #[25, 3] }, type := 9, pos := "ref.go:207", after := #[{ on := 1, ground := Go.Ground.data }], guard := none }) rfl (fun K hK => ?_) AllReadyH.nil)
  · go_simp
    go_wp2_with (go_at_call 24; (with_reducible refine (rhex2 n hn _).mono ?_); rintro e V1 ⟨rfl, hb⟩)
    refine hK.out _ _ ?s5 (fun hNew => ?r5)
    case s5 => exact QS.below hHeld hb
    clear hK K
    clear hb
    clear hHeld
    have hHeld := hNew
    clear hNew
    refine wpAnyH_ready (rs := [5]) (by kernel_rfl) (by simp) ?_
    refine (AllReadyH.cons (o := { dst := some 10, op := Go.Op.call { callee := Go.Callee.value (Go.Operand.func 24), args := #[Go.Operand.tmp 9, Go.Operand.const (Go.Value.int Go.IntKind.i64 4)], argTypes := #[25, 3] }, type := 9, pos := "ref.go:207", after := #[{ on := 4, ground := Go.Ground.data }, { on := 2, ground := Go.Ground.chain }], guard := none }) rfl (fun K hK => ?_) AllReadyH.nil)
    · go_simp
      go_wp2_with (go_at_call 24; (with_reducible refine (rhex4 n hn _).mono ?_); rintro e V2 ⟨rfl, hb⟩)
      refine hK.out _ _ ?s6 (fun hNew => ?r6)
      case s6 => exact QS.below hHeld hb
      clear hK K
      clear hb
      clear hHeld
      have hHeld := hNew
      clear hNew
      refine wpAnyH_take (i := 6) (oi := { dst := some 3, op := Go.Op.assign (Go.Operand.tmp 7), type := 9, pos := "ref.go:207", after := #[{ on := 2, ground := Go.Ground.data }, { on := 5, ground := Go.Ground.chain }, { on := 0, ground := Go.Ground.phase }, { on := 1, ground := Go.Ground.phase }, { on := 2, ground := Go.Ground.phase }, { on := 3, ground := Go.Ground.textOnly Go.Departure.lateStores }, { on := 4, ground := Go.Ground.textOnly Go.Departure.lateStores }, { on := 5, ground := Go.Ground.textOnly Go.Departure.lateStoresUnsure }], guard := none }) (v := ?v7) rfl (by kernel_rfl) (by kernel_rfl) (by kernel_rfl) (fun _ _ _ h => h) (Or.inl ⟨by rfl, ?y7⟩) (by assumption) ?z7
      case y7 => (intro w hSw; (try dsimp only at hSw); go_simp) <;> with_reducible rfl
      try simp only [Act.put, List.setIfInBounds_toArray, List.set_cons_zero, List.set_cons_succ]
      refine wpAnyH_take (i := 7) (oi := { dst := some 4, op := Go.Op.assign (Go.Operand.tmp 10), type := 9, pos := "ref.go:207", after := #[{ on := 5, ground := Go.Ground.data }, { on := 6, ground := Go.Ground.chain }, { on := 0, ground := Go.Ground.phase }, { on := 1, ground := Go.Ground.phase }, { on := 2, ground := Go.Ground.phase }, { on := 3, ground := Go.Ground.phase }, { on := 4, ground := Go.Ground.phase }, { on := 5, ground := Go.Ground.phase }, { on := 6, ground := Go.Ground.phase }], guard := none }) (v := ?v8) rfl (by kernel_rfl) (by kernel_rfl) (by kernel_rfl) (fun _ _ _ h => h) (Or.inl ⟨by rfl, ?y8⟩) (by assumption) ?z8
      case y8 => (intro w hSw; (try dsimp only at hSw); go_simp) <;> with_reducible rfl
      try simp only [Act.put, List.setIfInBounds_toArray, List.set_cons_zero, List.set_cons_succ]
      refine wpAnyH_done (by kernel_rfl) ?_ _
      generalize hV : V2 = V at hHeld ⊢
      clear hV
      have hc := hHeld.1
      go_wp2_with (first | (go_at_call 25; ((with_reducible refine (one_c _ _).mono ?_); rintro e w1 ⟨rfl, hb⟩; have HB := Lib.hid hb; clear hb)) | (go_at_call 25; ((with_reducible refine (one_c _ _).mono ?_); rintro e w1 ⟨rfl, hb⟩; have HB := Lib.hid hb; clear hb)) | (go_at_call 26; ((with_reducible refine (two_c _ _).mono ?_); rintro e w1 ⟨rfl, hb⟩; have HB := Lib.hid hb; clear hb)) | (go_at_call 27; ((with_reducible refine (rsum_c _ _).mono ?_); rintro e w1 ⟨rfl, hb⟩; have HB := Lib.hid hb; clear hb)) | (go_at_call 28; ((with_reducible refine (rturn_c _ _).mono ?_); rintro e w1 ⟨rfl, hb⟩; have HB := Lib.hid hb; clear hb)) | (go_at_call 31; ((with_reducible refine (rfar_c _ _).mono ?_); rintro e w1 ⟨rfl, hb⟩; have HB := Lib.hid hb; clear hb)) | (go_at_call 32; ((with_reducible refine (rbits_c _ _).mono ?_); rintro e w1 ⟨rfl, hb⟩; have HB := Lib.hid hb; clear hb)))
      go_ret
      rw [cat]
      rw [cat]
      rw [cat]
      exact ⟨by simp, via hHeld.2.1 HB.out⟩
set_option maxRecDepth 100000 in
set_option maxHeartbeats 2000000 in
theorem rt_10 (x y s : Int) (n : Nat) (hn : n < 65536) (w : World) : Calls Tryd.prog 14 #[.agg #[.int .i64 10, .int .i64 x, .int .i64 y, .int .i64 s, .int .u16 (n : Nat)]] w fun e w' => e = .returned (.string ⟨(lineL (pickL x sumN) ([[97], pickL y placeN])).toArray⟩) ∧ Below w.heap.size w w' := by
  rw [line2]
  have l2 := hexs_len n 2
  have l4 := hexs_len n 4
  have t1 := pick_len x sumN (by decide)
  have t2 := pick_len y placeN (by decide)
  have q0 : ¬ 9223372036854775807 < (pickL x sumN).length + 4 := by omega
  have q1 : ¬ 9223372036854775807 < (pickL x sumN).length + 4 + (pickL y placeN).length := by omega
  clear l2 l4
  go_enter Tryd.func14, Tryd.ntmps14
  go_wp2_with fail
  refine wp_region_held_drew (S := (fun w' => (∀ o, w'.cell? ⟨w.heap.size, o, none⟩ = #[Value.int .i64 10, .int .i64 x, .int .i64 y, .int .i64 s, .int .u16 (n : Nat)][o]?) ∧ QR w w')) (by kernel_rfl) (QS.new w #[.int .i64 10, .int .i64 x, .int .i64 y, .int .i64 s, .int .u16 (n : Nat)] 29) (fun hHeld => ?_)
  generalize (w.alloc (.cells #[.int .i64 10, .int .i64 x, .int .i64 y, .int .i64 s, .int .u16 (n : Nat)] 29)).drew = V0 at hHeld ⊢
  refine wpAnyH_take (i := 0) (oi := { dst := some 5, op := Go.Op.fieldAddr 29 (Go.Operand.tmp 1) 4, type := 0, pos := "ref.go:207", after := #[], guard := none }) (v := ?v1) rfl (by kernel_rfl) (by kernel_rfl) (by kernel_rfl) (fun _ _ _ h => h) (Or.inl ⟨by rfl, ?y1⟩) (by assumption) ?z1
  case y1 => (intro w hSw; (try dsimp only at hSw); go_simp) <;> with_reducible rfl
  try simp only [Act.put, List.setIfInBounds_toArray, List.set_cons_zero, List.set_cons_succ]
  refine wpAnyH_take (i := 1) (oi := { dst := some 6, op := Go.Op.load 25 (Go.Operand.tmp 5), type := 25, pos := "ref.go:207", after := #[{ on := 0, ground := Go.Ground.data }], guard := none }) (v := ?v2) rfl (by kernel_rfl) (by kernel_rfl) (by kernel_rfl) (fun _ _ _ h => h) (Or.inl ⟨by rfl, ?y2⟩) (by assumption) ?z2
  case y2 => (intro w hSw; (try dsimp only at hSw); go_simp) <;> with_reducible rfl
  try simp only [Act.put, List.setIfInBounds_toArray, List.set_cons_zero, List.set_cons_succ]
  refine wpAnyH_take (i := 3) (oi := { dst := some 8, op := Go.Op.fieldAddr 29 (Go.Operand.tmp 1) 4, type := 0, pos := "ref.go:207", after := #[], guard := none }) (v := ?v3) rfl (by kernel_rfl) (by kernel_rfl) (by kernel_rfl) (fun _ _ _ h => h) (Or.inl ⟨by rfl, ?y3⟩) (by assumption) ?z3
  case y3 => (intro w hSw; (try dsimp only at hSw); go_simp) <;> with_reducible rfl
  try simp only [Act.put, List.setIfInBounds_toArray, List.set_cons_zero, List.set_cons_succ]
  refine wpAnyH_take (i := 4) (oi := { dst := some 9, op := Go.Op.load 25 (Go.Operand.tmp 8), type := 25, pos := "ref.go:207", after := #[{ on := 3, ground := Go.Ground.data }], guard := none }) (v := ?v4) rfl (by kernel_rfl) (by kernel_rfl) (by kernel_rfl) (fun _ _ _ h => h) (Or.inl ⟨by rfl, ?y4⟩) (by assumption) ?z4
  case y4 => (intro w hSw; (try dsimp only at hSw); go_simp) <;> with_reducible rfl
  try simp only [Act.put, List.setIfInBounds_toArray, List.set_cons_zero, List.set_cons_succ]
  refine wpAnyH_ready (rs := [2]) (by kernel_rfl) (by simp) ?_
  refine (AllReadyH.cons (o := { dst := some 7, op := Go.Op.call { callee := Go.Callee.value (Go.Operand.func 24), args := #[Go.Operand.tmp 6, Go.Operand.const (Go.Value.int Go.IntKind.i64 2)], argTypes := #[25, 3] }, type := 9, pos := "ref.go:207", after := #[{ on := 1, ground := Go.Ground.data }], guard := none }) rfl (fun K hK => ?_) AllReadyH.nil)
  · go_simp
    go_wp2_with (go_at_call 24; (with_reducible refine (rhex2 n hn _).mono ?_); rintro e V1 ⟨rfl, hb⟩)
    refine hK.out _ _ ?s5 (fun hNew => ?r5)
    case s5 => exact QS.below hHeld hb
    clear hK K
    clear hb
    clear hHeld
    have hHeld := hNew
    clear hNew
    refine wpAnyH_ready (rs := [5]) (by kernel_rfl) (by simp) ?_
    refine (AllReadyH.cons (o := { dst := some 10, op := Go.Op.call { callee := Go.Callee.value (Go.Operand.func 24), args := #[Go.Operand.tmp 9, Go.Operand.const (Go.Value.int Go.IntKind.i64 4)], argTypes := #[25, 3] }, type := 9, pos := "ref.go:207", after := #[{ on := 4, ground := Go.Ground.data }, { on := 2, ground := Go.Ground.chain }], guard := none }) rfl (fun K hK => ?_) AllReadyH.nil)
    · go_simp
      go_wp2_with (go_at_call 24; (with_reducible refine (rhex4 n hn _).mono ?_); rintro e V2 ⟨rfl, hb⟩)
      refine hK.out _ _ ?s6 (fun hNew => ?r6)
      case s6 => exact QS.below hHeld hb
      clear hK K
      clear hb
      clear hHeld
      have hHeld := hNew
      clear hNew
      refine wpAnyH_take (i := 6) (oi := { dst := some 3, op := Go.Op.assign (Go.Operand.tmp 7), type := 9, pos := "ref.go:207", after := #[{ on := 2, ground := Go.Ground.data }, { on := 5, ground := Go.Ground.chain }, { on := 0, ground := Go.Ground.phase }, { on := 1, ground := Go.Ground.phase }, { on := 2, ground := Go.Ground.phase }, { on := 3, ground := Go.Ground.textOnly Go.Departure.lateStores }, { on := 4, ground := Go.Ground.textOnly Go.Departure.lateStores }, { on := 5, ground := Go.Ground.textOnly Go.Departure.lateStoresUnsure }], guard := none }) (v := ?v7) rfl (by kernel_rfl) (by kernel_rfl) (by kernel_rfl) (fun _ _ _ h => h) (Or.inl ⟨by rfl, ?y7⟩) (by assumption) ?z7
      case y7 => (intro w hSw; (try dsimp only at hSw); go_simp) <;> with_reducible rfl
      try simp only [Act.put, List.setIfInBounds_toArray, List.set_cons_zero, List.set_cons_succ]
      refine wpAnyH_take (i := 7) (oi := { dst := some 4, op := Go.Op.assign (Go.Operand.tmp 10), type := 9, pos := "ref.go:207", after := #[{ on := 5, ground := Go.Ground.data }, { on := 6, ground := Go.Ground.chain }, { on := 0, ground := Go.Ground.phase }, { on := 1, ground := Go.Ground.phase }, { on := 2, ground := Go.Ground.phase }, { on := 3, ground := Go.Ground.phase }, { on := 4, ground := Go.Ground.phase }, { on := 5, ground := Go.Ground.phase }, { on := 6, ground := Go.Ground.phase }], guard := none }) (v := ?v8) rfl (by kernel_rfl) (by kernel_rfl) (by kernel_rfl) (fun _ _ _ h => h) (Or.inl ⟨by rfl, ?y8⟩) (by assumption) ?z8
      case y8 => (intro w hSw; (try dsimp only at hSw); go_simp) <;> with_reducible rfl
      try simp only [Act.put, List.setIfInBounds_toArray, List.set_cons_zero, List.set_cons_succ]
      refine wpAnyH_done (by kernel_rfl) ?_ _
      generalize hV : V2 = V at hHeld ⊢
      clear hV
      have hc := hHeld.1
      clear hc
      go_wp2_with fail
      refine wp_region_held_drew (S := (fun w' => (∀ o, w'.cell? ⟨w.heap.size, o, none⟩ = #[Value.int .i64 10, .int .i64 x, .int .i64 y, .int .i64 s, .int .u16 (n : Nat)][o]?) ∧ QR w w')) (by kernel_rfl) (QS.drew hHeld) (fun hNew => ?_)
      clear hHeld
      have hHeld := hNew
      clear hNew
      generalize V.drew = U0 at hHeld ⊢
      refine wpAnyH_take (i := 0) (oi := { dst := some 58, op := Go.Op.fieldAddr 29 (Go.Operand.tmp 1) 1, type := 0, pos := "ref.go:228", after := #[], guard := none }) (v := ?v501) rfl (by kernel_rfl) (by kernel_rfl) (by kernel_rfl) (fun _ _ _ h => h) (Or.inl ⟨by rfl, ?y501⟩) (by assumption) ?z501
      case y501 => (intro w hSw; (try dsimp only at hSw); go_simp) <;> with_reducible rfl
      try simp only [Act.put, List.setIfInBounds_toArray, List.set_cons_zero, List.set_cons_succ]
      refine wpAnyH_take (i := 1) (oi := { dst := some 59, op := Go.Op.load 3 (Go.Operand.tmp 58), type := 3, pos := "ref.go:228", after := #[{ on := 0, ground := Go.Ground.data }], guard := none }) (v := ?v502) rfl (by kernel_rfl) (by kernel_rfl) (by kernel_rfl) (fun _ _ _ h => h) (Or.inl ⟨by rfl, ?y502⟩) (by assumption) ?z502
      case y502 => (intro w hSw; (try dsimp only at hSw); go_simp) <;> with_reducible rfl
      try simp only [Act.put, List.setIfInBounds_toArray, List.set_cons_zero, List.set_cons_succ]
      refine wpAnyH_take (i := 4) (oi := { dst := some 62, op := Go.Op.fieldAddr 29 (Go.Operand.tmp 1) 2, type := 0, pos := "ref.go:228", after := #[], guard := none }) (v := ?v503) rfl (by kernel_rfl) (by kernel_rfl) (by kernel_rfl) (fun _ _ _ h => h) (Or.inl ⟨by rfl, ?y503⟩) (by assumption) ?z503
      case y503 => (intro w hSw; (try dsimp only at hSw); go_simp) <;> with_reducible rfl
      try simp only [Act.put, List.setIfInBounds_toArray, List.set_cons_zero, List.set_cons_succ]
      refine wpAnyH_take (i := 5) (oi := { dst := some 63, op := Go.Op.load 3 (Go.Operand.tmp 62), type := 3, pos := "ref.go:228", after := #[{ on := 4, ground := Go.Ground.data }], guard := none }) (v := ?v504) rfl (by kernel_rfl) (by kernel_rfl) (by kernel_rfl) (fun _ _ _ h => h) (Or.inl ⟨by rfl, ?y504⟩) (by assumption) ?z504
      case y504 => (intro w hSw; (try dsimp only at hSw); go_simp) <;> with_reducible rfl
      try simp only [Act.put, List.setIfInBounds_toArray, List.set_cons_zero, List.set_cons_succ]
      refine wpAnyH_ready (rs := [2]) (by kernel_rfl) (by simp) ?_
      refine (AllReadyH.cons (o := { dst := some 60, op := Go.Op.call { callee := Go.Callee.value (Go.Operand.func 27), args := #[Go.Operand.tmp 59], argTypes := #[3] }, type := 9, pos := "ref.go:228", after := #[{ on := 1, ground := Go.Ground.data }], guard := none }) rfl (fun K hK => ?_) AllReadyH.nil)
      · go_simp
        go_wp2_with (go_at_call 27; (with_reducible refine (rsum_c _ _).mono ?_); rintro e U1 ⟨rfl, hb⟩)
        refine hK.out _ _ ?s505 (fun hNew => ?r505)
        case s505 => exact QS.below hHeld hb
        clear hK K
        clear hb
        clear hHeld
        have hHeld := hNew
        clear hNew
        refine wpAnyH_take (i := 3) (oi := { dst := some 61, op := Go.Op.binOp Go.BinOp.add 9 (Go.Operand.tmp 60) (Go.Operand.const (Go.Value.string { data := #[32, 97, 44, 32] })) 9, type := 9, pos := "ref.go:228", after := #[{ on := 2, ground := Go.Ground.data }], guard := none }) (v := ?v506) rfl (by kernel_rfl) (by kernel_rfl) (by kernel_rfl) (fun _ _ _ h => h) (Or.inl ⟨by rfl, ?y506⟩) (by assumption) ?z506
        case y506 => (intro w hSw; (try dsimp only at hSw); go_simp) <;> with_reducible rfl
        try simp only [Act.put, List.setIfInBounds_toArray, List.set_cons_zero, List.set_cons_succ]
        refine wpAnyH_ready (rs := [6]) (by kernel_rfl) (by simp) ?_
        refine (AllReadyH.cons (o := { dst := some 64, op := Go.Op.call { callee := Go.Callee.value (Go.Operand.func 25), args := #[Go.Operand.tmp 63], argTypes := #[3] }, type := 9, pos := "ref.go:228", after := #[{ on := 5, ground := Go.Ground.data }, { on := 2, ground := Go.Ground.chain }], guard := none }) rfl (fun K hK => ?_) AllReadyH.nil)
        · go_simp
          go_wp2_with (go_at_call 25; (with_reducible refine (one_c _ _).mono ?_); rintro e U2 ⟨rfl, hb⟩)
          refine hK.out _ _ ?s507 (fun hNew => ?r507)
          case s507 => exact QS.below hHeld hb
          clear hK K
          clear hb
          clear hHeld
          have hHeld := hNew
          clear hNew
          refine wpAnyH_take (i := 7) (oi := { dst := some 65, op := Go.Op.binOp Go.BinOp.add 9 (Go.Operand.tmp 61) (Go.Operand.tmp 64) 9, type := 9, pos := "ref.go:228", after := #[{ on := 3, ground := Go.Ground.data }, { on := 6, ground := Go.Ground.data }], guard := none }) (v := ?v508) rfl (by kernel_rfl) (by kernel_rfl) (by kernel_rfl) (fun _ _ _ h => h) (Or.inl ⟨by rfl, ?y508⟩) (by assumption) ?z508
          case y508 => (intro w hSw; (try dsimp only at hSw); go_simp) <;> with_reducible rfl
          try simp only [Act.put, List.setIfInBounds_toArray, List.set_cons_zero, List.set_cons_succ]
          refine wpAnyH_take (i := 8) (oi := { dst := some 2, op := Go.Op.assign (Go.Operand.tmp 65), type := 9, pos := "ref.go:228", after := #[{ on := 7, ground := Go.Ground.data }, { on := 6, ground := Go.Ground.chain }, { on := 0, ground := Go.Ground.phase }, { on := 1, ground := Go.Ground.phase }, { on := 2, ground := Go.Ground.phase }, { on := 3, ground := Go.Ground.phase }, { on := 4, ground := Go.Ground.phase }, { on := 5, ground := Go.Ground.phase }, { on := 6, ground := Go.Ground.phase }, { on := 7, ground := Go.Ground.phase }], guard := none }) (v := ?v509) rfl (by kernel_rfl) (by kernel_rfl) (by kernel_rfl) (fun _ _ _ h => h) (Or.inl ⟨by rfl, ?y509⟩) (by assumption) ?z509
          case y509 => (intro w hSw; (try dsimp only at hSw); go_simp) <;> with_reducible rfl
          try simp only [Act.put, List.setIfInBounds_toArray, List.set_cons_zero, List.set_cons_succ]
          refine wpAnyH_done (by kernel_rfl) ?_ _
          go_wp2
          go_ret
          rw [cat]
          rw [cat]
          exact ⟨by simp, hHeld.2.1⟩
set_option maxRecDepth 100000 in
set_option maxHeartbeats 2000000 in
theorem rt_11 (x y s : Int) (n : Nat) (hn : n < 65536) (w : World) : Calls Tryd.prog 14 #[.agg #[.int .i64 11, .int .i64 x, .int .i64 y, .int .i64 s, .int .u16 (n : Nat)]] w fun e w' => e = .returned (.string ⟨(lineL (pickL x sumN) ([[97], hexs n 2])).toArray⟩) ∧ Below w.heap.size w w' := by
  rw [line2]
  have l2 := hexs_len n 2
  have l4 := hexs_len n 4
  have t1 := pick_len x sumN (by decide)
  have q0 : ¬ 9223372036854775807 < (pickL x sumN).length + 4 := by omega
  have q1 : ¬ 9223372036854775807 < (pickL x sumN).length + 4 + (hexs n 2).length := by omega
  clear l2 l4
  go_enter Tryd.func14, Tryd.ntmps14
  go_wp2_with fail
  refine wp_region_held_drew (S := (fun w' => (∀ o, w'.cell? ⟨w.heap.size, o, none⟩ = #[Value.int .i64 11, .int .i64 x, .int .i64 y, .int .i64 s, .int .u16 (n : Nat)][o]?) ∧ QR w w')) (by kernel_rfl) (QS.new w #[.int .i64 11, .int .i64 x, .int .i64 y, .int .i64 s, .int .u16 (n : Nat)] 29) (fun hHeld => ?_)
  generalize (w.alloc (.cells #[.int .i64 11, .int .i64 x, .int .i64 y, .int .i64 s, .int .u16 (n : Nat)] 29)).drew = V0 at hHeld ⊢
  refine wpAnyH_take (i := 0) (oi := { dst := some 5, op := Go.Op.fieldAddr 29 (Go.Operand.tmp 1) 4, type := 0, pos := "ref.go:207", after := #[], guard := none }) (v := ?v1) rfl (by kernel_rfl) (by kernel_rfl) (by kernel_rfl) (fun _ _ _ h => h) (Or.inl ⟨by rfl, ?y1⟩) (by assumption) ?z1
  case y1 => (intro w hSw; (try dsimp only at hSw); go_simp) <;> with_reducible rfl
  try simp only [Act.put, List.setIfInBounds_toArray, List.set_cons_zero, List.set_cons_succ]
  refine wpAnyH_take (i := 1) (oi := { dst := some 6, op := Go.Op.load 25 (Go.Operand.tmp 5), type := 25, pos := "ref.go:207", after := #[{ on := 0, ground := Go.Ground.data }], guard := none }) (v := ?v2) rfl (by kernel_rfl) (by kernel_rfl) (by kernel_rfl) (fun _ _ _ h => h) (Or.inl ⟨by rfl, ?y2⟩) (by assumption) ?z2
  case y2 => (intro w hSw; (try dsimp only at hSw); go_simp) <;> with_reducible rfl
  try simp only [Act.put, List.setIfInBounds_toArray, List.set_cons_zero, List.set_cons_succ]
  refine wpAnyH_take (i := 3) (oi := { dst := some 8, op := Go.Op.fieldAddr 29 (Go.Operand.tmp 1) 4, type := 0, pos := "ref.go:207", after := #[], guard := none }) (v := ?v3) rfl (by kernel_rfl) (by kernel_rfl) (by kernel_rfl) (fun _ _ _ h => h) (Or.inl ⟨by rfl, ?y3⟩) (by assumption) ?z3
  case y3 => (intro w hSw; (try dsimp only at hSw); go_simp) <;> with_reducible rfl
  try simp only [Act.put, List.setIfInBounds_toArray, List.set_cons_zero, List.set_cons_succ]
  refine wpAnyH_take (i := 4) (oi := { dst := some 9, op := Go.Op.load 25 (Go.Operand.tmp 8), type := 25, pos := "ref.go:207", after := #[{ on := 3, ground := Go.Ground.data }], guard := none }) (v := ?v4) rfl (by kernel_rfl) (by kernel_rfl) (by kernel_rfl) (fun _ _ _ h => h) (Or.inl ⟨by rfl, ?y4⟩) (by assumption) ?z4
  case y4 => (intro w hSw; (try dsimp only at hSw); go_simp) <;> with_reducible rfl
  try simp only [Act.put, List.setIfInBounds_toArray, List.set_cons_zero, List.set_cons_succ]
  refine wpAnyH_ready (rs := [2]) (by kernel_rfl) (by simp) ?_
  refine (AllReadyH.cons (o := { dst := some 7, op := Go.Op.call { callee := Go.Callee.value (Go.Operand.func 24), args := #[Go.Operand.tmp 6, Go.Operand.const (Go.Value.int Go.IntKind.i64 2)], argTypes := #[25, 3] }, type := 9, pos := "ref.go:207", after := #[{ on := 1, ground := Go.Ground.data }], guard := none }) rfl (fun K hK => ?_) AllReadyH.nil)
  · go_simp
    go_wp2_with (go_at_call 24; (with_reducible refine (rhex2 n hn _).mono ?_); rintro e V1 ⟨rfl, hb⟩)
    refine hK.out _ _ ?s5 (fun hNew => ?r5)
    case s5 => exact QS.below hHeld hb
    clear hK K
    clear hb
    clear hHeld
    have hHeld := hNew
    clear hNew
    refine wpAnyH_ready (rs := [5]) (by kernel_rfl) (by simp) ?_
    refine (AllReadyH.cons (o := { dst := some 10, op := Go.Op.call { callee := Go.Callee.value (Go.Operand.func 24), args := #[Go.Operand.tmp 9, Go.Operand.const (Go.Value.int Go.IntKind.i64 4)], argTypes := #[25, 3] }, type := 9, pos := "ref.go:207", after := #[{ on := 4, ground := Go.Ground.data }, { on := 2, ground := Go.Ground.chain }], guard := none }) rfl (fun K hK => ?_) AllReadyH.nil)
    · go_simp
      go_wp2_with (go_at_call 24; (with_reducible refine (rhex4 n hn _).mono ?_); rintro e V2 ⟨rfl, hb⟩)
      refine hK.out _ _ ?s6 (fun hNew => ?r6)
      case s6 => exact QS.below hHeld hb
      clear hK K
      clear hb
      clear hHeld
      have hHeld := hNew
      clear hNew
      refine wpAnyH_take (i := 6) (oi := { dst := some 3, op := Go.Op.assign (Go.Operand.tmp 7), type := 9, pos := "ref.go:207", after := #[{ on := 2, ground := Go.Ground.data }, { on := 5, ground := Go.Ground.chain }, { on := 0, ground := Go.Ground.phase }, { on := 1, ground := Go.Ground.phase }, { on := 2, ground := Go.Ground.phase }, { on := 3, ground := Go.Ground.textOnly Go.Departure.lateStores }, { on := 4, ground := Go.Ground.textOnly Go.Departure.lateStores }, { on := 5, ground := Go.Ground.textOnly Go.Departure.lateStoresUnsure }], guard := none }) (v := ?v7) rfl (by kernel_rfl) (by kernel_rfl) (by kernel_rfl) (fun _ _ _ h => h) (Or.inl ⟨by rfl, ?y7⟩) (by assumption) ?z7
      case y7 => (intro w hSw; (try dsimp only at hSw); go_simp) <;> with_reducible rfl
      try simp only [Act.put, List.setIfInBounds_toArray, List.set_cons_zero, List.set_cons_succ]
      refine wpAnyH_take (i := 7) (oi := { dst := some 4, op := Go.Op.assign (Go.Operand.tmp 10), type := 9, pos := "ref.go:207", after := #[{ on := 5, ground := Go.Ground.data }, { on := 6, ground := Go.Ground.chain }, { on := 0, ground := Go.Ground.phase }, { on := 1, ground := Go.Ground.phase }, { on := 2, ground := Go.Ground.phase }, { on := 3, ground := Go.Ground.phase }, { on := 4, ground := Go.Ground.phase }, { on := 5, ground := Go.Ground.phase }, { on := 6, ground := Go.Ground.phase }], guard := none }) (v := ?v8) rfl (by kernel_rfl) (by kernel_rfl) (by kernel_rfl) (fun _ _ _ h => h) (Or.inl ⟨by rfl, ?y8⟩) (by assumption) ?z8
      case y8 => (intro w hSw; (try dsimp only at hSw); go_simp) <;> with_reducible rfl
      try simp only [Act.put, List.setIfInBounds_toArray, List.set_cons_zero, List.set_cons_succ]
      refine wpAnyH_done (by kernel_rfl) ?_ _
      generalize hV : V2 = V at hHeld ⊢
      clear hV
      have hc := hHeld.1
      go_wp2_with (first | (go_at_call 25; ((with_reducible refine (one_c _ _).mono ?_); rintro e w1 ⟨rfl, hb⟩; have HB := Lib.hid hb; clear hb)) | (go_at_call 25; ((with_reducible refine (one_c _ _).mono ?_); rintro e w1 ⟨rfl, hb⟩; have HB := Lib.hid hb; clear hb)) | (go_at_call 26; ((with_reducible refine (two_c _ _).mono ?_); rintro e w1 ⟨rfl, hb⟩; have HB := Lib.hid hb; clear hb)) | (go_at_call 27; ((with_reducible refine (rsum_c _ _).mono ?_); rintro e w1 ⟨rfl, hb⟩; have HB := Lib.hid hb; clear hb)) | (go_at_call 28; ((with_reducible refine (rturn_c _ _).mono ?_); rintro e w1 ⟨rfl, hb⟩; have HB := Lib.hid hb; clear hb)) | (go_at_call 31; ((with_reducible refine (rfar_c _ _).mono ?_); rintro e w1 ⟨rfl, hb⟩; have HB := Lib.hid hb; clear hb)) | (go_at_call 32; ((with_reducible refine (rbits_c _ _).mono ?_); rintro e w1 ⟨rfl, hb⟩; have HB := Lib.hid hb; clear hb)))
      go_ret
      rw [cat]
      rw [cat]
      exact ⟨by simp, via hHeld.2.1 HB.out⟩
set_option maxRecDepth 100000 in
set_option maxHeartbeats 2000000 in
theorem rt_12 (x y s : Int) (n : Nat) (hn : n < 65536) (w : World) : Calls Tryd.prog 14 #[.agg #[.int .i64 12, .int .i64 x, .int .i64 y, .int .i64 s, .int .u16 (n : Nat)]] w fun e w' => e = .returned (.string ⟨(lineL ([105, 110, 99]) ([pickL x placeN])).toArray⟩) ∧ Below w.heap.size w w' := by
  rw [line1]
  have l2 := hexs_len n 2
  have l4 := hexs_len n 4
  have t1 := pick_len x placeN (by decide)
  have q0 : ¬ 9223372036854775807 < 4 + (pickL x placeN).length := by omega
  clear l2 l4
  go_enter Tryd.func14, Tryd.ntmps14
  go_wp2_with fail
  refine wp_region_held_drew (S := (fun w' => (∀ o, w'.cell? ⟨w.heap.size, o, none⟩ = #[Value.int .i64 12, .int .i64 x, .int .i64 y, .int .i64 s, .int .u16 (n : Nat)][o]?) ∧ QR w w')) (by kernel_rfl) (QS.new w #[.int .i64 12, .int .i64 x, .int .i64 y, .int .i64 s, .int .u16 (n : Nat)] 29) (fun hHeld => ?_)
  generalize (w.alloc (.cells #[.int .i64 12, .int .i64 x, .int .i64 y, .int .i64 s, .int .u16 (n : Nat)] 29)).drew = V0 at hHeld ⊢
  refine wpAnyH_take (i := 0) (oi := { dst := some 5, op := Go.Op.fieldAddr 29 (Go.Operand.tmp 1) 4, type := 0, pos := "ref.go:207", after := #[], guard := none }) (v := ?v1) rfl (by kernel_rfl) (by kernel_rfl) (by kernel_rfl) (fun _ _ _ h => h) (Or.inl ⟨by rfl, ?y1⟩) (by assumption) ?z1
  case y1 => (intro w hSw; (try dsimp only at hSw); go_simp) <;> with_reducible rfl
  try simp only [Act.put, List.setIfInBounds_toArray, List.set_cons_zero, List.set_cons_succ]
  refine wpAnyH_take (i := 1) (oi := { dst := some 6, op := Go.Op.load 25 (Go.Operand.tmp 5), type := 25, pos := "ref.go:207", after := #[{ on := 0, ground := Go.Ground.data }], guard := none }) (v := ?v2) rfl (by kernel_rfl) (by kernel_rfl) (by kernel_rfl) (fun _ _ _ h => h) (Or.inl ⟨by rfl, ?y2⟩) (by assumption) ?z2
  case y2 => (intro w hSw; (try dsimp only at hSw); go_simp) <;> with_reducible rfl
  try simp only [Act.put, List.setIfInBounds_toArray, List.set_cons_zero, List.set_cons_succ]
  refine wpAnyH_take (i := 3) (oi := { dst := some 8, op := Go.Op.fieldAddr 29 (Go.Operand.tmp 1) 4, type := 0, pos := "ref.go:207", after := #[], guard := none }) (v := ?v3) rfl (by kernel_rfl) (by kernel_rfl) (by kernel_rfl) (fun _ _ _ h => h) (Or.inl ⟨by rfl, ?y3⟩) (by assumption) ?z3
  case y3 => (intro w hSw; (try dsimp only at hSw); go_simp) <;> with_reducible rfl
  try simp only [Act.put, List.setIfInBounds_toArray, List.set_cons_zero, List.set_cons_succ]
  refine wpAnyH_take (i := 4) (oi := { dst := some 9, op := Go.Op.load 25 (Go.Operand.tmp 8), type := 25, pos := "ref.go:207", after := #[{ on := 3, ground := Go.Ground.data }], guard := none }) (v := ?v4) rfl (by kernel_rfl) (by kernel_rfl) (by kernel_rfl) (fun _ _ _ h => h) (Or.inl ⟨by rfl, ?y4⟩) (by assumption) ?z4
  case y4 => (intro w hSw; (try dsimp only at hSw); go_simp) <;> with_reducible rfl
  try simp only [Act.put, List.setIfInBounds_toArray, List.set_cons_zero, List.set_cons_succ]
  refine wpAnyH_ready (rs := [2]) (by kernel_rfl) (by simp) ?_
  refine (AllReadyH.cons (o := { dst := some 7, op := Go.Op.call { callee := Go.Callee.value (Go.Operand.func 24), args := #[Go.Operand.tmp 6, Go.Operand.const (Go.Value.int Go.IntKind.i64 2)], argTypes := #[25, 3] }, type := 9, pos := "ref.go:207", after := #[{ on := 1, ground := Go.Ground.data }], guard := none }) rfl (fun K hK => ?_) AllReadyH.nil)
  · go_simp
    go_wp2_with (go_at_call 24; (with_reducible refine (rhex2 n hn _).mono ?_); rintro e V1 ⟨rfl, hb⟩)
    refine hK.out _ _ ?s5 (fun hNew => ?r5)
    case s5 => exact QS.below hHeld hb
    clear hK K
    clear hb
    clear hHeld
    have hHeld := hNew
    clear hNew
    refine wpAnyH_ready (rs := [5]) (by kernel_rfl) (by simp) ?_
    refine (AllReadyH.cons (o := { dst := some 10, op := Go.Op.call { callee := Go.Callee.value (Go.Operand.func 24), args := #[Go.Operand.tmp 9, Go.Operand.const (Go.Value.int Go.IntKind.i64 4)], argTypes := #[25, 3] }, type := 9, pos := "ref.go:207", after := #[{ on := 4, ground := Go.Ground.data }, { on := 2, ground := Go.Ground.chain }], guard := none }) rfl (fun K hK => ?_) AllReadyH.nil)
    · go_simp
      go_wp2_with (go_at_call 24; (with_reducible refine (rhex4 n hn _).mono ?_); rintro e V2 ⟨rfl, hb⟩)
      refine hK.out _ _ ?s6 (fun hNew => ?r6)
      case s6 => exact QS.below hHeld hb
      clear hK K
      clear hb
      clear hHeld
      have hHeld := hNew
      clear hNew
      refine wpAnyH_take (i := 6) (oi := { dst := some 3, op := Go.Op.assign (Go.Operand.tmp 7), type := 9, pos := "ref.go:207", after := #[{ on := 2, ground := Go.Ground.data }, { on := 5, ground := Go.Ground.chain }, { on := 0, ground := Go.Ground.phase }, { on := 1, ground := Go.Ground.phase }, { on := 2, ground := Go.Ground.phase }, { on := 3, ground := Go.Ground.textOnly Go.Departure.lateStores }, { on := 4, ground := Go.Ground.textOnly Go.Departure.lateStores }, { on := 5, ground := Go.Ground.textOnly Go.Departure.lateStoresUnsure }], guard := none }) (v := ?v7) rfl (by kernel_rfl) (by kernel_rfl) (by kernel_rfl) (fun _ _ _ h => h) (Or.inl ⟨by rfl, ?y7⟩) (by assumption) ?z7
      case y7 => (intro w hSw; (try dsimp only at hSw); go_simp) <;> with_reducible rfl
      try simp only [Act.put, List.setIfInBounds_toArray, List.set_cons_zero, List.set_cons_succ]
      refine wpAnyH_take (i := 7) (oi := { dst := some 4, op := Go.Op.assign (Go.Operand.tmp 10), type := 9, pos := "ref.go:207", after := #[{ on := 5, ground := Go.Ground.data }, { on := 6, ground := Go.Ground.chain }, { on := 0, ground := Go.Ground.phase }, { on := 1, ground := Go.Ground.phase }, { on := 2, ground := Go.Ground.phase }, { on := 3, ground := Go.Ground.phase }, { on := 4, ground := Go.Ground.phase }, { on := 5, ground := Go.Ground.phase }, { on := 6, ground := Go.Ground.phase }], guard := none }) (v := ?v8) rfl (by kernel_rfl) (by kernel_rfl) (by kernel_rfl) (fun _ _ _ h => h) (Or.inl ⟨by rfl, ?y8⟩) (by assumption) ?z8
      case y8 => (intro w hSw; (try dsimp only at hSw); go_simp) <;> with_reducible rfl
      try simp only [Act.put, List.setIfInBounds_toArray, List.set_cons_zero, List.set_cons_succ]
      refine wpAnyH_done (by kernel_rfl) ?_ _
      generalize hV : V2 = V at hHeld ⊢
      clear hV
      have hc := hHeld.1
      go_wp2_with (first | (go_at_call 25; ((with_reducible refine (one_c _ _).mono ?_); rintro e w1 ⟨rfl, hb⟩; have HB := Lib.hid hb; clear hb)) | (go_at_call 25; ((with_reducible refine (one_c _ _).mono ?_); rintro e w1 ⟨rfl, hb⟩; have HB := Lib.hid hb; clear hb)) | (go_at_call 26; ((with_reducible refine (two_c _ _).mono ?_); rintro e w1 ⟨rfl, hb⟩; have HB := Lib.hid hb; clear hb)) | (go_at_call 27; ((with_reducible refine (rsum_c _ _).mono ?_); rintro e w1 ⟨rfl, hb⟩; have HB := Lib.hid hb; clear hb)) | (go_at_call 28; ((with_reducible refine (rturn_c _ _).mono ?_); rintro e w1 ⟨rfl, hb⟩; have HB := Lib.hid hb; clear hb)) | (go_at_call 31; ((with_reducible refine (rfar_c _ _).mono ?_); rintro e w1 ⟨rfl, hb⟩; have HB := Lib.hid hb; clear hb)) | (go_at_call 32; ((with_reducible refine (rbits_c _ _).mono ?_); rintro e w1 ⟨rfl, hb⟩; have HB := Lib.hid hb; clear hb)))
      go_ret
      rw [cat]
      exact ⟨by simp, via hHeld.2.1 HB.out⟩
end Go.Proofs.YtaggebfcfebomaaDoor
