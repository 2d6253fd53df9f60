/-
  What the document's Text returns, kind by kind: for every world and every order.
-/
import Derived.Test.YtaggebfcfebomaaDoorRX0
namespace Go.Proofs.YtaggebfcfebomaaDoor
open Go.ChangeShapes Go.WideShapes Go.ChangeAt Go.RowKit
set_option linter.unusedVariables false
set_option maxRecDepth 100000 in
set_option maxHeartbeats 2000000 in
theorem rt_24 (x y s : Int) (n : Nat) (hn : n < 65536) (w : World) : Calls Tryd.prog 14 #[.agg #[.int .i64 24, .int .i64 x, .int .i64 y, .int .i64 s, .int .u16 (n : Nat)]] w fun e w' => e = .returned (.string ⟨(lineL ([106, 112]) (condL x [hexs n 4])).toArray⟩) ∧ Below w.heap.size w w' := by
  go_enter Tryd.func14, Tryd.ntmps14
  go_wp2_with fail
  refine wp_region_held_drew (S := (fun w' => (∀ o, w'.cell? ⟨w.heap.size, o, none⟩ = #[Value.int .i64 24, .int .i64 x, .int .i64 y, .int .i64 s, .int .u16 (n : Nat)][o]?) ∧ QR w w')) (by kernel_rfl) (QS.new w #[.int .i64 24, .int .i64 x, .int .i64 y, .int .i64 s, .int .u16 (n : Nat)] 29) (fun hHeld => ?_)
  generalize (w.alloc (.cells #[.int .i64 24, .int .i64 x, .int .i64 y, .int .i64 s, .int .u16 (n : Nat)] 29)).drew = V0 at hHeld ⊢
  refine wpAnyH_take (i := 0) (oi := { dst := some 5, op := Go.Op.fieldAddr 29 (Go.Operand.tmp 1) 4, type := 0, pos := "ref.go:207", after := #[], guard := none }) (v := ?v1) rfl (by kernel_rfl) (by kernel_rfl) (by kernel_rfl) (fun _ _ _ h => h) (Or.inl ⟨by rfl, ?y1⟩) (by assumption) ?z1
  case y1 => (intro w hSw; (try dsimp only at hSw); go_simp) <;> with_reducible rfl
  try simp only [Act.put, List.setIfInBounds_toArray, List.set_cons_zero, List.set_cons_succ]
  refine wpAnyH_take (i := 1) (oi := { dst := some 6, op := Go.Op.load 25 (Go.Operand.tmp 5), type := 25, pos := "ref.go:207", after := #[{ on := 0, ground := Go.Ground.data }], guard := none }) (v := ?v2) rfl (by kernel_rfl) (by kernel_rfl) (by kernel_rfl) (fun _ _ _ h => h) (Or.inl ⟨by rfl, ?y2⟩) (by assumption) ?z2
  case y2 => (intro w hSw; (try dsimp only at hSw); go_simp) <;> with_reducible rfl
  try simp only [Act.put, List.setIfInBounds_toArray, List.set_cons_zero, List.set_cons_succ]
  refine wpAnyH_take (i := 3) (oi := { dst := some 8, op := Go.Op.fieldAddr 29 (Go.Operand.tmp 1) 4, type := 0, pos := "ref.go:207", after := #[], guard := none }) (v := ?v3) rfl (by kernel_rfl) (by kernel_rfl) (by kernel_rfl) (fun _ _ _ h => h) (Or.inl ⟨by rfl, ?y3⟩) (by assumption) ?z3
  case y3 => (intro w hSw; (try dsimp only at hSw); go_simp) <;> with_reducible rfl
  try simp only [Act.put, List.setIfInBounds_toArray, List.set_cons_zero, List.set_cons_succ]
  refine wpAnyH_take (i := 4) (oi := { dst := some 9, op := Go.Op.load 25 (Go.Operand.tmp 8), type := 25, pos := "ref.go:207", after := #[{ on := 3, ground := Go.Ground.data }], guard := none }) (v := ?v4) rfl (by kernel_rfl) (by kernel_rfl) (by kernel_rfl) (fun _ _ _ h => h) (Or.inl ⟨by rfl, ?y4⟩) (by assumption) ?z4
  case y4 => (intro w hSw; (try dsimp only at hSw); go_simp) <;> with_reducible rfl
  try simp only [Act.put, List.setIfInBounds_toArray, List.set_cons_zero, List.set_cons_succ]
  refine wpAnyH_ready (rs := [2]) (by kernel_rfl) (by simp) ?_
  refine (AllReadyH.cons (o := { dst := some 7, op := Go.Op.call { callee := Go.Callee.value (Go.Operand.func 24), args := #[Go.Operand.tmp 6, Go.Operand.const (Go.Value.int Go.IntKind.i64 2)], argTypes := #[25, 3] }, type := 9, pos := "ref.go:207", after := #[{ on := 1, ground := Go.Ground.data }], guard := none }) rfl (fun K hK => ?_) AllReadyH.nil)
  · go_simp
    go_wp2_with (go_at_call 24; (with_reducible refine (rhex2 n hn _).mono ?_); rintro e V1 ⟨rfl, hb⟩)
    refine hK.out _ _ ?s5 (fun hNew => ?r5)
    case s5 => exact QS.below hHeld hb
    clear hK K
    clear hb
    clear hHeld
    have hHeld := hNew
    clear hNew
    refine wpAnyH_ready (rs := [5]) (by kernel_rfl) (by simp) ?_
    refine (AllReadyH.cons (o := { dst := some 10, op := Go.Op.call { callee := Go.Callee.value (Go.Operand.func 24), args := #[Go.Operand.tmp 9, Go.Operand.const (Go.Value.int Go.IntKind.i64 4)], argTypes := #[25, 3] }, type := 9, pos := "ref.go:207", after := #[{ on := 4, ground := Go.Ground.data }, { on := 2, ground := Go.Ground.chain }], guard := none }) rfl (fun K hK => ?_) AllReadyH.nil)
    · go_simp
      go_wp2_with (go_at_call 24; (with_reducible refine (rhex4 n hn _).mono ?_); rintro e V2 ⟨rfl, hb⟩)
      refine hK.out _ _ ?s6 (fun hNew => ?r6)
      case s6 => exact QS.below hHeld hb
      clear hK K
      clear hb
      clear hHeld
      have hHeld := hNew
      clear hNew
      refine wpAnyH_take (i := 6) (oi := { dst := some 3, op := Go.Op.assign (Go.Operand.tmp 7), type := 9, pos := "ref.go:207", after := #[{ on := 2, ground := Go.Ground.data }, { on := 5, ground := Go.Ground.chain }, { on := 0, ground := Go.Ground.phase }, { on := 1, ground := Go.Ground.phase }, { on := 2, ground := Go.Ground.phase }, { on := 3, ground := Go.Ground.textOnly Go.Departure.lateStores }, { on := 4, ground := Go.Ground.textOnly Go.Departure.lateStores }, { on := 5, ground := Go.Ground.textOnly Go.Departure.lateStoresUnsure }], guard := none }) (v := ?v7) rfl (by kernel_rfl) (by kernel_rfl) (by kernel_rfl) (fun _ _ _ h => h) (Or.inl ⟨by rfl, ?y7⟩) (by assumption) ?z7
      case y7 => (intro w hSw; (try dsimp only at hSw); go_simp) <;> with_reducible rfl
      try simp only [Act.put, List.setIfInBounds_toArray, List.set_cons_zero, List.set_cons_succ]
      refine wpAnyH_take (i := 7) (oi := { dst := some 4, op := Go.Op.assign (Go.Operand.tmp 10), type := 9, pos := "ref.go:207", after := #[{ on := 5, ground := Go.Ground.data }, { on := 6, ground := Go.Ground.chain }, { on := 0, ground := Go.Ground.phase }, { on := 1, ground := Go.Ground.phase }, { on := 2, ground := Go.Ground.phase }, { on := 3, ground := Go.Ground.phase }, { on := 4, ground := Go.Ground.phase }, { on := 5, ground := Go.Ground.phase }, { on := 6, ground := Go.Ground.phase }], guard := none }) (v := ?v8) rfl (by kernel_rfl) (by kernel_rfl) (by kernel_rfl) (fun _ _ _ h => h) (Or.inl ⟨by rfl, ?y8⟩) (by assumption) ?z8
      case y8 => (intro w hSw; (try dsimp only at hSw); go_simp) <;> with_reducible rfl
      try simp only [Act.put, List.setIfInBounds_toArray, List.set_cons_zero, List.set_cons_succ]
      refine wpAnyH_done (by kernel_rfl) ?_ _
      generalize hV : V2 = V at hHeld ⊢
      clear hV
      have hc := hHeld.1
      go_wp2_with fail
      refine (whenA_c [106, 112] (hexs n 4) (by decide) (by rw [hexs_len]; decide) (fun e => by have := congrArg List.length e; rw [hexs_len] at this; simp at this) x _).mono ?_
      rintro e w1 ⟨rfl, hb⟩
      have HB := Lib.hid hb
      clear hb
      go_wp2
      go_ret
      exact ⟨rfl, via hHeld.2.1 HB.out⟩
set_option maxRecDepth 100000 in
set_option maxHeartbeats 2000000 in
theorem rt_25 (x y s : Int) (n : Nat) (hn : n < 65536) (w : World) : Calls Tryd.prog 14 #[.agg #[.int .i64 25, .int .i64 x, .int .i64 y, .int .i64 s, .int .u16 (n : Nat)]] w fun e w' => e = .returned (.string ⟨(lineL ([99, 97, 108, 108]) (condL x [hexs n 4])).toArray⟩) ∧ Below w.heap.size w w' := by
  go_enter Tryd.func14, Tryd.ntmps14
  go_wp2_with fail
  refine wp_region_held_drew (S := (fun w' => (∀ o, w'.cell? ⟨w.heap.size, o, none⟩ = #[Value.int .i64 25, .int .i64 x, .int .i64 y, .int .i64 s, .int .u16 (n : Nat)][o]?) ∧ QR w w')) (by kernel_rfl) (QS.new w #[.int .i64 25, .int .i64 x, .int .i64 y, .int .i64 s, .int .u16 (n : Nat)] 29) (fun hHeld => ?_)
  generalize (w.alloc (.cells #[.int .i64 25, .int .i64 x, .int .i64 y, .int .i64 s, .int .u16 (n : Nat)] 29)).drew = V0 at hHeld ⊢
  refine wpAnyH_take (i := 0) (oi := { dst := some 5, op := Go.Op.fieldAddr 29 (Go.Operand.tmp 1) 4, type := 0, pos := "ref.go:207", after := #[], guard := none }) (v := ?v1) rfl (by kernel_rfl) (by kernel_rfl) (by kernel_rfl) (fun _ _ _ h => h) (Or.inl ⟨by rfl, ?y1⟩) (by assumption) ?z1
  case y1 => (intro w hSw; (try dsimp only at hSw); go_simp) <;> with_reducible rfl
  try simp only [Act.put, List.setIfInBounds_toArray, List.set_cons_zero, List.set_cons_succ]
  refine wpAnyH_take (i := 1) (oi := { dst := some 6, op := Go.Op.load 25 (Go.Operand.tmp 5), type := 25, pos := "ref.go:207", after := #[{ on := 0, ground := Go.Ground.data }], guard := none }) (v := ?v2) rfl (by kernel_rfl) (by kernel_rfl) (by kernel_rfl) (fun _ _ _ h => h) (Or.inl ⟨by rfl, ?y2⟩) (by assumption) ?z2
  case y2 => (intro w hSw; (try dsimp only at hSw); go_simp) <;> with_reducible rfl
  try simp only [Act.put, List.setIfInBounds_toArray, List.set_cons_zero, List.set_cons_succ]
  refine wpAnyH_take (i := 3) (oi := { dst := some 8, op := Go.Op.fieldAddr 29 (Go.Operand.tmp 1) 4, type := 0, pos := "ref.go:207", after := #[], guard := none }) (v := ?v3) rfl (by kernel_rfl) (by kernel_rfl) (by kernel_rfl) (fun _ _ _ h => h) (Or.inl ⟨by rfl, ?y3⟩) (by assumption) ?z3
  case y3 => (intro w hSw; (try dsimp only at hSw); go_simp) <;> with_reducible rfl
  try simp only [Act.put, List.setIfInBounds_toArray, List.set_cons_zero, List.set_cons_succ]
  refine wpAnyH_take (i := 4) (oi := { dst := some 9, op := Go.Op.load 25 (Go.Operand.tmp 8), type := 25, pos := "ref.go:207", after := #[{ on := 3, ground := Go.Ground.data }], guard := none }) (v := ?v4) rfl (by kernel_rfl) (by kernel_rfl) (by kernel_rfl) (fun _ _ _ h => h) (Or.inl ⟨by rfl, ?y4⟩) (by assumption) ?z4
  case y4 => (intro w hSw; (try dsimp only at hSw); go_simp) <;> with_reducible rfl
  try simp only [Act.put, List.setIfInBounds_toArray, List.set_cons_zero, List.set_cons_succ]
  refine wpAnyH_ready (rs := [2]) (by kernel_rfl) (by simp) ?_
  refine (AllReadyH.cons (o := { dst := some 7, op := Go.Op.call { callee := Go.Callee.value (Go.Operand.func 24), args := #[Go.Operand.tmp 6, Go.Operand.const (Go.Value.int Go.IntKind.i64 2)], argTypes := #[25, 3] }, type := 9, pos := "ref.go:207", after := #[{ on := 1, ground := Go.Ground.data }], guard := none }) rfl (fun K hK => ?_) AllReadyH.nil)
  · go_simp
    go_wp2_with (go_at_call 24; (with_reducible refine (rhex2 n hn _).mono ?_); rintro e V1 ⟨rfl, hb⟩)
    refine hK.out _ _ ?s5 (fun hNew => ?r5)
    case s5 => exact QS.below hHeld hb
    clear hK K
    clear hb
    clear hHeld
    have hHeld := hNew
    clear hNew
    refine wpAnyH_ready (rs := [5]) (by kernel_rfl) (by simp) ?_
    refine (AllReadyH.cons (o := { dst := some 10, op := Go.Op.call { callee := Go.Callee.value (Go.Operand.func 24), args := #[Go.Operand.tmp 9, Go.Operand.const (Go.Value.int Go.IntKind.i64 4)], argTypes := #[25, 3] }, type := 9, pos := "ref.go:207", after := #[{ on := 4, ground := Go.Ground.data }, { on := 2, ground := Go.Ground.chain }], guard := none }) rfl (fun K hK => ?_) AllReadyH.nil)
    · go_simp
      go_wp2_with (go_at_call 24; (with_reducible refine (rhex4 n hn _).mono ?_); rintro e V2 ⟨rfl, hb⟩)
      refine hK.out _ _ ?s6 (fun hNew => ?r6)
      case s6 => exact QS.below hHeld hb
      clear hK K
      clear hb
      clear hHeld
      have hHeld := hNew
      clear hNew
      refine wpAnyH_take (i := 6) (oi := { dst := some 3, op := Go.Op.assign (Go.Operand.tmp 7), type := 9, pos := "ref.go:207", after := #[{ on := 2, ground := Go.Ground.data }, { on := 5, ground := Go.Ground.chain }, { on := 0, ground := Go.Ground.phase }, { on := 1, ground := Go.Ground.phase }, { on := 2, ground := Go.Ground.phase }, { on := 3, ground := Go.Ground.textOnly Go.Departure.lateStores }, { on := 4, ground := Go.Ground.textOnly Go.Departure.lateStores }, { on := 5, ground := Go.Ground.textOnly Go.Departure.lateStoresUnsure }], guard := none }) (v := ?v7) rfl (by kernel_rfl) (by kernel_rfl) (by kernel_rfl) (fun _ _ _ h => h) (Or.inl ⟨by rfl, ?y7⟩) (by assumption) ?z7
      case y7 => (intro w hSw; (try dsimp only at hSw); go_simp) <;> with_reducible rfl
      try simp only [Act.put, List.setIfInBounds_toArray, List.set_cons_zero, List.set_cons_succ]
      refine wpAnyH_take (i := 7) (oi := { dst := some 4, op := Go.Op.assign (Go.Operand.tmp 10), type := 9, pos := "ref.go:207", after := #[{ on := 5, ground := Go.Ground.data }, { on := 6, ground := Go.Ground.chain }, { on := 0, ground := Go.Ground.phase }, { on := 1, ground := Go.Ground.phase }, { on := 2, ground := Go.Ground.phase }, { on := 3, ground := Go.Ground.phase }, { on := 4, ground := Go.Ground.phase }, { on := 5, ground := Go.Ground.phase }, { on := 6, ground := Go.Ground.phase }], guard := none }) (v := ?v8) rfl (by kernel_rfl) (by kernel_rfl) (by kernel_rfl) (fun _ _ _ h => h) (Or.inl ⟨by rfl, ?y8⟩) (by assumption) ?z8
      case y8 => (intro w hSw; (try dsimp only at hSw); go_simp) <;> with_reducible rfl
      try simp only [Act.put, List.setIfInBounds_toArray, List.set_cons_zero, List.set_cons_succ]
      refine wpAnyH_done (by kernel_rfl) ?_ _
      generalize hV : V2 = V at hHeld ⊢
      clear hV
      have hc := hHeld.1
      go_wp2_with fail
      refine (whenA_c [99, 97, 108, 108] (hexs n 4) (by decide) (by rw [hexs_len]; decide) (fun e => by have := congrArg List.length e; rw [hexs_len] at this; simp at this) x _).mono ?_
      rintro e w1 ⟨rfl, hb⟩
      have HB := Lib.hid hb
      clear hb
      go_wp2
      go_ret
      exact ⟨rfl, via hHeld.2.1 HB.out⟩
set_option maxRecDepth 100000 in
set_option maxHeartbeats 2000000 in
theorem rt_26 (x y s : Int) (n : Nat) (hn : n < 65536) (w : World) : Calls Tryd.prog 14 #[.agg #[.int .i64 26, .int .i64 x, .int .i64 y, .int .i64 s, .int .u16 (n : Nat)]] w fun e w' => e = .returned (.string ⟨(lineL ([114, 101, 116]) (condL x [])).toArray⟩) ∧ Below w.heap.size w w' := by
  go_enter Tryd.func14, Tryd.ntmps14
  go_wp2_with fail
  refine wp_region_held_drew (S := (fun w' => (∀ o, w'.cell? ⟨w.heap.size, o, none⟩ = #[Value.int .i64 26, .int .i64 x, .int .i64 y, .int .i64 s, .int .u16 (n : Nat)][o]?) ∧ QR w w')) (by kernel_rfl) (QS.new w #[.int .i64 26, .int .i64 x, .int .i64 y, .int .i64 s, .int .u16 (n : Nat)] 29) (fun hHeld => ?_)
  generalize (w.alloc (.cells #[.int .i64 26, .int .i64 x, .int .i64 y, .int .i64 s, .int .u16 (n : Nat)] 29)).drew = V0 at hHeld ⊢
  refine wpAnyH_take (i := 0) (oi := { dst := some 5, op := Go.Op.fieldAddr 29 (Go.Operand.tmp 1) 4, type := 0, pos := "ref.go:207", after := #[], guard := none }) (v := ?v1) rfl (by kernel_rfl) (by kernel_rfl) (by kernel_rfl) (fun _ _ _ h => h) (Or.inl ⟨by rfl, ?y1⟩) (by assumption) ?z1
  case y1 => (intro w hSw; (try dsimp only at hSw); go_simp) <;> with_reducible rfl
  try simp only [Act.put, List.setIfInBounds_toArray, List.set_cons_zero, List.set_cons_succ]
  refine wpAnyH_take (i := 1) (oi := { dst := some 6, op := Go.Op.load 25 (Go.Operand.tmp 5), type := 25, pos := "ref.go:207", after := #[{ on := 0, ground := Go.Ground.data }], guard := none }) (v := ?v2) rfl (by kernel_rfl) (by kernel_rfl) (by kernel_rfl) (fun _ _ _ h => h) (Or.inl ⟨by rfl, ?y2⟩) (by assumption) ?z2
  case y2 => (intro w hSw; (try dsimp only at hSw); go_simp) <;> with_reducible rfl
  try simp only [Act.put, List.setIfInBounds_toArray, List.set_cons_zero, List.set_cons_succ]
  refine wpAnyH_take (i := 3) (oi := { dst := some 8, op := Go.Op.fieldAddr 29 (Go.Operand.tmp 1) 4, type := 0, pos := "ref.go:207", after := #[], guard := none }) (v := ?v3) rfl (by kernel_rfl) (by kernel_rfl) (by kernel_rfl) (fun _ _ _ h => h) (Or.inl ⟨by rfl, ?y3⟩) (by assumption) ?z3
  case y3 => (intro w hSw; (try dsimp only at hSw); go_simp) <;> with_reducible rfl
  try simp only [Act.put, List.setIfInBounds_toArray, List.set_cons_zero, List.set_cons_succ]
  refine wpAnyH_take (i := 4) (oi := { dst := some 9, op := Go.Op.load 25 (Go.Operand.tmp 8), type := 25, pos := "ref.go:207", after := #[{ on := 3, ground := Go.Ground.data }], guard := none }) (v := ?v4) rfl (by kernel_rfl) (by kernel_rfl) (by kernel_rfl) (fun _ _ _ h => h) (Or.inl ⟨by rfl, ?y4⟩) (by assumption) ?z4
  case y4 => (intro w hSw; (try dsimp only at hSw); go_simp) <;> with_reducible rfl
  try simp only [Act.put, List.setIfInBounds_toArray, List.set_cons_zero, List.set_cons_succ]
  refine wpAnyH_ready (rs := [2]) (by kernel_rfl) (by simp) ?_
  refine (AllReadyH.cons (o := { dst := some 7, op := Go.Op.call { callee := Go.Callee.value (Go.Operand.func 24), args := #[Go.Operand.tmp 6, Go.Operand.const (Go.Value.int Go.IntKind.i64 2)], argTypes := #[25, 3] }, type := 9, pos := "ref.go:207", after := #[{ on := 1, ground := Go.Ground.data }], guard := none }) rfl (fun K hK => ?_) AllReadyH.nil)
  · go_simp
    go_wp2_with (go_at_call 24; (with_reducible refine (rhex2 n hn _).mono ?_); rintro e V1 ⟨rfl, hb⟩)
    refine hK.out _ _ ?s5 (fun hNew => ?r5)
    case s5 => exact QS.below hHeld hb
    clear hK K
    clear hb
    clear hHeld
    have hHeld := hNew
    clear hNew
    refine wpAnyH_ready (rs := [5]) (by kernel_rfl) (by simp) ?_
    refine (AllReadyH.cons (o := { dst := some 10, op := Go.Op.call { callee := Go.Callee.value (Go.Operand.func 24), args := #[Go.Operand.tmp 9, Go.Operand.const (Go.Value.int Go.IntKind.i64 4)], argTypes := #[25, 3] }, type := 9, pos := "ref.go:207", after := #[{ on := 4, ground := Go.Ground.data }, { on := 2, ground := Go.Ground.chain }], guard := none }) rfl (fun K hK => ?_) AllReadyH.nil)
    · go_simp
      go_wp2_with (go_at_call 24; (with_reducible refine (rhex4 n hn _).mono ?_); rintro e V2 ⟨rfl, hb⟩)
      refine hK.out _ _ ?s6 (fun hNew => ?r6)
      case s6 => exact QS.below hHeld hb
      clear hK K
      clear hb
      clear hHeld
      have hHeld := hNew
      clear hNew
      refine wpAnyH_take (i := 6) (oi := { dst := some 3, op := Go.Op.assign (Go.Operand.tmp 7), type := 9, pos := "ref.go:207", after := #[{ on := 2, ground := Go.Ground.data }, { on := 5, ground := Go.Ground.chain }, { on := 0, ground := Go.Ground.phase }, { on := 1, ground := Go.Ground.phase }, { on := 2, ground := Go.Ground.phase }, { on := 3, ground := Go.Ground.textOnly Go.Departure.lateStores }, { on := 4, ground := Go.Ground.textOnly Go.Departure.lateStores }, { on := 5, ground := Go.Ground.textOnly Go.Departure.lateStoresUnsure }], guard := none }) (v := ?v7) rfl (by kernel_rfl) (by kernel_rfl) (by kernel_rfl) (fun _ _ _ h => h) (Or.inl ⟨by rfl, ?y7⟩) (by assumption) ?z7
      case y7 => (intro w hSw; (try dsimp only at hSw); go_simp) <;> with_reducible rfl
      try simp only [Act.put, List.setIfInBounds_toArray, List.set_cons_zero, List.set_cons_succ]
      refine wpAnyH_take (i := 7) (oi := { dst := some 4, op := Go.Op.assign (Go.Operand.tmp 10), type := 9, pos := "ref.go:207", after := #[{ on := 5, ground := Go.Ground.data }, { on := 6, ground := Go.Ground.chain }, { on := 0, ground := Go.Ground.phase }, { on := 1, ground := Go.Ground.phase }, { on := 2, ground := Go.Ground.phase }, { on := 3, ground := Go.Ground.phase }, { on := 4, ground := Go.Ground.phase }, { on := 5, ground := Go.Ground.phase }, { on := 6, ground := Go.Ground.phase }], guard := none }) (v := ?v8) rfl (by kernel_rfl) (by kernel_rfl) (by kernel_rfl) (fun _ _ _ h => h) (Or.inl ⟨by rfl, ?y8⟩) (by assumption) ?z8
      case y8 => (intro w hSw; (try dsimp only at hSw); go_simp) <;> with_reducible rfl
      try simp only [Act.put, List.setIfInBounds_toArray, List.set_cons_zero, List.set_cons_succ]
      refine wpAnyH_done (by kernel_rfl) ?_ _
      generalize hV : V2 = V at hHeld ⊢
      clear hV
      have hc := hHeld.1
      go_wp2_with fail
      refine (whenN_c [114, 101, 116] (by decide) x _).mono ?_
      rintro e w1 ⟨rfl, hb⟩
      have HB := Lib.hid hb
      clear hb
      go_wp2
      go_ret
      exact ⟨rfl, via hHeld.2.1 HB.out⟩
set_option maxRecDepth 100000 in
set_option maxHeartbeats 2000000 in
theorem rt_27 (x y s : Int) (n : Nat) (hn : n < 65536) (w : World) : Calls Tryd.prog 14 #[.agg #[.int .i64 27, .int .i64 x, .int .i64 y, .int .i64 s, .int .u16 (n : Nat)]] w fun e w' => e = .returned (.string ⟨(lineL ([114, 101, 116, 105]) ([])).toArray⟩) ∧ Below w.heap.size w w' := by
  have el : lineL ([114, 101, 116, 105]) [] = [114, 101, 116, 105] := rfl
  rw [el]
  clear el
  go_enter Tryd.func14, Tryd.ntmps14
  go_wp2_with fail
  refine wp_region_held_drew (S := (fun w' => (∀ o, w'.cell? ⟨w.heap.size, o, none⟩ = #[Value.int .i64 27, .int .i64 x, .int .i64 y, .int .i64 s, .int .u16 (n : Nat)][o]?) ∧ QR w w')) (by kernel_rfl) (QS.new w #[.int .i64 27, .int .i64 x, .int .i64 y, .int .i64 s, .int .u16 (n : Nat)] 29) (fun hHeld => ?_)
  generalize (w.alloc (.cells #[.int .i64 27, .int .i64 x, .int .i64 y, .int .i64 s, .int .u16 (n : Nat)] 29)).drew = V0 at hHeld ⊢
  refine wpAnyH_take (i := 0) (oi := { dst := some 5, op := Go.Op.fieldAddr 29 (Go.Operand.tmp 1) 4, type := 0, pos := "ref.go:207", after := #[], guard := none }) (v := ?v1) rfl (by kernel_rfl) (by kernel_rfl) (by kernel_rfl) (fun _ _ _ h => h) (Or.inl ⟨by rfl, ?y1⟩) (by assumption) ?z1
  case y1 => (intro w hSw; (try dsimp only at hSw); go_simp) <;> with_reducible rfl
  try simp only [Act.put, List.setIfInBounds_toArray, List.set_cons_zero, List.set_cons_succ]
  refine wpAnyH_take (i := 1) (oi := { dst := some 6, op := Go.Op.load 25 (Go.Operand.tmp 5), type := 25, pos := "ref.go:207", after := #[{ on := 0, ground := Go.Ground.data }], guard := none }) (v := ?v2) rfl (by kernel_rfl) (by kernel_rfl) (by kernel_rfl) (fun _ _ _ h => h) (Or.inl ⟨by rfl, ?y2⟩) (by assumption) ?z2
  case y2 => (intro w hSw; (try dsimp only at hSw); go_simp) <;> with_reducible rfl
  try simp only [Act.put, List.setIfInBounds_toArray, List.set_cons_zero, List.set_cons_succ]
  refine wpAnyH_take (i := 3) (oi := { dst := some 8, op := Go.Op.fieldAddr 29 (Go.Operand.tmp 1) 4, type := 0, pos := "ref.go:207", after := #[], guard := none }) (v := ?v3) rfl (by kernel_rfl) (by kernel_rfl) (by kernel_rfl) (fun _ _ _ h => h) (Or.inl ⟨by rfl, ?y3⟩) (by assumption) ?z3
  case y3 => (intro w hSw; (try dsimp only at hSw); go_simp) <;> with_reducible rfl
  try simp only [Act.put, List.setIfInBounds_toArray, List.set_cons_zero, List.set_cons_succ]
  refine wpAnyH_take (i := 4) (oi := { dst := some 9, op := Go.Op.load 25 (Go.Operand.tmp 8), type := 25, pos := "ref.go:207", after := #[{ on := 3, ground := Go.Ground.data }], guard := none }) (v := ?v4) rfl (by kernel_rfl) (by kernel_rfl) (by kernel_rfl) (fun _ _ _ h => h) (Or.inl ⟨by rfl, ?y4⟩) (by assumption) ?z4
  case y4 => (intro w hSw; (try dsimp only at hSw); go_simp) <;> with_reducible rfl
  try simp only [Act.put, List.setIfInBounds_toArray, List.set_cons_zero, List.set_cons_succ]
  refine wpAnyH_ready (rs := [2]) (by kernel_rfl) (by simp) ?_
  refine (AllReadyH.cons (o := { dst := some 7, op := Go.Op.call { callee := Go.Callee.value (Go.Operand.func 24), args := #[Go.Operand.tmp 6, Go.Operand.const (Go.Value.int Go.IntKind.i64 2)], argTypes := #[25, 3] }, type := 9, pos := "ref.go:207", after := #[{ on := 1, ground := Go.Ground.data }], guard := none }) rfl (fun K hK => ?_) AllReadyH.nil)
  · go_simp
    go_wp2_with (go_at_call 24; (with_reducible refine (rhex2 n hn _).mono ?_); rintro e V1 ⟨rfl, hb⟩)
    refine hK.out _ _ ?s5 (fun hNew => ?r5)
    case s5 => exact QS.below hHeld hb
    clear hK K
    clear hb
    clear hHeld
    have hHeld := hNew
    clear hNew
    refine wpAnyH_ready (rs := [5]) (by kernel_rfl) (by simp) ?_
    refine (AllReadyH.cons (o := { dst := some 10, op := Go.Op.call { callee := Go.Callee.value (Go.Operand.func 24), args := #[Go.Operand.tmp 9, Go.Operand.const (Go.Value.int Go.IntKind.i64 4)], argTypes := #[25, 3] }, type := 9, pos := "ref.go:207", after := #[{ on := 4, ground := Go.Ground.data }, { on := 2, ground := Go.Ground.chain }], guard := none }) rfl (fun K hK => ?_) AllReadyH.nil)
    · go_simp
      go_wp2_with (go_at_call 24; (with_reducible refine (rhex4 n hn _).mono ?_); rintro e V2 ⟨rfl, hb⟩)
      refine hK.out _ _ ?s6 (fun hNew => ?r6)
      case s6 => exact QS.below hHeld hb
      clear hK K
      clear hb
      clear hHeld
      have hHeld := hNew
      clear hNew
      refine wpAnyH_take (i := 6) (oi := { dst := some 3, op := Go.Op.assign (Go.Operand.tmp 7), type := 9, pos := "ref.go:207", after := #[{ on := 2, ground := Go.Ground.data }, { on := 5, ground := Go.Ground.chain }, { on := 0, ground := Go.Ground.phase }, { on := 1, ground := Go.Ground.phase }, { on := 2, ground := Go.Ground.phase }, { on := 3, ground := Go.Ground.textOnly Go.Departure.lateStores }, { on := 4, ground := Go.Ground.textOnly Go.Departure.lateStores }, { on := 5, ground := Go.Ground.textOnly Go.Departure.lateStoresUnsure }], guard := none }) (v := ?v7) rfl (by kernel_rfl) (by kernel_rfl) (by kernel_rfl) (fun _ _ _ h => h) (Or.inl ⟨by rfl, ?y7⟩) (by assumption) ?z7
      case y7 => (intro w hSw; (try dsimp only at hSw); go_simp) <;> with_reducible rfl
      try simp only [Act.put, List.setIfInBounds_toArray, List.set_cons_zero, List.set_cons_succ]
      refine wpAnyH_take (i := 7) (oi := { dst := some 4, op := Go.Op.assign (Go.Operand.tmp 10), type := 9, pos := "ref.go:207", after := #[{ on := 5, ground := Go.Ground.data }, { on := 6, ground := Go.Ground.chain }, { on := 0, ground := Go.Ground.phase }, { on := 1, ground := Go.Ground.phase }, { on := 2, ground := Go.Ground.phase }, { on := 3, ground := Go.Ground.phase }, { on := 4, ground := Go.Ground.phase }, { on := 5, ground := Go.Ground.phase }, { on := 6, ground := Go.Ground.phase }], guard := none }) (v := ?v8) rfl (by kernel_rfl) (by kernel_rfl) (by kernel_rfl) (fun _ _ _ h => h) (Or.inl ⟨by rfl, ?y8⟩) (by assumption) ?z8
      case y8 => (intro w hSw; (try dsimp only at hSw); go_simp) <;> with_reducible rfl
      try simp only [Act.put, List.setIfInBounds_toArray, List.set_cons_zero, List.set_cons_succ]
      refine wpAnyH_done (by kernel_rfl) ?_ _
      generalize hV : V2 = V at hHeld ⊢
      clear hV
      have hc := hHeld.1
      go_wp2
      go_ret
      exact ⟨rfl, hHeld.2.1⟩
set_option maxRecDepth 100000 in
set_option maxHeartbeats 2000000 in
theorem rt_28 (x y s : Int) (n : Nat) (hn : n < 65536) (w : World) : Calls Tryd.prog 14 #[.agg #[.int .i64 28, .int .i64 x, .int .i64 y, .int .i64 s, .int .u16 (n : Nat)]] w fun e w' => e = .returned (.string ⟨(lineL ([114, 115, 116]) ([hexs n 2])).toArray⟩) ∧ Below w.heap.size w w' := by
  rw [line1]
  have l2 := hexs_len n 2
  have l4 := hexs_len n 4
  have q0 : ¬ 9223372036854775807 < 4 + (hexs n 2).length := by omega
  clear l2 l4
  go_enter Tryd.func14, Tryd.ntmps14
  go_wp2_with fail
  refine wp_region_held_drew (S := (fun w' => (∀ o, w'.cell? ⟨w.heap.size, o, none⟩ = #[Value.int .i64 28, .int .i64 x, .int .i64 y, .int .i64 s, .int .u16 (n : Nat)][o]?) ∧ QR w w')) (by kernel_rfl) (QS.new w #[.int .i64 28, .int .i64 x, .int .i64 y, .int .i64 s, .int .u16 (n : Nat)] 29) (fun hHeld => ?_)
  generalize (w.alloc (.cells #[.int .i64 28, .int .i64 x, .int .i64 y, .int .i64 s, .int .u16 (n : Nat)] 29)).drew = V0 at hHeld ⊢
  refine wpAnyH_take (i := 0) (oi := { dst := some 5, op := Go.Op.fieldAddr 29 (Go.Operand.tmp 1) 4, type := 0, pos := "ref.go:207", after := #[], guard := none }) (v := ?v1) rfl (by kernel_rfl) (by kernel_rfl) (by kernel_rfl) (fun _ _ _ h => h) (Or.inl ⟨by rfl, ?y1⟩) (by assumption) ?z1
  case y1 => (intro w hSw; (try dsimp only at hSw); go_simp) <;> with_reducible rfl
  try simp only [Act.put, List.setIfInBounds_toArray, List.set_cons_zero, List.set_cons_succ]
  refine wpAnyH_take (i := 1) (oi := { dst := some 6, op := Go.Op.load 25 (Go.Operand.tmp 5), type := 25, pos := "ref.go:207", after := #[{ on := 0, ground := Go.Ground.data }], guard := none }) (v := ?v2) rfl (by kernel_rfl) (by kernel_rfl) (by kernel_rfl) (fun _ _ _ h => h) (Or.inl ⟨by rfl, ?y2⟩) (by assumption) ?z2
  case y2 => (intro w hSw; (try dsimp only at hSw); go_simp) <;> with_reducible rfl
  try simp only [Act.put, List.setIfInBounds_toArray, List.set_cons_zero, List.set_cons_succ]
  refine wpAnyH_take (i := 3) (oi := { dst := some 8, op := Go.Op.fieldAddr 29 (Go.Operand.tmp 1) 4, type := 0, pos := "ref.go:207", after := #[], guard := none }) (v := ?v3) rfl (by kernel_rfl) (by kernel_rfl) (by kernel_rfl) (fun _ _ _ h => h) (Or.inl ⟨by rfl, ?y3⟩) (by assumption) ?z3
  case y3 => (intro w hSw; (try dsimp only at hSw); go_simp) <;> with_reducible rfl
  try simp only [Act.put, List.setIfInBounds_toArray, List.set_cons_zero, List.set_cons_succ]
  refine wpAnyH_take (i := 4) (oi := { dst := some 9, op := Go.Op.load 25 (Go.Operand.tmp 8), type := 25, pos := "ref.go:207", after := #[{ on := 3, ground := Go.Ground.data }], guard := none }) (v := ?v4) rfl (by kernel_rfl) (by kernel_rfl) (by kernel_rfl) (fun _ _ _ h => h) (Or.inl ⟨by rfl, ?y4⟩) (by assumption) ?z4
  case y4 => (intro w hSw; (try dsimp only at hSw); go_simp) <;> with_reducible rfl
  try simp only [Act.put, List.setIfInBounds_toArray, List.set_cons_zero, List.set_cons_succ]
  refine wpAnyH_ready (rs := [2]) (by kernel_rfl) (by simp) ?_
  refine (AllReadyH.cons (o := { dst := some 7, op := Go.Op.call { callee := Go.Callee.value (Go.Operand.func 24), args := #[Go.Operand.tmp 6, Go.Operand.const (Go.Value.int Go.IntKind.i64 2)], argTypes := #[25, 3] }, type := 9, pos := "ref.go:207", after := #[{ on := 1, ground := Go.Ground.data }], guard := none }) rfl (fun K hK => ?_) AllReadyH.nil)
  · go_simp
    go_wp2_with (go_at_call 24; (with_reducible refine (rhex2 n hn _).mono ?_); rintro e V1 ⟨rfl, hb⟩)
    refine hK.out _ _ ?s5 (fun hNew => ?r5)
    case s5 => exact QS.below hHeld hb
    clear hK K
    clear hb
    clear hHeld
    have hHeld := hNew
    clear hNew
    refine wpAnyH_ready (rs := [5]) (by kernel_rfl) (by simp) ?_
    refine (AllReadyH.cons (o := { dst := some 10, op := Go.Op.call { callee := Go.Callee.value (Go.Operand.func 24), args := #[Go.Operand.tmp 9, Go.Operand.const (Go.Value.int Go.IntKind.i64 4)], argTypes := #[25, 3] }, type := 9, pos := "ref.go:207", after := #[{ on := 4, ground := Go.Ground.data }, { on := 2, ground := Go.Ground.chain }], guard := none }) rfl (fun K hK => ?_) AllReadyH.nil)
    · go_simp
      go_wp2_with (go_at_call 24; (with_reducible refine (rhex4 n hn _).mono ?_); rintro e V2 ⟨rfl, hb⟩)
      refine hK.out _ _ ?s6 (fun hNew => ?r6)
      case s6 => exact QS.below hHeld hb
      clear hK K
      clear hb
      clear hHeld
      have hHeld := hNew
      clear hNew
      refine wpAnyH_take (i := 6) (oi := { dst := some 3, op := Go.Op.assign (Go.Operand.tmp 7), type := 9, pos := "ref.go:207", after := #[{ on := 2, ground := Go.Ground.data }, { on := 5, ground := Go.Ground.chain }, { on := 0, ground := Go.Ground.phase }, { on := 1, ground := Go.Ground.phase }, { on := 2, ground := Go.Ground.phase }, { on := 3, ground := Go.Ground.textOnly Go.Departure.lateStores }, { on := 4, ground := Go.Ground.textOnly Go.Departure.lateStores }, { on := 5, ground := Go.Ground.textOnly Go.Departure.lateStoresUnsure }], guard := none }) (v := ?v7) rfl (by kernel_rfl) (by kernel_rfl) (by kernel_rfl) (fun _ _ _ h => h) (Or.inl ⟨by rfl, ?y7⟩) (by assumption) ?z7
      case y7 => (intro w hSw; (try dsimp only at hSw); go_simp) <;> with_reducible rfl
      try simp only [Act.put, List.setIfInBounds_toArray, List.set_cons_zero, List.set_cons_succ]
      refine wpAnyH_take (i := 7) (oi := { dst := some 4, op := Go.Op.assign (Go.Operand.tmp 10), type := 9, pos := "ref.go:207", after := #[{ on := 5, ground := Go.Ground.data }, { on := 6, ground := Go.Ground.chain }, { on := 0, ground := Go.Ground.phase }, { on := 1, ground := Go.Ground.phase }, { on := 2, ground := Go.Ground.phase }, { on := 3, ground := Go.Ground.phase }, { on := 4, ground := Go.Ground.phase }, { on := 5, ground := Go.Ground.phase }, { on := 6, ground := Go.Ground.phase }], guard := none }) (v := ?v8) rfl (by kernel_rfl) (by kernel_rfl) (by kernel_rfl) (fun _ _ _ h => h) (Or.inl ⟨by rfl, ?y8⟩) (by assumption) ?z8
      case y8 => (intro w hSw; (try dsimp only at hSw); go_simp) <;> with_reducible rfl
      try simp only [Act.put, List.setIfInBounds_toArray, List.set_cons_zero, List.set_cons_succ]
      refine wpAnyH_done (by kernel_rfl) ?_ _
      generalize hV : V2 = V at hHeld ⊢
      clear hV
      have hc := hHeld.1
      go_wp2
      go_ret
      rw [cat]
      exact ⟨by simp, hHeld.2.1⟩
set_option maxRecDepth 100000 in
set_option maxHeartbeats 2000000 in
theorem rt_29 (x y s : Int) (n : Nat) (hn : n < 65536) (w : World) : Calls Tryd.prog 14 #[.agg #[.int .i64 29, .int .i64 x, .int .i64 y, .int .i64 s, .int .u16 (n : Nat)]] w fun e w' => e = .returned (.string ⟨(lineL ([106, 112]) ([[104, 108]])).toArray⟩) ∧ Below w.heap.size w w' := by
  rw [line1]
  go_enter Tryd.func14, Tryd.ntmps14
  go_wp2_with fail
  refine wp_region_held_drew (S := (fun w' => (∀ o, w'.cell? ⟨w.heap.size, o, none⟩ = #[Value.int .i64 29, .int .i64 x, .int .i64 y, .int .i64 s, .int .u16 (n : Nat)][o]?) ∧ QR w w')) (by kernel_rfl) (QS.new w #[.int .i64 29, .int .i64 x, .int .i64 y, .int .i64 s, .int .u16 (n : Nat)] 29) (fun hHeld => ?_)
  generalize (w.alloc (.cells #[.int .i64 29, .int .i64 x, .int .i64 y, .int .i64 s, .int .u16 (n : Nat)] 29)).drew = V0 at hHeld ⊢
  refine wpAnyH_take (i := 0) (oi := { dst := some 5, op := Go.Op.fieldAddr 29 (Go.Operand.tmp 1) 4, type := 0, pos := "ref.go:207", after := #[], guard := none }) (v := ?v1) rfl (by kernel_rfl) (by kernel_rfl) (by kernel_rfl) (fun _ _ _ h => h) (Or.inl ⟨by rfl, ?y1⟩) (by assumption) ?z1
  case y1 => (intro w hSw; (try dsimp only at hSw); go_simp) <;> with_reducible rfl
  try simp only [Act.put, List.setIfInBounds_toArray, List.set_cons_zero, List.set_cons_succ]
  refine wpAnyH_take (i := 1) (oi := { dst := some 6, op := Go.Op.load 25 (Go.Operand.tmp 5), type := 25, pos := "ref.go:207", after := #[{ on := 0, ground := Go.Ground.data }], guard := none }) (v := ?v2) rfl (by kernel_rfl) (by kernel_rfl) (by kernel_rfl) (fun _ _ _ h => h) (Or.inl ⟨by rfl, ?y2⟩) (by assumption) ?z2
  case y2 => (intro w hSw; (try dsimp only at hSw); go_simp) <;> with_reducible rfl
  try simp only [Act.put, List.setIfInBounds_toArray, List.set_cons_zero, List.set_cons_succ]
  refine wpAnyH_take (i := 3) (oi := { dst := some 8, op := Go.Op.fieldAddr 29 (Go.Operand.tmp 1) 4, type := 0, pos := "ref.go:207", after := #[], guard := none }) (v := ?v3) rfl (by kernel_rfl) (by kernel_rfl) (by kernel_rfl) (fun _ _ _ h => h) (Or.inl ⟨by rfl, ?y3⟩) (by assumption) ?z3
  case y3 => (intro w hSw; (try dsimp only at hSw); go_simp) <;> with_reducible rfl
  try simp only [Act.put, List.setIfInBounds_toArray, List.set_cons_zero, List.set_cons_succ]
  refine wpAnyH_take (i := 4) (oi := { dst := some 9, op := Go.Op.load 25 (Go.Operand.tmp 8), type := 25, pos := "ref.go:207", after := #[{ on := 3, ground := Go.Ground.data }], guard := none }) (v := ?v4) rfl (by kernel_rfl) (by kernel_rfl) (by kernel_rfl) (fun _ _ _ h => h) (Or.inl ⟨by rfl, ?y4⟩) (by assumption) ?z4
  case y4 => (intro w hSw; (try dsimp only at hSw); go_simp) <;> with_reducible rfl
  try simp only [Act.put, List.setIfInBounds_toArray, List.set_cons_zero, List.set_cons_succ]
  refine wpAnyH_ready (rs := [2]) (by kernel_rfl) (by simp) ?_
  refine (AllReadyH.cons (o := { dst := some 7, op := Go.Op.call { callee := Go.Callee.value (Go.Operand.func 24), args := #[Go.Operand.tmp 6, Go.Operand.const (Go.Value.int Go.IntKind.i64 2)], argTypes := #[25, 3] }, type := 9, pos := "ref.go:207", after := #[{ on := 1, ground := Go.Ground.data }], guard := none }) rfl (fun K hK => ?_) AllReadyH.nil)
  · go_simp
    go_wp2_with (go_at_call 24; (with_reducible refine (rhex2 n hn _).mono ?_); rintro e V1 ⟨rfl, hb⟩)
    refine hK.out _ _ ?s5 (fun hNew => ?r5)
    case s5 => exact QS.below hHeld hb
    clear hK K
    clear hb
    clear hHeld
    have hHeld := hNew
    clear hNew
    refine wpAnyH_ready (rs := [5]) (by kernel_rfl) (by simp) ?_
    refine (AllReadyH.cons (o := { dst := some 10, op := Go.Op.call { callee := Go.Callee.value (Go.Operand.func 24), args := #[Go.Operand.tmp 9, Go.Operand.const (Go.Value.int Go.IntKind.i64 4)], argTypes := #[25, 3] }, type := 9, pos := "ref.go:207", after := #[{ on := 4, ground := Go.Ground.data }, { on := 2, ground := Go.Ground.chain }], guard := none }) rfl (fun K hK => ?_) AllReadyH.nil)
    · go_simp
      go_wp2_with (go_at_call 24; (with_reducible refine (rhex4 n hn _).mono ?_); rintro e V2 ⟨rfl, hb⟩)
      refine hK.out _ _ ?s6 (fun hNew => ?r6)
      case s6 => exact QS.below hHeld hb
      clear hK K
      clear hb
      clear hHeld
      have hHeld := hNew
      clear hNew
      refine wpAnyH_take (i := 6) (oi := { dst := some 3, op := Go.Op.assign (Go.Operand.tmp 7), type := 9, pos := "ref.go:207", after := #[{ on := 2, ground := Go.Ground.data }, { on := 5, ground := Go.Ground.chain }, { on := 0, ground := Go.Ground.phase }, { on := 1, ground := Go.Ground.phase }, { on := 2, ground := Go.Ground.phase }, { on := 3, ground := Go.Ground.textOnly Go.Departure.lateStores }, { on := 4, ground := Go.Ground.textOnly Go.Departure.lateStores }, { on := 5, ground := Go.Ground.textOnly Go.Departure.lateStoresUnsure }], guard := none }) (v := ?v7) rfl (by kernel_rfl) (by kernel_rfl) (by kernel_rfl) (fun _ _ _ h => h) (Or.inl ⟨by rfl, ?y7⟩) (by assumption) ?z7
      case y7 => (intro w hSw; (try dsimp only at hSw); go_simp) <;> with_reducible rfl
      try simp only [Act.put, List.setIfInBounds_toArray, List.set_cons_zero, List.set_cons_succ]
      refine wpAnyH_take (i := 7) (oi := { dst := some 4, op := Go.Op.assign (Go.Operand.tmp 10), type := 9, pos := "ref.go:207", after := #[{ on := 5, ground := Go.Ground.data }, { on := 6, ground := Go.Ground.chain }, { on := 0, ground := Go.Ground.phase }, { on := 1, ground := Go.Ground.phase }, { on := 2, ground := Go.Ground.phase }, { on := 3, ground := Go.Ground.phase }, { on := 4, ground := Go.Ground.phase }, { on := 5, ground := Go.Ground.phase }, { on := 6, ground := Go.Ground.phase }], guard := none }) (v := ?v8) rfl (by kernel_rfl) (by kernel_rfl) (by kernel_rfl) (fun _ _ _ h => h) (Or.inl ⟨by rfl, ?y8⟩) (by assumption) ?z8
      case y8 => (intro w hSw; (try dsimp only at hSw); go_simp) <;> with_reducible rfl
      try simp only [Act.put, List.setIfInBounds_toArray, List.set_cons_zero, List.set_cons_succ]
      refine wpAnyH_done (by kernel_rfl) ?_ _
      generalize hV : V2 = V at hHeld ⊢
      clear hV
      have hc := hHeld.1
      go_wp2
      go_ret
      exact ⟨rfl, hHeld.2.1⟩
set_option maxRecDepth 100000 in
set_option maxHeartbeats 2000000 in
theorem rt_30 (x y s : Int) (n : Nat) (hn : n < 65536) (w : World) : Calls Tryd.prog 14 #[.agg #[.int .i64 30, .int .i64 x, .int .i64 y, .int .i64 s, .int .u16 (n : Nat)]] w fun e w' => e = .returned (.string ⟨(lineL ([112, 117, 115, 104]) ([pickL x pairN])).toArray⟩) ∧ Below w.heap.size w w' := by
  rw [line1]
  have l2 := hexs_len n 2
  have l4 := hexs_len n 4
  have t1 := pick_len x pairN (by decide)
  have q0 : ¬ 9223372036854775807 < 5 + (pickL x pairN).length := by omega
  clear l2 l4
  go_enter Tryd.func14, Tryd.ntmps14
  go_wp2_with fail
  refine wp_region_held_drew (S := (fun w' => (∀ o, w'.cell? ⟨w.heap.size, o, none⟩ = #[Value.int .i64 30, .int .i64 x, .int .i64 y, .int .i64 s, .int .u16 (n : Nat)][o]?) ∧ QR w w')) (by kernel_rfl) (QS.new w #[.int .i64 30, .int .i64 x, .int .i64 y, .int .i64 s, .int .u16 (n : Nat)] 29) (fun hHeld => ?_)
  generalize (w.alloc (.cells #[.int .i64 30, .int .i64 x, .int .i64 y, .int .i64 s, .int .u16 (n : Nat)] 29)).drew = V0 at hHeld ⊢
  refine wpAnyH_take (i := 0) (oi := { dst := some 5, op := Go.Op.fieldAddr 29 (Go.Operand.tmp 1) 4, type := 0, pos := "ref.go:207", after := #[], guard := none }) (v := ?v1) rfl (by kernel_rfl) (by kernel_rfl) (by kernel_rfl) (fun _ _ _ h => h) (Or.inl ⟨by rfl, ?y1⟩) (by assumption) ?z1
  case y1 => (intro w hSw; (try dsimp only at hSw); go_simp) <;> with_reducible rfl
  try simp only [Act.put, List.setIfInBounds_toArray, List.set_cons_zero, List.set_cons_succ]
  refine wpAnyH_take (i := 1) (oi := { dst := some 6, op := Go.Op.load 25 (Go.Operand.tmp 5), type := 25, pos := "ref.go:207", after := #[{ on := 0, ground := Go.Ground.data }], guard := none }) (v := ?v2) rfl (by kernel_rfl) (by kernel_rfl) (by kernel_rfl) (fun _ _ _ h => h) (Or.inl ⟨by rfl, ?y2⟩) (by assumption) ?z2
  case y2 => (intro w hSw; (try dsimp only at hSw); go_simp) <;> with_reducible rfl
  try simp only [Act.put, List.setIfInBounds_toArray, List.set_cons_zero, List.set_cons_succ]
  refine wpAnyH_take (i := 3) (oi := { dst := some 8, op := Go.Op.fieldAddr 29 (Go.Operand.tmp 1) 4, type := 0, pos := "ref.go:207", after := #[], guard := none }) (v := ?v3) rfl (by kernel_rfl) (by kernel_rfl) (by kernel_rfl) (fun _ _ _ h => h) (Or.inl ⟨by rfl, ?y3⟩) (by assumption) ?z3
  case y3 => (intro w hSw; (try dsimp only at hSw); go_simp) <;> with_reducible rfl
  try simp only [Act.put, List.setIfInBounds_toArray, List.set_cons_zero, List.set_cons_succ]
  refine wpAnyH_take (i := 4) (oi := { dst := some 9, op := Go.Op.load 25 (Go.Operand.tmp 8), type := 25, pos := "ref.go:207", after := #[{ on := 3, ground := Go.Ground.data }], guard := none }) (v := ?v4) rfl (by kernel_rfl) (by kernel_rfl) (by kernel_rfl) (fun _ _ _ h => h) (Or.inl ⟨by rfl, ?y4⟩) (by assumption) ?z4
  case y4 => (intro w hSw; (try dsimp only at hSw); go_simp) <;> with_reducible rfl
  try simp only [Act.put, List.setIfInBounds_toArray, List.set_cons_zero, List.set_cons_succ]
  refine wpAnyH_ready (rs := [2]) (by kernel_rfl) (by simp) ?_
  refine (AllReadyH.cons (o := { dst := some 7, op := Go.Op.call { callee := Go.Callee.value (Go.Operand.func 24), args := #[Go.Operand.tmp 6, Go.Operand.const (Go.Value.int Go.IntKind.i64 2)], argTypes := #[25, 3] }, type := 9, pos := "ref.go:207", after := #[{ on := 1, ground := Go.Ground.data }], guard := none }) rfl (fun K hK => ?_) AllReadyH.nil)
  · go_simp
    go_wp2_with (go_at_call 24; (with_reducible refine (rhex2 n hn _).mono ?_); rintro e V1 ⟨rfl, hb⟩)
    refine hK.out _ _ ?s5 (fun hNew => ?r5)
    case s5 => exact QS.below hHeld hb
    clear hK K
    clear hb
    clear hHeld
    have hHeld := hNew
    clear hNew
    refine wpAnyH_ready (rs := [5]) (by kernel_rfl) (by simp) ?_
    refine (AllReadyH.cons (o := { dst := some 10, op := Go.Op.call { callee := Go.Callee.value (Go.Operand.func 24), args := #[Go.Operand.tmp 9, Go.Operand.const (Go.Value.int Go.IntKind.i64 4)], argTypes := #[25, 3] }, type := 9, pos := "ref.go:207", after := #[{ on := 4, ground := Go.Ground.data }, { on := 2, ground := Go.Ground.chain }], guard := none }) rfl (fun K hK => ?_) AllReadyH.nil)
    · go_simp
      go_wp2_with (go_at_call 24; (with_reducible refine (rhex4 n hn _).mono ?_); rintro e V2 ⟨rfl, hb⟩)
      refine hK.out _ _ ?s6 (fun hNew => ?r6)
      case s6 => exact QS.below hHeld hb
      clear hK K
      clear hb
      clear hHeld
      have hHeld := hNew
      clear hNew
      refine wpAnyH_take (i := 6) (oi := { dst := some 3, op := Go.Op.assign (Go.Operand.tmp 7), type := 9, pos := "ref.go:207", after := #[{ on := 2, ground := Go.Ground.data }, { on := 5, ground := Go.Ground.chain }, { on := 0, ground := Go.Ground.phase }, { on := 1, ground := Go.Ground.phase }, { on := 2, ground := Go.Ground.phase }, { on := 3, ground := Go.Ground.textOnly Go.Departure.lateStores }, { on := 4, ground := Go.Ground.textOnly Go.Departure.lateStores }, { on := 5, ground := Go.Ground.textOnly Go.Departure.lateStoresUnsure }], guard := none }) (v := ?v7) rfl (by kernel_rfl) (by kernel_rfl) (by kernel_rfl) (fun _ _ _ h => h) (Or.inl ⟨by rfl, ?y7⟩) (by assumption) ?z7
      case y7 => (intro w hSw; (try dsimp only at hSw); go_simp) <;> with_reducible rfl
      try simp only [Act.put, List.setIfInBounds_toArray, List.set_cons_zero, List.set_cons_succ]
      refine wpAnyH_take (i := 7) (oi := { dst := some 4, op := Go.Op.assign (Go.Operand.tmp 10), type := 9, pos := "ref.go:207", after := #[{ on := 5, ground := Go.Ground.data }, { on := 6, ground := Go.Ground.chain }, { on := 0, ground := Go.Ground.phase }, { on := 1, ground := Go.Ground.phase }, { on := 2, ground := Go.Ground.phase }, { on := 3, ground := Go.Ground.phase }, { on := 4, ground := Go.Ground.phase }, { on := 5, ground := Go.Ground.phase }, { on := 6, ground := Go.Ground.phase }], guard := none }) (v := ?v8) rfl (by kernel_rfl) (by kernel_rfl) (by kernel_rfl) (fun _ _ _ h => h) (Or.inl ⟨by rfl, ?y8⟩) (by assumption) ?z8
      case y8 => (intro w hSw; (try dsimp only at hSw); go_simp) <;> with_reducible rfl
      try simp only [Act.put, List.setIfInBounds_toArray, List.set_cons_zero, List.set_cons_succ]
      refine wpAnyH_done (by kernel_rfl) ?_ _
      generalize hV : V2 = V at hHeld ⊢
      clear hV
      have hc := hHeld.1
      go_wp2_with (first | (go_at_call 25; ((with_reducible refine (one_c _ _).mono ?_); rintro e w1 ⟨rfl, hb⟩; have HB := Lib.hid hb; clear hb)) | (go_at_call 25; ((with_reducible refine (one_c _ _).mono ?_); rintro e w1 ⟨rfl, hb⟩; have HB := Lib.hid hb; clear hb)) | (go_at_call 26; ((with_reducible refine (two_c _ _).mono ?_); rintro e w1 ⟨rfl, hb⟩; have HB := Lib.hid hb; clear hb)) | (go_at_call 27; ((with_reducible refine (rsum_c _ _).mono ?_); rintro e w1 ⟨rfl, hb⟩; have HB := Lib.hid hb; clear hb)) | (go_at_call 28; ((with_reducible refine (rturn_c _ _).mono ?_); rintro e w1 ⟨rfl, hb⟩; have HB := Lib.hid hb; clear hb)) | (go_at_call 31; ((with_reducible refine (rfar_c _ _).mono ?_); rintro e w1 ⟨rfl, hb⟩; have HB := Lib.hid hb; clear hb)) | (go_at_call 32; ((with_reducible refine (rbits_c _ _).mono ?_); rintro e w1 ⟨rfl, hb⟩; have HB := Lib.hid hb; clear hb)))
      go_ret
      rw [cat]
      exact ⟨by simp, via hHeld.2.1 HB.out⟩
set_option maxRecDepth 100000 in
set_option maxHeartbeats 2000000 in
theorem rt_31 (x y s : Int) (n : Nat) (hn : n < 65536) (w : World) : Calls Tryd.prog 14 #[.agg #[.int .i64 31, .int .i64 x, .int .i64 y, .int .i64 s, .int .u16 (n : Nat)]] w fun e w' => e = .returned (.string ⟨(lineL ([112, 111, 112]) ([pickL x pairN])).toArray⟩) ∧ Below w.heap.size w w' := by
  rw [line1]
  have l2 := hexs_len n 2
  have l4 := hexs_len n 4
  have t1 := pick_len x pairN (by decide)
  have q0 : ¬ 9223372036854775807 < 4 + (pickL x pairN).length := by omega
  clear l2 l4
  go_enter Tryd.func14, Tryd.ntmps14
  go_wp2_with fail
  refine wp_region_held_drew (S := (fun w' => (∀ o, w'.cell? ⟨w.heap.size, o, none⟩ = #[Value.int .i64 31, .int .i64 x, .int .i64 y, .int .i64 s, .int .u16 (n : Nat)][o]?) ∧ QR w w')) (by kernel_rfl) (QS.new w #[.int .i64 31, .int .i64 x, .int .i64 y, .int .i64 s, .int .u16 (n : Nat)] 29) (fun hHeld => ?_)
  generalize (w.alloc (.cells #[.int .i64 31, .int .i64 x, .int .i64 y, .int .i64 s, .int .u16 (n : Nat)] 29)).drew = V0 at hHeld ⊢
  refine wpAnyH_take (i := 0) (oi := { dst := some 5, op := Go.Op.fieldAddr 29 (Go.Operand.tmp 1) 4, type := 0, pos := "ref.go:207", after := #[], guard := none }) (v := ?v1) rfl (by kernel_rfl) (by kernel_rfl) (by kernel_rfl) (fun _ _ _ h => h) (Or.inl ⟨by rfl, ?y1⟩) (by assumption) ?z1
  case y1 => (intro w hSw; (try dsimp only at hSw); go_simp) <;> with_reducible rfl
  try simp only [Act.put, List.setIfInBounds_toArray, List.set_cons_zero, List.set_cons_succ]
  refine wpAnyH_take (i := 1) (oi := { dst := some 6, op := Go.Op.load 25 (Go.Operand.tmp 5), type := 25, pos := "ref.go:207", after := #[{ on := 0, ground := Go.Ground.data }], guard := none }) (v := ?v2) rfl (by kernel_rfl) (by kernel_rfl) (by kernel_rfl) (fun _ _ _ h => h) (Or.inl ⟨by rfl, ?y2⟩) (by assumption) ?z2
  case y2 => (intro w hSw; (try dsimp only at hSw); go_simp) <;> with_reducible rfl
  try simp only [Act.put, List.setIfInBounds_toArray, List.set_cons_zero, List.set_cons_succ]
  refine wpAnyH_take (i := 3) (oi := { dst := some 8, op := Go.Op.fieldAddr 29 (Go.Operand.tmp 1) 4, type := 0, pos := "ref.go:207", after := #[], guard := none }) (v := ?v3) rfl (by kernel_rfl) (by kernel_rfl) (by kernel_rfl) (fun _ _ _ h => h) (Or.inl ⟨by rfl, ?y3⟩) (by assumption) ?z3
  case y3 => (intro w hSw; (try dsimp only at hSw); go_simp) <;> with_reducible rfl
  try simp only [Act.put, List.setIfInBounds_toArray, List.set_cons_zero, List.set_cons_succ]
  refine wpAnyH_take (i := 4) (oi := { dst := some 9, op := Go.Op.load 25 (Go.Operand.tmp 8), type := 25, pos := "ref.go:207", after := #[{ on := 3, ground := Go.Ground.data }], guard := none }) (v := ?v4) rfl (by kernel_rfl) (by kernel_rfl) (by kernel_rfl) (fun _ _ _ h => h) (Or.inl ⟨by rfl, ?y4⟩) (by assumption) ?z4
  case y4 => (intro w hSw; (try dsimp only at hSw); go_simp) <;> with_reducible rfl
  try simp only [Act.put, List.setIfInBounds_toArray, List.set_cons_zero, List.set_cons_succ]
  refine wpAnyH_ready (rs := [2]) (by kernel_rfl) (by simp) ?_
  refine (AllReadyH.cons (o := { dst := some 7, op := Go.Op.call { callee := Go.Callee.value (Go.Operand.func 24), args := #[Go.Operand.tmp 6, Go.Operand.const (Go.Value.int Go.IntKind.i64 2)], argTypes := #[25, 3] }, type := 9, pos := "ref.go:207", after := #[{ on := 1, ground := Go.Ground.data }], guard := none }) rfl (fun K hK => ?_) AllReadyH.nil)
  · go_simp
    go_wp2_with (go_at_call 24; (with_reducible refine (rhex2 n hn _).mono ?_); rintro e V1 ⟨rfl, hb⟩)
    refine hK.out _ _ ?s5 (fun hNew => ?r5)
    case s5 => exact QS.below hHeld hb
    clear hK K
    clear hb
    clear hHeld
    have hHeld := hNew
    clear hNew
    refine wpAnyH_ready (rs := [5]) (by kernel_rfl) (by simp) ?_
    refine (AllReadyH.cons (o := { dst := some 10, op := Go.Op.call { callee := Go.Callee.value (Go.Operand.func 24), args := #[Go.Operand.tmp 9, Go.Operand.const (Go.Value.int Go.IntKind.i64 4)], argTypes := #[25, 3] }, type := 9, pos := "ref.go:207", after := #[{ on := 4, ground := Go.Ground.data }, { on := 2, ground := Go.Ground.chain }], guard := none }) rfl (fun K hK => ?_) AllReadyH.nil)
    · go_simp
      go_wp2_with (go_at_call 24; (with_reducible refine (rhex4 n hn _).mono ?_); rintro e V2 ⟨rfl, hb⟩)
      refine hK.out _ _ ?s6 (fun hNew => ?r6)
      case s6 => exact QS.below hHeld hb
      clear hK K
      clear hb
      clear hHeld
      have hHeld := hNew
      clear hNew
      refine wpAnyH_take (i := 6) (oi := { dst := some 3, op := Go.Op.assign (Go.Operand.tmp 7), type := 9, pos := "ref.go:207", after := #[{ on := 2, ground := Go.Ground.data }, { on := 5, ground := Go.Ground.chain }, { on := 0, ground := Go.Ground.phase }, { on := 1, ground := Go.Ground.phase }, { on := 2, ground := Go.Ground.phase }, { on := 3, ground := Go.Ground.textOnly Go.Departure.lateStores }, { on := 4, ground := Go.Ground.textOnly Go.Departure.lateStores }, { on := 5, ground := Go.Ground.textOnly Go.Departure.lateStoresUnsure }], guard := none }) (v := ?v7) rfl (by kernel_rfl) (by kernel_rfl) (by kernel_rfl) (fun _ _ _ h => h) (Or.inl ⟨by rfl, ?y7⟩) (by assumption) ?z7
      case y7 => (intro w hSw; (try dsimp only at hSw); go_simp) <;> with_reducible rfl
      try simp only [Act.put, List.setIfInBounds_toArray, List.set_cons_zero, List.set_cons_succ]
      refine wpAnyH_take (i := 7) (oi := { dst := some 4, op := Go.Op.assign (Go.Operand.tmp 10), type := 9, pos := "ref.go:207", after := #[{ on := 5, ground := Go.Ground.data }, { on := 6, ground := Go.Ground.chain }, { on := 0, ground := Go.Ground.phase }, { on := 1, ground := Go.Ground.phase }, { on := 2, ground := Go.Ground.phase }, { on := 3, ground := Go.Ground.phase }, { on := 4, ground := Go.Ground.phase }, { on := 5, ground := Go.Ground.phase }, { on := 6, ground := Go.Ground.phase }], guard := none }) (v := ?v8) rfl (by kernel_rfl) (by kernel_rfl) (by kernel_rfl) (fun _ _ _ h => h) (Or.inl ⟨by rfl, ?y8⟩) (by assumption) ?z8
      case y8 => (intro w hSw; (try dsimp only at hSw); go_simp) <;> with_reducible rfl
      try simp only [Act.put, List.setIfInBounds_toArray, List.set_cons_zero, List.set_cons_succ]
      refine wpAnyH_done (by kernel_rfl) ?_ _
      generalize hV : V2 = V at hHeld ⊢
      clear hV
      have hc := hHeld.1
      go_wp2_with (first | (go_at_call 25; ((with_reducible refine (one_c _ _).mono ?_); rintro e w1 ⟨rfl, hb⟩; have HB := Lib.hid hb; clear hb)) | (go_at_call 25; ((with_reducible refine (one_c _ _).mono ?_); rintro e w1 ⟨rfl, hb⟩; have HB := Lib.hid hb; clear hb)) | (go_at_call 26; ((with_reducible refine (two_c _ _).mono ?_); rintro e w1 ⟨rfl, hb⟩; have HB := Lib.hid hb; clear hb)) | (go_at_call 27; ((with_reducible refine (rsum_c _ _).mono ?_); rintro e w1 ⟨rfl, hb⟩; have HB := Lib.hid hb; clear hb)) | (go_at_call 28; ((with_reducible refine (rturn_c _ _).mono ?_); rintro e w1 ⟨rfl, hb⟩; have HB := Lib.hid hb; clear hb)) | (go_at_call 31; ((with_reducible refine (rfar_c _ _).mono ?_); rintro e w1 ⟨rfl, hb⟩; have HB := Lib.hid hb; clear hb)) | (go_at_call 32; ((with_reducible refine (rbits_c _ _).mono ?_); rintro e w1 ⟨rfl, hb⟩; have HB := Lib.hid hb; clear hb)))
      go_ret
      rw [cat]
      exact ⟨by simp, via hHeld.2.1 HB.out⟩
set_option maxRecDepth 100000 in
set_option maxHeartbeats 2000000 in
theorem rt_32 (x y s : Int) (n : Nat) (hn : n < 65536) (w : World) : Calls Tryd.prog 14 #[.agg #[.int .i64 32, .int .i64 x, .int .i64 y, .int .i64 s, .int .u16 (n : Nat)]] w fun e w' => e = .returned (.string ⟨(lineL ([108, 100]) ([[97], pickL x thruN])).toArray⟩) ∧ Below w.heap.size w w' := by
  rw [line2]
  have l2 := hexs_len n 2
  have l4 := hexs_len n 4
  have t1 := pick_len x thruN (by decide)
  have q0 : ¬ 9223372036854775807 < 6 + (pickL x thruN).length := by omega
  clear l2 l4
  go_enter Tryd.func14, Tryd.ntmps14
  go_wp2_with fail
  refine wp_region_held_drew (S := (fun w' => (∀ o, w'.cell? ⟨w.heap.size, o, none⟩ = #[Value.int .i64 32, .int .i64 x, .int .i64 y, .int .i64 s, .int .u16 (n : Nat)][o]?) ∧ QR w w')) (by kernel_rfl) (QS.new w #[.int .i64 32, .int .i64 x, .int .i64 y, .int .i64 s, .int .u16 (n : Nat)] 29) (fun hHeld => ?_)
  generalize (w.alloc (.cells #[.int .i64 32, .int .i64 x, .int .i64 y, .int .i64 s, .int .u16 (n : Nat)] 29)).drew = V0 at hHeld ⊢
  refine wpAnyH_take (i := 0) (oi := { dst := some 5, op := Go.Op.fieldAddr 29 (Go.Operand.tmp 1) 4, type := 0, pos := "ref.go:207", after := #[], guard := none }) (v := ?v1) rfl (by kernel_rfl) (by kernel_rfl) (by kernel_rfl) (fun _ _ _ h => h) (Or.inl ⟨by rfl, ?y1⟩) (by assumption) ?z1
  case y1 => (intro w hSw; (try dsimp only at hSw); go_simp) <;> with_reducible rfl
  try simp only [Act.put, List.setIfInBounds_toArray, List.set_cons_zero, List.set_cons_succ]
  refine wpAnyH_take (i := 1) (oi := { dst := some 6, op := Go.Op.load 25 (Go.Operand.tmp 5), type := 25, pos := "ref.go:207", after := #[{ on := 0, ground := Go.Ground.data }], guard := none }) (v := ?v2) rfl (by kernel_rfl) (by kernel_rfl) (by kernel_rfl) (fun _ _ _ h => h) (Or.inl ⟨by rfl, ?y2⟩) (by assumption) ?z2
  case y2 => (intro w hSw; (try dsimp only at hSw); go_simp) <;> with_reducible rfl
  try simp only [Act.put, List.setIfInBounds_toArray, List.set_cons_zero, List.set_cons_succ]
  refine wpAnyH_take (i := 3) (oi := { dst := some 8, op := Go.Op.fieldAddr 29 (Go.Operand.tmp 1) 4, type := 0, pos := "ref.go:207", after := #[], guard := none }) (v := ?v3) rfl (by kernel_rfl) (by kernel_rfl) (by kernel_rfl) (fun _ _ _ h => h) (Or.inl ⟨by rfl, ?y3⟩) (by assumption) ?z3
  case y3 => (intro w hSw; (try dsimp only at hSw); go_simp) <;> with_reducible rfl
  try simp only [Act.put, List.setIfInBounds_toArray, List.set_cons_zero, List.set_cons_succ]
  refine wpAnyH_take (i := 4) (oi := { dst := some 9, op := Go.Op.load 25 (Go.Operand.tmp 8), type := 25, pos := "ref.go:207", after := #[{ on := 3, ground := Go.Ground.data }], guard := none }) (v := ?v4) rfl (by kernel_rfl) (by kernel_rfl) (by kernel_rfl) (fun _ _ _ h => h) (Or.inl ⟨by rfl, ?y4⟩) (by assumption) ?z4
  case y4 => (intro w hSw; (try dsimp only at hSw); go_simp) <;> with_reducible rfl
  try simp only [Act.put, List.setIfInBounds_toArray, List.set_cons_zero, List.set_cons_succ]
  refine wpAnyH_ready (rs := [2]) (by kernel_rfl) (by simp) ?_
  refine (AllReadyH.cons (o := { dst := some 7, op := Go.Op.call { callee := Go.Callee.value (Go.Operand.func 24), args := #[Go.Operand.tmp 6, Go.Operand.const (Go.Value.int Go.IntKind.i64 2)], argTypes := #[25, 3] }, type := 9, pos := "ref.go:207", after := #[{ on := 1, ground := Go.Ground.data }], guard := none }) rfl (fun K hK => ?_) AllReadyH.nil)
  · go_simp
    go_wp2_with (go_at_call 24; (with_reducible refine (rhex2 n hn _).mono ?_); rintro e V1 ⟨rfl, hb⟩)
    refine hK.out _ _ ?s5 (fun hNew => ?r5)
    case s5 => exact QS.below hHeld hb
    clear hK K
    clear hb
    clear hHeld
    have hHeld := hNew
    clear hNew
    refine wpAnyH_ready (rs := [5]) (by kernel_rfl) (by simp) ?_
    refine (AllReadyH.cons (o := { dst := some 10, op := Go.Op.call { callee := Go.Callee.value (Go.Operand.func 24), args := #[Go.Operand.tmp 9, Go.Operand.const (Go.Value.int Go.IntKind.i64 4)], argTypes := #[25, 3] }, type := 9, pos := "ref.go:207", after := #[{ on := 4, ground := Go.Ground.data }, { on := 2, ground := Go.Ground.chain }], guard := none }) rfl (fun K hK => ?_) AllReadyH.nil)
    · go_simp
      go_wp2_with (go_at_call 24; (with_reducible refine (rhex4 n hn _).mono ?_); rintro e V2 ⟨rfl, hb⟩)
      refine hK.out _ _ ?s6 (fun hNew => ?r6)
      case s6 => exact QS.below hHeld hb
      clear hK K
      clear hb
      clear hHeld
      have hHeld := hNew
      clear hNew
      refine wpAnyH_take (i := 6) (oi := { dst := some 3, op := Go.Op.assign (Go.Operand.tmp 7), type := 9, pos := "ref.go:207", after := #[{ on := 2, ground := Go.Ground.data }, { on := 5, ground := Go.Ground.chain }, { on := 0, ground := Go.Ground.phase }, { on := 1, ground := Go.Ground.phase }, { on := 2, ground := Go.Ground.phase }, { on := 3, ground := Go.Ground.textOnly Go.Departure.lateStores }, { on := 4, ground := Go.Ground.textOnly Go.Departure.lateStores }, { on := 5, ground := Go.Ground.textOnly Go.Departure.lateStoresUnsure }], guard := none }) (v := ?v7) rfl (by kernel_rfl) (by kernel_rfl) (by kernel_rfl) (fun _ _ _ h => h) (Or.inl ⟨by rfl, ?y7⟩) (by assumption) ?z7
      case y7 => (intro w hSw; (try dsimp only at hSw); go_simp) <;> with_reducible rfl
      try simp only [Act.put, List.setIfInBounds_toArray, List.set_cons_zero, List.set_cons_succ]
      refine wpAnyH_take (i := 7) (oi := { dst := some 4, op := Go.Op.assign (Go.Operand.tmp 10), type := 9, pos := "ref.go:207", after := #[{ on := 5, ground := Go.Ground.data }, { on := 6, ground := Go.Ground.chain }, { on := 0, ground := Go.Ground.phase }, { on := 1, ground := Go.Ground.phase }, { on := 2, ground := Go.Ground.phase }, { on := 3, ground := Go.Ground.phase }, { on := 4, ground := Go.Ground.phase }, { on := 5, ground := Go.Ground.phase }, { on := 6, ground := Go.Ground.phase }], guard := none }) (v := ?v8) rfl (by kernel_rfl) (by kernel_rfl) (by kernel_rfl) (fun _ _ _ h => h) (Or.inl ⟨by rfl, ?y8⟩) (by assumption) ?z8
      case y8 => (intro w hSw; (try dsimp only at hSw); go_simp) <;> with_reducible rfl
      try simp only [Act.put, List.setIfInBounds_toArray, List.set_cons_zero, List.set_cons_succ]
      refine wpAnyH_done (by kernel_rfl) ?_ _
      generalize hV : V2 = V at hHeld ⊢
      clear hV
      have hc := hHeld.1
      go_wp2_with (first | (go_at_call 25; ((with_reducible refine (one_c _ _).mono ?_); rintro e w1 ⟨rfl, hb⟩; have HB := Lib.hid hb; clear hb)) | (go_at_call 25; ((with_reducible refine (one_c _ _).mono ?_); rintro e w1 ⟨rfl, hb⟩; have HB := Lib.hid hb; clear hb)) | (go_at_call 26; ((with_reducible refine (two_c _ _).mono ?_); rintro e w1 ⟨rfl, hb⟩; have HB := Lib.hid hb; clear hb)) | (go_at_call 27; ((with_reducible refine (rsum_c _ _).mono ?_); rintro e w1 ⟨rfl, hb⟩; have HB := Lib.hid hb; clear hb)) | (go_at_call 28; ((with_reducible refine (rturn_c _ _).mono ?_); rintro e w1 ⟨rfl, hb⟩; have HB := Lib.hid hb; clear hb)) | (go_at_call 31; ((with_reducible refine (rfar_c _ _).mono ?_); rintro e w1 ⟨rfl, hb⟩; have HB := Lib.hid hb; clear hb)) | (go_at_call 32; ((with_reducible refine (rbits_c _ _).mono ?_); rintro e w1 ⟨rfl, hb⟩; have HB := Lib.hid hb; clear hb)))
      go_ret
      rw [cat]
      exact ⟨by simp, via hHeld.2.1 HB.out⟩
set_option maxRecDepth 100000 in
set_option maxHeartbeats 2000000 in
theorem rt_33 (x y s : Int) (n : Nat) (hn : n < 65536) (w : World) : Calls Tryd.prog 14 #[.agg #[.int .i64 33, .int .i64 x, .int .i64 y, .int .i64 s, .int .u16 (n : Nat)]] w fun e w' => e = .returned (.string ⟨(lineL ([108, 100]) ([pickL x thruN, [97]])).toArray⟩) ∧ Below w.heap.size w w' := by
  rw [line2]
  have l2 := hexs_len n 2
  have l4 := hexs_len n 4
  have t1 := pick_len x thruN (by decide)
  have q0 : ¬ 9223372036854775807 < 3 + (pickL x thruN).length := by omega
  have q1 : ¬ 9223372036854775807 < 3 + (pickL x thruN).length + 3 := by omega
  clear l2 l4
  go_enter Tryd.func14, Tryd.ntmps14
  go_wp2_with fail
  refine wp_region_held_drew (S := (fun w' => (∀ o, w'.cell? ⟨w.heap.size, o, none⟩ = #[Value.int .i64 33, .int .i64 x, .int .i64 y, .int .i64 s, .int .u16 (n : Nat)][o]?) ∧ QR w w')) (by kernel_rfl) (QS.new w #[.int .i64 33, .int .i64 x, .int .i64 y, .int .i64 s, .int .u16 (n : Nat)] 29) (fun hHeld => ?_)
  generalize (w.alloc (.cells #[.int .i64 33, .int .i64 x, .int .i64 y, .int .i64 s, .int .u16 (n : Nat)] 29)).drew = V0 at hHeld ⊢
  refine wpAnyH_take (i := 0) (oi := { dst := some 5, op := Go.Op.fieldAddr 29 (Go.Operand.tmp 1) 4, type := 0, pos := "ref.go:207", after := #[], guard := none }) (v := ?v1) rfl (by kernel_rfl) (by kernel_rfl) (by kernel_rfl) (fun _ _ _ h => h) (Or.inl ⟨by rfl, ?y1⟩) (by assumption) ?z1
  case y1 => (intro w hSw; (try dsimp only at hSw); go_simp) <;> with_reducible rfl
  try simp only [Act.put, List.setIfInBounds_toArray, List.set_cons_zero, List.set_cons_succ]
  refine wpAnyH_take (i := 1) (oi := { dst := some 6, op := Go.Op.load 25 (Go.Operand.tmp 5), type := 25, pos := "ref.go:207", after := #[{ on := 0, ground := Go.Ground.data }], guard := none }) (v := ?v2) rfl (by kernel_rfl) (by kernel_rfl) (by kernel_rfl) (fun _ _ _ h => h) (Or.inl ⟨by rfl, ?y2⟩) (by assumption) ?z2
  case y2 => (intro w hSw; (try dsimp only at hSw); go_simp) <;> with_reducible rfl
  try simp only [Act.put, List.setIfInBounds_toArray, List.set_cons_zero, List.set_cons_succ]
  refine wpAnyH_take (i := 3) (oi := { dst := some 8, op := Go.Op.fieldAddr 29 (Go.Operand.tmp 1) 4, type := 0, pos := "ref.go:207", after := #[], guard := none }) (v := ?v3) rfl (by kernel_rfl) (by kernel_rfl) (by kernel_rfl) (fun _ _ _ h => h) (Or.inl ⟨by rfl, ?y3⟩) (by assumption) ?z3
  case y3 => (intro w hSw; (try dsimp only at hSw); go_simp) <;> with_reducible rfl
  try simp only [Act.put, List.setIfInBounds_toArray, List.set_cons_zero, List.set_cons_succ]
  refine wpAnyH_take (i := 4) (oi := { dst := some 9, op := Go.Op.load 25 (Go.Operand.tmp 8), type := 25, pos := "ref.go:207", after := #[{ on := 3, ground := Go.Ground.data }], guard := none }) (v := ?v4) rfl (by kernel_rfl) (by kernel_rfl) (by kernel_rfl) (fun _ _ _ h => h) (Or.inl ⟨by rfl, ?y4⟩) (by assumption) ?z4
  case y4 => (intro w hSw; (try dsimp only at hSw); go_simp) <;> with_reducible rfl
  try simp only [Act.put, List.setIfInBounds_toArray, List.set_cons_zero, List.set_cons_succ]
  refine wpAnyH_ready (rs := [2]) (by kernel_rfl) (by simp) ?_
  refine (AllReadyH.cons (o := { dst := some 7, op := Go.Op.call { callee := Go.Callee.value (Go.Operand.func 24), args := #[Go.Operand.tmp 6, Go.Operand.const (Go.Value.int Go.IntKind.i64 2)], argTypes := #[25, 3] }, type := 9, pos := "ref.go:207", after := #[{ on := 1, ground := Go.Ground.data }], guard := none }) rfl (fun K hK => ?_) AllReadyH.nil)
  · go_simp
    go_wp2_with (go_at_call 24; (with_reducible refine (rhex2 n hn _).mono ?_); rintro e V1 ⟨rfl, hb⟩)
    refine hK.out _ _ ?s5 (fun hNew => ?r5)
    case s5 => exact QS.below hHeld hb
    clear hK K
    clear hb
    clear hHeld
    have hHeld := hNew
    clear hNew
    refine wpAnyH_ready (rs := [5]) (by kernel_rfl) (by simp) ?_
    refine (AllReadyH.cons (o := { dst := some 10, op := Go.Op.call { callee := Go.Callee.value (Go.Operand.func 24), args := #[Go.Operand.tmp 9, Go.Operand.const (Go.Value.int Go.IntKind.i64 4)], argTypes := #[25, 3] }, type := 9, pos := "ref.go:207", after := #[{ on := 4, ground := Go.Ground.data }, { on := 2, ground := Go.Ground.chain }], guard := none }) rfl (fun K hK => ?_) AllReadyH.nil)
    · go_simp
      go_wp2_with (go_at_call 24; (with_reducible refine (rhex4 n hn _).mono ?_); rintro e V2 ⟨rfl, hb⟩)
      refine hK.out _ _ ?s6 (fun hNew => ?r6)
      case s6 => exact QS.below hHeld hb
      clear hK K
      clear hb
      clear hHeld
      have hHeld := hNew
      clear hNew
      refine wpAnyH_take (i := 6) (oi := { dst := some 3, op := Go.Op.assign (Go.Operand.tmp 7), type := 9, pos := "ref.go:207", after := #[{ on := 2, ground := Go.Ground.data }, { on := 5, ground := Go.Ground.chain }, { on := 0, ground := Go.Ground.phase }, { on := 1, ground := Go.Ground.phase }, { on := 2, ground := Go.Ground.phase }, { on := 3, ground := Go.Ground.textOnly Go.Departure.lateStores }, { on := 4, ground := Go.Ground.textOnly Go.Departure.lateStores }, { on := 5, ground := Go.Ground.textOnly Go.Departure.lateStoresUnsure }], guard := none }) (v := ?v7) rfl (by kernel_rfl) (by kernel_rfl) (by kernel_rfl) (fun _ _ _ h => h) (Or.inl ⟨by rfl, ?y7⟩) (by assumption) ?z7
      case y7 => (intro w hSw; (try dsimp only at hSw); go_simp) <;> with_reducible rfl
      try simp only [Act.put, List.setIfInBounds_toArray, List.set_cons_zero, List.set_cons_succ]
      refine wpAnyH_take (i := 7) (oi := { dst := some 4, op := Go.Op.assign (Go.Operand.tmp 10), type := 9, pos := "ref.go:207", after := #[{ on := 5, ground := Go.Ground.data }, { on := 6, ground := Go.Ground.chain }, { on := 0, ground := Go.Ground.phase }, { on := 1, ground := Go.Ground.phase }, { on := 2, ground := Go.Ground.phase }, { on := 3, ground := Go.Ground.phase }, { on := 4, ground := Go.Ground.phase }, { on := 5, ground := Go.Ground.phase }, { on := 6, ground := Go.Ground.phase }], guard := none }) (v := ?v8) rfl (by kernel_rfl) (by kernel_rfl) (by kernel_rfl) (fun _ _ _ h => h) (Or.inl ⟨by rfl, ?y8⟩) (by assumption) ?z8
      case y8 => (intro w hSw; (try dsimp only at hSw); go_simp) <;> with_reducible rfl
      try simp only [Act.put, List.setIfInBounds_toArray, List.set_cons_zero, List.set_cons_succ]
      refine wpAnyH_done (by kernel_rfl) ?_ _
      generalize hV : V2 = V at hHeld ⊢
      clear hV
      have hc := hHeld.1
      go_wp2_with (first | (go_at_call 25; ((with_reducible refine (one_c _ _).mono ?_); rintro e w1 ⟨rfl, hb⟩; have HB := Lib.hid hb; clear hb)) | (go_at_call 25; ((with_reducible refine (one_c _ _).mono ?_); rintro e w1 ⟨rfl, hb⟩; have HB := Lib.hid hb; clear hb)) | (go_at_call 26; ((with_reducible refine (two_c _ _).mono ?_); rintro e w1 ⟨rfl, hb⟩; have HB := Lib.hid hb; clear hb)) | (go_at_call 27; ((with_reducible refine (rsum_c _ _).mono ?_); rintro e w1 ⟨rfl, hb⟩; have HB := Lib.hid hb; clear hb)) | (go_at_call 28; ((with_reducible refine (rturn_c _ _).mono ?_); rintro e w1 ⟨rfl, hb⟩; have HB := Lib.hid hb; clear hb)) | (go_at_call 31; ((with_reducible refine (rfar_c _ _).mono ?_); rintro e w1 ⟨rfl, hb⟩; have HB := Lib.hid hb; clear hb)) | (go_at_call 32; ((with_reducible refine (rbits_c _ _).mono ?_); rintro e w1 ⟨rfl, hb⟩; have HB := Lib.hid hb; clear hb)))
      go_ret
      rw [cat]
      rw [cat]
      exact ⟨by simp, via hHeld.2.1 HB.out⟩
set_option maxRecDepth 100000 in
set_option maxHeartbeats 2000000 in
theorem rt_34 (x y s : Int) (n : Nat) (hn : n < 65536) (w : World) : Calls Tryd.prog 14 #[.agg #[.int .i64 34, .int .i64 x, .int .i64 y, .int .i64 s, .int .u16 (n : Nat)]] w fun e w' => e = .returned (.string ⟨(lineL ([108, 100, 104]) ([[97], 40 :: (hexs n 2 ++ [41])])).toArray⟩) ∧ Below w.heap.size w w' := by
  rw [line2]
  have l2 := hexs_len n 2
  have l4 := hexs_len n 4
  have q0 : ¬ 9223372036854775807 < 8 + (hexs n 2).length := by omega
  have q1 : ¬ 9223372036854775807 < 8 + (hexs n 2).length + 1 := by omega
  clear l2 l4
  go_enter Tryd.func14, Tryd.ntmps14
  go_wp2_with fail
  refine wp_region_held_drew (S := (fun w' => (∀ o, w'.cell? ⟨w.heap.size, o, none⟩ = #[Value.int .i64 34, .int .i64 x, .int .i64 y, .int .i64 s, .int .u16 (n : Nat)][o]?) ∧ QR w w')) (by kernel_rfl) (QS.new w #[.int .i64 34, .int .i64 x, .int .i64 y, .int .i64 s, .int .u16 (n : Nat)] 29) (fun hHeld => ?_)
  generalize (w.alloc (.cells #[.int .i64 34, .int .i64 x, .int .i64 y, .int .i64 s, .int .u16 (n : Nat)] 29)).drew = V0 at hHeld ⊢
  refine wpAnyH_take (i := 0) (oi := { dst := some 5, op := Go.Op.fieldAddr 29 (Go.Operand.tmp 1) 4, type := 0, pos := "ref.go:207", after := #[], guard := none }) (v := ?v1) rfl (by kernel_rfl) (by kernel_rfl) (by kernel_rfl) (fun _ _ _ h => h) (Or.inl ⟨by rfl, ?y1⟩) (by assumption) ?z1
  case y1 => (intro w hSw; (try dsimp only at hSw); go_simp) <;> with_reducible rfl
  try simp only [Act.put, List.setIfInBounds_toArray, List.set_cons_zero, List.set_cons_succ]
  refine wpAnyH_take (i := 1) (oi := { dst := some 6, op := Go.Op.load 25 (Go.Operand.tmp 5), type := 25, pos := "ref.go:207", after := #[{ on := 0, ground := Go.Ground.data }], guard := none }) (v := ?v2) rfl (by kernel_rfl) (by kernel_rfl) (by kernel_rfl) (fun _ _ _ h => h) (Or.inl ⟨by rfl, ?y2⟩) (by assumption) ?z2
  case y2 => (intro w hSw; (try dsimp only at hSw); go_simp) <;> with_reducible rfl
  try simp only [Act.put, List.setIfInBounds_toArray, List.set_cons_zero, List.set_cons_succ]
  refine wpAnyH_take (i := 3) (oi := { dst := some 8, op := Go.Op.fieldAddr 29 (Go.Operand.tmp 1) 4, type := 0, pos := "ref.go:207", after := #[], guard := none }) (v := ?v3) rfl (by kernel_rfl) (by kernel_rfl) (by kernel_rfl) (fun _ _ _ h => h) (Or.inl ⟨by rfl, ?y3⟩) (by assumption) ?z3
  case y3 => (intro w hSw; (try dsimp only at hSw); go_simp) <;> with_reducible rfl
  try simp only [Act.put, List.setIfInBounds_toArray, List.set_cons_zero, List.set_cons_succ]
  refine wpAnyH_take (i := 4) (oi := { dst := some 9, op := Go.Op.load 25 (Go.Operand.tmp 8), type := 25, pos := "ref.go:207", after := #[{ on := 3, ground := Go.Ground.data }], guard := none }) (v := ?v4) rfl (by kernel_rfl) (by kernel_rfl) (by kernel_rfl) (fun _ _ _ h => h) (Or.inl ⟨by rfl, ?y4⟩) (by assumption) ?z4
  case y4 => (intro w hSw; (try dsimp only at hSw); go_simp) <;> with_reducible rfl
  try simp only [Act.put, List.setIfInBounds_toArray, List.set_cons_zero, List.set_cons_succ]
  refine wpAnyH_ready (rs := [2]) (by kernel_rfl) (by simp) ?_
  refine (AllReadyH.cons (o := { dst := some 7, op := Go.Op.call { callee := Go.Callee.value (Go.Operand.func 24), args := #[Go.Operand.tmp 6, Go.Operand.const (Go.Value.int Go.IntKind.i64 2)], argTypes := #[25, 3] }, type := 9, pos := "ref.go:207", after := #[{ on := 1, ground := Go.Ground.data }], guard := none }) rfl (fun K hK => ?_) AllReadyH.nil)
  · go_simp
    go_wp2_with (go_at_call 24; (with_reducible refine (rhex2 n hn _).mono ?_); rintro e V1 ⟨rfl, hb⟩)
    refine hK.out _ _ ?s5 (fun hNew => ?r5)
    case s5 => exact QS.below hHeld hb
    clear hK K
    clear hb
    clear hHeld
    have hHeld := hNew
    clear hNew
    refine wpAnyH_ready (rs := [5]) (by kernel_rfl) (by simp) ?_
    refine (AllReadyH.cons (o := { dst := some 10, op := Go.Op.call { callee := Go.Callee.value (Go.Operand.func 24), args := #[Go.Operand.tmp 9, Go.Operand.const (Go.Value.int Go.IntKind.i64 4)], argTypes := #[25, 3] }, type := 9, pos := "ref.go:207", after := #[{ on := 4, ground := Go.Ground.data }, { on := 2, ground := Go.Ground.chain }], guard := none }) rfl (fun K hK => ?_) AllReadyH.nil)
    · go_simp
      go_wp2_with (go_at_call 24; (with_reducible refine (rhex4 n hn _).mono ?_); rintro e V2 ⟨rfl, hb⟩)
      refine hK.out _ _ ?s6 (fun hNew => ?r6)
      case s6 => exact QS.below hHeld hb
      clear hK K
      clear hb
      clear hHeld
      have hHeld := hNew
      clear hNew
      refine wpAnyH_take (i := 6) (oi := { dst := some 3, op := Go.Op.assign (Go.Operand.tmp 7), type := 9, pos := "ref.go:207", after := #[{ on := 2, ground := Go.Ground.data }, { on := 5, ground := Go.Ground.chain }, { on := 0, ground := Go.Ground.phase }, { on := 1, ground := Go.Ground.phase }, { on := 2, ground := Go.Ground.phase }, { on := 3, ground := Go.Ground.textOnly Go.Departure.lateStores }, { on := 4, ground := Go.Ground.textOnly Go.Departure.lateStores }, { on := 5, ground := Go.Ground.textOnly Go.Departure.lateStoresUnsure }], guard := none }) (v := ?v7) rfl (by kernel_rfl) (by kernel_rfl) (by kernel_rfl) (fun _ _ _ h => h) (Or.inl ⟨by rfl, ?y7⟩) (by assumption) ?z7
      case y7 => (intro w hSw; (try dsimp only at hSw); go_simp) <;> with_reducible rfl
      try simp only [Act.put, List.setIfInBounds_toArray, List.set_cons_zero, List.set_cons_succ]
      refine wpAnyH_take (i := 7) (oi := { dst := some 4, op := Go.Op.assign (Go.Operand.tmp 10), type := 9, pos := "ref.go:207", after := #[{ on := 5, ground := Go.Ground.data }, { on := 6, ground := Go.Ground.chain }, { on := 0, ground := Go.Ground.phase }, { on := 1, ground := Go.Ground.phase }, { on := 2, ground := Go.Ground.phase }, { on := 3, ground := Go.Ground.phase }, { on := 4, ground := Go.Ground.phase }, { on := 5, ground := Go.Ground.phase }, { on := 6, ground := Go.Ground.phase }], guard := none }) (v := ?v8) rfl (by kernel_rfl) (by kernel_rfl) (by kernel_rfl) (fun _ _ _ h => h) (Or.inl ⟨by rfl, ?y8⟩) (by assumption) ?z8
      case y8 => (intro w hSw; (try dsimp only at hSw); go_simp) <;> with_reducible rfl
      try simp only [Act.put, List.setIfInBounds_toArray, List.set_cons_zero, List.set_cons_succ]
      refine wpAnyH_done (by kernel_rfl) ?_ _
      generalize hV : V2 = V at hHeld ⊢
      clear hV
      have hc := hHeld.1
      go_wp2
      go_ret
      rw [cat]
      rw [cat]
      exact ⟨by simp, hHeld.2.1⟩
set_option maxRecDepth 100000 in
set_option maxHeartbeats 2000000 in
theorem rt_35 (x y s : Int) (n : Nat) (hn : n < 65536) (w : World) : Calls Tryd.prog 14 #[.agg #[.int .i64 35, .int .i64 x, .int .i64 y, .int .i64 s, .int .u16 (n : Nat)]] w fun e w' => e = .returned (.string ⟨(lineL ([108, 100, 104]) ([40 :: (hexs n 2 ++ [41]), [97]])).toArray⟩) ∧ Below w.heap.size w w' := by
  rw [line2]
  have l2 := hexs_len n 2
  have l4 := hexs_len n 4
  have q0 : ¬ 9223372036854775807 < 5 + (hexs n 2).length := by omega
  have q1 : ¬ 9223372036854775807 < 5 + (hexs n 2).length + 4 := by omega
  clear l2 l4
  go_enter Tryd.func14, Tryd.ntmps14
  go_wp2_with fail
  refine wp_region_held_drew (S := (fun w' => (∀ o, w'.cell? ⟨w.heap.size, o, none⟩ = #[Value.int .i64 35, .int .i64 x, .int .i64 y, .int .i64 s, .int .u16 (n : Nat)][o]?) ∧ QR w w')) (by kernel_rfl) (QS.new w #[.int .i64 35, .int .i64 x, .int .i64 y, .int .i64 s, .int .u16 (n : Nat)] 29) (fun hHeld => ?_)
  generalize (w.alloc (.cells #[.int .i64 35, .int .i64 x, .int .i64 y, .int .i64 s, .int .u16 (n : Nat)] 29)).drew = V0 at hHeld ⊢
  refine wpAnyH_take (i := 0) (oi := { dst := some 5, op := Go.Op.fieldAddr 29 (Go.Operand.tmp 1) 4, type := 0, pos := "ref.go:207", after := #[], guard := none }) (v := ?v1) rfl (by kernel_rfl) (by kernel_rfl) (by kernel_rfl) (fun _ _ _ h => h) (Or.inl ⟨by rfl, ?y1⟩) (by assumption) ?z1
  case y1 => (intro w hSw; (try dsimp only at hSw); go_simp) <;> with_reducible rfl
  try simp only [Act.put, List.setIfInBounds_toArray, List.set_cons_zero, List.set_cons_succ]
  refine wpAnyH_take (i := 1) (oi := { dst := some 6, op := Go.Op.load 25 (Go.Operand.tmp 5), type := 25, pos := "ref.go:207", after := #[{ on := 0, ground := Go.Ground.data }], guard := none }) (v := ?v2) rfl (by kernel_rfl) (by kernel_rfl) (by kernel_rfl) (fun _ _ _ h => h) (Or.inl ⟨by rfl, ?y2⟩) (by assumption) ?z2
  case y2 => (intro w hSw; (try dsimp only at hSw); go_simp) <;> with_reducible rfl
  try simp only [Act.put, List.setIfInBounds_toArray, List.set_cons_zero, List.set_cons_succ]
  refine wpAnyH_take (i := 3) (oi := { dst := some 8, op := Go.Op.fieldAddr 29 (Go.Operand.tmp 1) 4, type := 0, pos := "ref.go:207", after := #[], guard := none }) (v := ?v3) rfl (by kernel_rfl) (by kernel_rfl) (by kernel_rfl) (fun _ _ _ h => h) (Or.inl ⟨by rfl, ?y3⟩) (by assumption) ?z3
  case y3 => (intro w hSw; (try dsimp only at hSw); go_simp) <;> with_reducible rfl
  try simp only [Act.put, List.setIfInBounds_toArray, List.set_cons_zero, List.set_cons_succ]
  refine wpAnyH_take (i := 4) (oi := { dst := some 9, op := Go.Op.load 25 (Go.Operand.tmp 8), type := 25, pos := "ref.go:207", after := #[{ on := 3, ground := Go.Ground.data }], guard := none }) (v := ?v4) rfl (by kernel_rfl) (by kernel_rfl) (by kernel_rfl) (fun _ _ _ h => h) (Or.inl ⟨by rfl, ?y4⟩) (by assumption) ?z4
  case y4 => (intro w hSw; (try dsimp only at hSw); go_simp) <;> with_reducible rfl
  try simp only [Act.put, List.setIfInBounds_toArray, List.set_cons_zero, List.set_cons_succ]
  refine wpAnyH_ready (rs := [2]) (by kernel_rfl) (by simp) ?_
  refine (AllReadyH.cons (o := { dst := some 7, op := Go.Op.call { callee := Go.Callee.value (Go.Operand.func 24), args := #[Go.Operand.tmp 6, Go.Operand.const (Go.Value.int Go.IntKind.i64 2)], argTypes := #[25, 3] }, type := 9, pos := "ref.go:207", after := #[{ on := 1, ground := Go.Ground.data }], guard := none }) rfl (fun K hK => ?_) AllReadyH.nil)
  · go_simp
    go_wp2_with (go_at_call 24; (with_reducible refine (rhex2 n hn _).mono ?_); rintro e V1 ⟨rfl, hb⟩)
    refine hK.out _ _ ?s5 (fun hNew => ?r5)
    case s5 => exact QS.below hHeld hb
    clear hK K
    clear hb
    clear hHeld
    have hHeld := hNew
    clear hNew
    refine wpAnyH_ready (rs := [5]) (by kernel_rfl) (by simp) ?_
    refine (AllReadyH.cons (o := { dst := some 10, op := Go.Op.call { callee := Go.Callee.value (Go.Operand.func 24), args := #[Go.Operand.tmp 9, Go.Operand.const (Go.Value.int Go.IntKind.i64 4)], argTypes := #[25, 3] }, type := 9, pos := "ref.go:207", after := #[{ on := 4, ground := Go.Ground.data }, { on := 2, ground := Go.Ground.chain }], guard := none }) rfl (fun K hK => ?_) AllReadyH.nil)
    · go_simp
      go_wp2_with (go_at_call 24; (with_reducible refine (rhex4 n hn _).mono ?_); rintro e V2 ⟨rfl, hb⟩)
      refine hK.out _ _ ?s6 (fun hNew => ?r6)
      case s6 => exact QS.below hHeld hb
      clear hK K
      clear hb
      clear hHeld
      have hHeld := hNew
      clear hNew
      refine wpAnyH_take (i := 6) (oi := { dst := some 3, op := Go.Op.assign (Go.Operand.tmp 7), type := 9, pos := "ref.go:207", after := #[{ on := 2, ground := Go.Ground.data }, { on := 5, ground := Go.Ground.chain }, { on := 0, ground := Go.Ground.phase }, { on := 1, ground := Go.Ground.phase }, { on := 2, ground := Go.Ground.phase }, { on := 3, ground := Go.Ground.textOnly Go.Departure.lateStores }, { on := 4, ground := Go.Ground.textOnly Go.Departure.lateStores }, { on := 5, ground := Go.Ground.textOnly Go.Departure.lateStoresUnsure }], guard := none }) (v := ?v7) rfl (by kernel_rfl) (by kernel_rfl) (by kernel_rfl) (fun _ _ _ h => h) (Or.inl ⟨by rfl, ?y7⟩) (by assumption) ?z7
      case y7 => (intro w hSw; (try dsimp only at hSw); go_simp) <;> with_reducible rfl
      try simp only [Act.put, List.setIfInBounds_toArray, List.set_cons_zero, List.set_cons_succ]
      refine wpAnyH_take (i := 7) (oi := { dst := some 4, op := Go.Op.assign (Go.Operand.tmp 10), type := 9, pos := "ref.go:207", after := #[{ on := 5, ground := Go.Ground.data }, { on := 6, ground := Go.Ground.chain }, { on := 0, ground := Go.Ground.phase }, { on := 1, ground := Go.Ground.phase }, { on := 2, ground := Go.Ground.phase }, { on := 3, ground := Go.Ground.phase }, { on := 4, ground := Go.Ground.phase }, { on := 5, ground := Go.Ground.phase }, { on := 6, ground := Go.Ground.phase }], guard := none }) (v := ?v8) rfl (by kernel_rfl) (by kernel_rfl) (by kernel_rfl) (fun _ _ _ h => h) (Or.inl ⟨by rfl, ?y8⟩) (by assumption) ?z8
      case y8 => (intro w hSw; (try dsimp only at hSw); go_simp) <;> with_reducible rfl
      try simp only [Act.put, List.setIfInBounds_toArray, List.set_cons_zero, List.set_cons_succ]
      refine wpAnyH_done (by kernel_rfl) ?_ _
      generalize hV : V2 = V at hHeld ⊢
      clear hV
      have hc := hHeld.1
      go_wp2
      go_ret
      rw [cat]
      rw [cat]
      exact ⟨by simp, hHeld.2.1⟩
end Go.Proofs.YtaggebfcfebomaaDoor
