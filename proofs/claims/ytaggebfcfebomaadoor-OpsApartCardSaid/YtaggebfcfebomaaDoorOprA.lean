/-
  What ops.operands returns, kind by kind: for every world in which the table of package math/bits is as its text lays it, and every order.
-/
import Derived.Test.YtaggebfcfebomaaDoorCp
namespace Go.Proofs.YtaggebfcfebomaaDoor
open Go.ChangeShapes Go.WideShapes Go.ChangeAt Go.RowKit
set_option linter.unusedVariables false

/-- What stays while ops.operands calls. -/
def OR (w0 w : World) : Prop := Below w0.heap.size w0 w ∧ w0.heap.size < w.heap.size ∧ Tz w
theorem OS.below {w0 W w2 : World} {A : Array Value} (h : (∀ o, W.cell? ⟨w0.heap.size, o, none⟩ = A[o]?) ∧ OR w0 W) (hb : Below W.heap.size W w2) :
    (∀ o, w2.cell? ⟨w0.heap.size, o, none⟩ = A[o]?) ∧ OR w0 w2 := by
  obtain ⟨hc, _⟩ := bcell hb
  exact ⟨fun o => (hc _ o h.2.2.1).trans (h.1 o), via h.2.1 hb, Nat.lt_of_lt_of_le h.2.2.1 hb.size, h.2.2.2.below hb⟩
theorem OS.new (w0 : World) (A : Array Value) (t : TypeId) (hz : Tz w0) : (∀ o, (w0.alloc (.cells A t)).drew.cell? ⟨w0.heap.size, o, none⟩ = A[o]?) ∧ OR w0 (w0.alloc (.cells A t)).drew :=
  ⟨(Has.new w0 A t).drew.2.1, (own1 w0 _).drew, by simp, hz.below (own1 w0 _).drew⟩
set_option maxRecDepth 100000 in
set_option maxHeartbeats 2000000 in
theorem opr_7 (x y s : Int) (n : Nat) (hn : n < 65536) (w : World) (hz : Tz w) : Calls Tryd.prog 23 #[.agg #[.int .i64 7, .int .i64 x, .int .i64 y, .int .i64 s, .int .u16 (n : Nat)]] w (RetL w [pickL x placeN, pickL y placeN]) := by
  have HZ := Lib.hid hz
  clear hz
  go_enter Tryd.func23, Tryd.ntmps23
  go_wp2_with fail
  have HS := Lib.hid (OS.new w #[.int .i64 7, .int .i64 x, .int .i64 y, .int .i64 s, .int .u16 (n : Nat)] 27 HZ.out)
  refine wp_region_held_drew (S := (fun w' => (∀ o, w'.cell? ⟨w.heap.size, o, none⟩ = #[Value.int .i64 7, .int .i64 x, .int .i64 y, .int .i64 s, .int .u16 (n : Nat)][o]?) ∧ OR w w')) (by kernel_rfl) HS.out (fun hHeld => ?_)
  clear HS HZ
  generalize (w.alloc (.cells #[.int .i64 7, .int .i64 x, .int .i64 y, .int .i64 s, .int .u16 (n : Nat)] 27)).drew = V0 at hHeld ⊢
  refine wpAnyH_take (i := 0) (oi := { dst := some 7, op := Go.Op.fieldAddr 27 (Go.Operand.tmp 1) 1, type := 0, pos := "text.go:109", after := #[], guard := none }) (v := ?v1) rfl (by kernel_rfl) (by kernel_rfl) (by kernel_rfl) (fun _ _ _ h => h) (Or.inl ⟨by rfl, ?y1⟩) (by assumption) ?z1
  case y1 => (intro w hSw; (try dsimp only at hSw); go_simp) <;> with_reducible rfl
  try simp only [Act.put, List.setIfInBounds_toArray, List.set_cons_zero, List.set_cons_succ]
  refine wpAnyH_take (i := 1) (oi := { dst := some 8, op := Go.Op.load 3 (Go.Operand.tmp 7), type := 3, pos := "text.go:109", after := #[{ on := 0, ground := Go.Ground.data }], guard := none }) (v := ?v2) rfl (by kernel_rfl) (by kernel_rfl) (by kernel_rfl) (fun _ _ _ h => h) (Or.inl ⟨by rfl, ?y2⟩) (by assumption) ?z2
  case y2 => (intro w hSw; (try dsimp only at hSw); go_simp) <;> with_reducible rfl
  try simp only [Act.put, List.setIfInBounds_toArray, List.set_cons_zero, List.set_cons_succ]
  refine wpAnyH_take (i := 3) (oi := { dst := some 10, op := Go.Op.fieldAddr 27 (Go.Operand.tmp 1) 2, type := 0, pos := "text.go:109", after := #[], guard := none }) (v := ?v3) rfl (by kernel_rfl) (by kernel_rfl) (by kernel_rfl) (fun _ _ _ h => h) (Or.inl ⟨by rfl, ?y3⟩) (by assumption) ?z3
  case y3 => (intro w hSw; (try dsimp only at hSw); go_simp) <;> with_reducible rfl
  try simp only [Act.put, List.setIfInBounds_toArray, List.set_cons_zero, List.set_cons_succ]
  refine wpAnyH_take (i := 4) (oi := { dst := some 11, op := Go.Op.load 3 (Go.Operand.tmp 10), type := 3, pos := "text.go:109", after := #[{ on := 3, ground := Go.Ground.data }], guard := none }) (v := ?v4) rfl (by kernel_rfl) (by kernel_rfl) (by kernel_rfl) (fun _ _ _ h => h) (Or.inl ⟨by rfl, ?y4⟩) (by assumption) ?z4
  case y4 => (intro w hSw; (try dsimp only at hSw); go_simp) <;> with_reducible rfl
  try simp only [Act.put, List.setIfInBounds_toArray, List.set_cons_zero, List.set_cons_succ]
  refine wpAnyH_ready (rs := [2]) (by kernel_rfl) (by simp) ?_
  refine (AllReadyH.cons (o := { dst := some 9, op := Go.Op.call { callee := Go.Callee.value (Go.Operand.func 44), args := #[Go.Operand.tmp 8], argTypes := #[3] }, type := 9, pos := "text.go:109", after := #[{ on := 1, ground := Go.Ground.data }], guard := none }) rfl (fun K hK => ?_) AllReadyH.nil)
  · have hZ := hHeld.2.2.2
    go_simp
    go_wp2_with (go_at_call 44; (with_reducible refine (place_c _ _).mono ?_); rintro e V1 ⟨rfl, hb⟩)
    refine hK.out _ _ ?s5 (fun hNew => ?r5)
    case s5 => exact OS.below hHeld hb
    clear hK K
    clear hb hZ
    clear hHeld
    have hHeld := hNew
    clear hNew
    refine wpAnyH_ready (rs := [5]) (by kernel_rfl) (by simp) ?_
    refine (AllReadyH.cons (o := { dst := some 12, op := Go.Op.call { callee := Go.Callee.value (Go.Operand.func 44), args := #[Go.Operand.tmp 11], argTypes := #[3] }, type := 9, pos := "text.go:109", after := #[{ on := 4, ground := Go.Ground.data }, { on := 2, ground := Go.Ground.chain }], guard := none }) rfl (fun K hK => ?_) AllReadyH.nil)
    · have hZ := hHeld.2.2.2
      go_simp
      go_wp2_with (go_at_call 44; (with_reducible refine (place_c _ _).mono ?_); rintro e V2 ⟨rfl, hb⟩)
      refine hK.out _ _ ?s6 (fun hNew => ?r6)
      case s6 => exact OS.below hHeld hb
      clear hK K
      clear hb hZ
      clear hHeld
      have hHeld := hNew
      clear hNew
      refine wpAnyH_ready (rs := [6]) (by kernel_rfl) (by simp) ?_
      refine (AllReadyH.cons (o := { dst := some 13, op := Go.Op.buildSlice 59 2 #[(0, Go.Operand.tmp 9), (1, Go.Operand.tmp 12)], type := 59, pos := "text.go:109", after := #[{ on := 2, ground := Go.Ground.data }, { on := 5, ground := Go.Ground.data }], guard := none }) rfl (fun K hK => ?_) AllReadyH.nil)
      · go_simp
        refine hK.out _ _ ?s7 (fun hNew => ?r7)
        case s7 => exact OS.below hHeld (own1 _ _)
        clear hK K
        clear hHeld
        have hHeld := hNew
        clear hNew
        have HT := Lib.hid (Texts.new V2 [pickL x placeN, pickL y placeN] _ rfl 9)
        change Hid (Texts (V2.alloc (.cells #[.string ⟨(pickL x placeN).toArray⟩, .string ⟨(pickL y placeN).toArray⟩] 9)) V2.heap.size [pickL x placeN, pickL y placeN]) at HT
        generalize V2.alloc (.cells #[.string ⟨(pickL x placeN).toArray⟩, .string ⟨(pickL y placeN).toArray⟩] 9) = V3 at hHeld HT ⊢
        generalize V2.heap.size = b at HT ⊢
        refine wpAnyH_ready (rs := [7]) (by kernel_rfl) (by simp) ?_
        refine (AllReadyH.cons (o := { dst := some 14, op := Go.Op.call { callee := Go.Callee.value (Go.Operand.func 43), args := #[Go.Operand.tmp 13], argTypes := #[59] }, type := 59, pos := "text.go:109", after := #[{ on := 6, ground := Go.Ground.data }, { on := 5, ground := Go.Ground.chain }], guard := none }) rfl (fun K hK => ?_) AllReadyH.nil)
        · go_simp
          go_wp2_with (go_at_call 43; (with_reducible refine (list_c _ _).mono ?_); rintro e V4 ⟨rfl, hb⟩)
          subst hb
          refine hK.out _ _ ?s8 (fun hNew => ?r8)
          case s8 => exact hHeld
          clear hK K
          clear hHeld
          have hHeld := hNew
          clear hNew
          refine wpAnyH_take (i := 8) (oi := { dst := some 2, op := Go.Op.assign (Go.Operand.tmp 14), type := 59, pos := "text.go:109", after := #[{ on := 7, ground := Go.Ground.data }, { on := 7, ground := Go.Ground.chain }, { on := 0, ground := Go.Ground.phase }, { on := 1, ground := Go.Ground.phase }, { on := 2, ground := Go.Ground.phase }, { on := 3, ground := Go.Ground.phase }, { on := 4, ground := Go.Ground.phase }, { on := 5, ground := Go.Ground.phase }, { on := 6, ground := Go.Ground.phase }, { on := 7, ground := Go.Ground.phase }], guard := none }) (v := ?v9) rfl (by kernel_rfl) (by kernel_rfl) (by kernel_rfl) (fun _ _ _ h => h) (Or.inl ⟨by rfl, ?y9⟩) (by assumption) ?z9
          case y9 => (intro w hSw; (try dsimp only at hSw); go_simp) <;> with_reducible rfl
          try simp only [Act.put, List.setIfInBounds_toArray, List.set_cons_zero, List.set_cons_succ]
          refine wpAnyH_done (by kernel_rfl) ?_ _
          go_wp2
          go_ret
          exact ⟨_, rfl, Or.inr ⟨b, 2, rfl, Nat.le_refl _, by simp, HT.out⟩, hHeld.2.1⟩
set_option maxRecDepth 100000 in
set_option maxHeartbeats 2000000 in
theorem opr_8 (x y s : Int) (n : Nat) (hn : n < 65536) (w : World) (hz : Tz w) : Calls Tryd.prog 23 #[.agg #[.int .i64 8, .int .i64 x, .int .i64 y, .int .i64 s, .int .u16 (n : Nat)]] w (RetL w [pickL x placeN, hexs n 2]) := by
  have HZ := Lib.hid hz
  clear hz
  go_enter Tryd.func23, Tryd.ntmps23
  go_wp2_with fail
  have HS := Lib.hid (OS.new w #[.int .i64 8, .int .i64 x, .int .i64 y, .int .i64 s, .int .u16 (n : Nat)] 27 HZ.out)
  refine wp_region_held_drew (S := (fun w' => (∀ o, w'.cell? ⟨w.heap.size, o, none⟩ = #[Value.int .i64 8, .int .i64 x, .int .i64 y, .int .i64 s, .int .u16 (n : Nat)][o]?) ∧ OR w w')) (by kernel_rfl) HS.out (fun hHeld => ?_)
  clear HS HZ
  generalize (w.alloc (.cells #[.int .i64 8, .int .i64 x, .int .i64 y, .int .i64 s, .int .u16 (n : Nat)] 27)).drew = V0 at hHeld ⊢
  refine wpAnyH_take (i := 0) (oi := { dst := some 17, op := Go.Op.fieldAddr 27 (Go.Operand.tmp 1) 1, type := 0, pos := "text.go:111", after := #[], guard := none }) (v := ?v1) rfl (by kernel_rfl) (by kernel_rfl) (by kernel_rfl) (fun _ _ _ h => h) (Or.inl ⟨by rfl, ?y1⟩) (by assumption) ?z1
  case y1 => (intro w hSw; (try dsimp only at hSw); go_simp) <;> with_reducible rfl
  try simp only [Act.put, List.setIfInBounds_toArray, List.set_cons_zero, List.set_cons_succ]
  refine wpAnyH_take (i := 1) (oi := { dst := some 18, op := Go.Op.load 3 (Go.Operand.tmp 17), type := 3, pos := "text.go:111", after := #[{ on := 0, ground := Go.Ground.data }], guard := none }) (v := ?v2) rfl (by kernel_rfl) (by kernel_rfl) (by kernel_rfl) (fun _ _ _ h => h) (Or.inl ⟨by rfl, ?y2⟩) (by assumption) ?z2
  case y2 => (intro w hSw; (try dsimp only at hSw); go_simp) <;> with_reducible rfl
  try simp only [Act.put, List.setIfInBounds_toArray, List.set_cons_zero, List.set_cons_succ]
  refine wpAnyH_take (i := 3) (oi := { dst := some 20, op := Go.Op.fieldAddr 27 (Go.Operand.tmp 1) 4, type := 0, pos := "text.go:111", after := #[], guard := none }) (v := ?v3) rfl (by kernel_rfl) (by kernel_rfl) (by kernel_rfl) (fun _ _ _ h => h) (Or.inl ⟨by rfl, ?y3⟩) (by assumption) ?z3
  case y3 => (intro w hSw; (try dsimp only at hSw); go_simp) <;> with_reducible rfl
  try simp only [Act.put, List.setIfInBounds_toArray, List.set_cons_zero, List.set_cons_succ]
  refine wpAnyH_take (i := 4) (oi := { dst := some 21, op := Go.Op.load 25 (Go.Operand.tmp 20), type := 25, pos := "text.go:111", after := #[{ on := 3, ground := Go.Ground.data }], guard := none }) (v := ?v4) rfl (by kernel_rfl) (by kernel_rfl) (by kernel_rfl) (fun _ _ _ h => h) (Or.inl ⟨by rfl, ?y4⟩) (by assumption) ?z4
  case y4 => (intro w hSw; (try dsimp only at hSw); go_simp) <;> with_reducible rfl
  try simp only [Act.put, List.setIfInBounds_toArray, List.set_cons_zero, List.set_cons_succ]
  refine wpAnyH_ready (rs := [2]) (by kernel_rfl) (by simp) ?_
  refine (AllReadyH.cons (o := { dst := some 19, op := Go.Op.call { callee := Go.Callee.value (Go.Operand.func 44), args := #[Go.Operand.tmp 18], argTypes := #[3] }, type := 9, pos := "text.go:111", after := #[{ on := 1, ground := Go.Ground.data }], guard := none }) rfl (fun K hK => ?_) AllReadyH.nil)
  · have hZ := hHeld.2.2.2
    go_simp
    go_wp2_with (go_at_call 44; (with_reducible refine (place_c _ _).mono ?_); rintro e V1 ⟨rfl, hb⟩)
    refine hK.out _ _ ?s5 (fun hNew => ?r5)
    case s5 => exact OS.below hHeld hb
    clear hK K
    clear hb hZ
    clear hHeld
    have hHeld := hNew
    clear hNew
    refine wpAnyH_ready (rs := [5]) (by kernel_rfl) (by simp) ?_
    refine (AllReadyH.cons (o := { dst := some 22, op := Go.Op.call { callee := Go.Callee.value (Go.Operand.func 45), args := #[Go.Operand.tmp 21], argTypes := #[25] }, type := 9, pos := "text.go:111", after := #[{ on := 4, ground := Go.Ground.data }, { on := 2, ground := Go.Ground.chain }], guard := none }) rfl (fun K hK => ?_) AllReadyH.nil)
    · have hZ := hHeld.2.2.2
      go_simp
      go_wp2_with (go_at_call 45; (with_reducible refine (low_c n hn _ hZ).mono ?_); rintro e V2 ⟨rfl, hb⟩)
      refine hK.out _ _ ?s6 (fun hNew => ?r6)
      case s6 => exact OS.below hHeld hb
      clear hK K
      clear hb hZ
      clear hHeld
      have hHeld := hNew
      clear hNew
      refine wpAnyH_ready (rs := [6]) (by kernel_rfl) (by simp) ?_
      refine (AllReadyH.cons (o := { dst := some 23, op := Go.Op.buildSlice 59 2 #[(0, Go.Operand.tmp 19), (1, Go.Operand.tmp 22)], type := 59, pos := "text.go:111", after := #[{ on := 2, ground := Go.Ground.data }, { on := 5, ground := Go.Ground.data }], guard := none }) rfl (fun K hK => ?_) AllReadyH.nil)
      · go_simp
        refine hK.out _ _ ?s7 (fun hNew => ?r7)
        case s7 => exact OS.below hHeld (own1 _ _)
        clear hK K
        clear hHeld
        have hHeld := hNew
        clear hNew
        have HT := Lib.hid (Texts.new V2 [pickL x placeN, hexs n 2] _ rfl 9)
        change Hid (Texts (V2.alloc (.cells #[.string ⟨(pickL x placeN).toArray⟩, .string ⟨(hexs n 2).toArray⟩] 9)) V2.heap.size [pickL x placeN, hexs n 2]) at HT
        generalize V2.alloc (.cells #[.string ⟨(pickL x placeN).toArray⟩, .string ⟨(hexs n 2).toArray⟩] 9) = V3 at hHeld HT ⊢
        generalize V2.heap.size = b at HT ⊢
        refine wpAnyH_ready (rs := [7]) (by kernel_rfl) (by simp) ?_
        refine (AllReadyH.cons (o := { dst := some 24, op := Go.Op.call { callee := Go.Callee.value (Go.Operand.func 43), args := #[Go.Operand.tmp 23], argTypes := #[59] }, type := 59, pos := "text.go:111", after := #[{ on := 6, ground := Go.Ground.data }, { on := 5, ground := Go.Ground.chain }], guard := none }) rfl (fun K hK => ?_) AllReadyH.nil)
        · go_simp
          go_wp2_with (go_at_call 43; (with_reducible refine (list_c _ _).mono ?_); rintro e V4 ⟨rfl, hb⟩)
          subst hb
          refine hK.out _ _ ?s8 (fun hNew => ?r8)
          case s8 => exact hHeld
          clear hK K
          clear hHeld
          have hHeld := hNew
          clear hNew
          refine wpAnyH_take (i := 8) (oi := { dst := some 2, op := Go.Op.assign (Go.Operand.tmp 24), type := 59, pos := "text.go:111", after := #[{ on := 7, ground := Go.Ground.data }, { on := 7, ground := Go.Ground.chain }, { on := 0, ground := Go.Ground.phase }, { on := 1, ground := Go.Ground.phase }, { on := 2, ground := Go.Ground.phase }, { on := 3, ground := Go.Ground.phase }, { on := 4, ground := Go.Ground.phase }, { on := 5, ground := Go.Ground.phase }, { on := 6, ground := Go.Ground.phase }, { on := 7, ground := Go.Ground.phase }], guard := none }) (v := ?v9) rfl (by kernel_rfl) (by kernel_rfl) (by kernel_rfl) (fun _ _ _ h => h) (Or.inl ⟨by rfl, ?y9⟩) (by assumption) ?z9
          case y9 => (intro w hSw; (try dsimp only at hSw); go_simp) <;> with_reducible rfl
          try simp only [Act.put, List.setIfInBounds_toArray, List.set_cons_zero, List.set_cons_succ]
          refine wpAnyH_done (by kernel_rfl) ?_ _
          go_wp2
          go_ret
          exact ⟨_, rfl, Or.inr ⟨b, 2, rfl, Nat.le_refl _, by simp, HT.out⟩, hHeld.2.1⟩
set_option maxRecDepth 100000 in
set_option maxHeartbeats 2000000 in
theorem opr_9 (x y s : Int) (n : Nat) (hn : n < 65536) (w : World) (hz : Tz w) : Calls Tryd.prog 23 #[.agg #[.int .i64 9, .int .i64 x, .int .i64 y, .int .i64 s, .int .u16 (n : Nat)]] w (RetL w [pickL x pairN, hexs n 4]) := by
  have HZ := Lib.hid hz
  clear hz
  go_enter Tryd.func23, Tryd.ntmps23
  go_wp2_with fail
  have HS := Lib.hid (OS.new w #[.int .i64 9, .int .i64 x, .int .i64 y, .int .i64 s, .int .u16 (n : Nat)] 27 HZ.out)
  refine wp_region_held_drew (S := (fun w' => (∀ o, w'.cell? ⟨w.heap.size, o, none⟩ = #[Value.int .i64 9, .int .i64 x, .int .i64 y, .int .i64 s, .int .u16 (n : Nat)][o]?) ∧ OR w w')) (by kernel_rfl) HS.out (fun hHeld => ?_)
  clear HS HZ
  generalize (w.alloc (.cells #[.int .i64 9, .int .i64 x, .int .i64 y, .int .i64 s, .int .u16 (n : Nat)] 27)).drew = V0 at hHeld ⊢
  refine wpAnyH_take (i := 0) (oi := { dst := some 27, op := Go.Op.fieldAddr 27 (Go.Operand.tmp 1) 1, type := 0, pos := "text.go:113", after := #[], guard := none }) (v := ?v1) rfl (by kernel_rfl) (by kernel_rfl) (by kernel_rfl) (fun _ _ _ h => h) (Or.inl ⟨by rfl, ?y1⟩) (by assumption) ?z1
  case y1 => (intro w hSw; (try dsimp only at hSw); go_simp) <;> with_reducible rfl
  try simp only [Act.put, List.setIfInBounds_toArray, List.set_cons_zero, List.set_cons_succ]
  refine wpAnyH_take (i := 1) (oi := { dst := some 28, op := Go.Op.load 3 (Go.Operand.tmp 27), type := 3, pos := "text.go:113", after := #[{ on := 0, ground := Go.Ground.data }], guard := none }) (v := ?v2) rfl (by kernel_rfl) (by kernel_rfl) (by kernel_rfl) (fun _ _ _ h => h) (Or.inl ⟨by rfl, ?y2⟩) (by assumption) ?z2
  case y2 => (intro w hSw; (try dsimp only at hSw); go_simp) <;> with_reducible rfl
  try simp only [Act.put, List.setIfInBounds_toArray, List.set_cons_zero, List.set_cons_succ]
  refine wpAnyH_take (i := 3) (oi := { dst := some 30, op := Go.Op.fieldAddr 27 (Go.Operand.tmp 1) 4, type := 0, pos := "text.go:113", after := #[], guard := none }) (v := ?v3) rfl (by kernel_rfl) (by kernel_rfl) (by kernel_rfl) (fun _ _ _ h => h) (Or.inl ⟨by rfl, ?y3⟩) (by assumption) ?z3
  case y3 => (intro w hSw; (try dsimp only at hSw); go_simp) <;> with_reducible rfl
  try simp only [Act.put, List.setIfInBounds_toArray, List.set_cons_zero, List.set_cons_succ]
  refine wpAnyH_take (i := 4) (oi := { dst := some 31, op := Go.Op.load 25 (Go.Operand.tmp 30), type := 25, pos := "text.go:113", after := #[{ on := 3, ground := Go.Ground.data }], guard := none }) (v := ?v4) rfl (by kernel_rfl) (by kernel_rfl) (by kernel_rfl) (fun _ _ _ h => h) (Or.inl ⟨by rfl, ?y4⟩) (by assumption) ?z4
  case y4 => (intro w hSw; (try dsimp only at hSw); go_simp) <;> with_reducible rfl
  try simp only [Act.put, List.setIfInBounds_toArray, List.set_cons_zero, List.set_cons_succ]
  refine wpAnyH_ready (rs := [2]) (by kernel_rfl) (by simp) ?_
  refine (AllReadyH.cons (o := { dst := some 29, op := Go.Op.call { callee := Go.Callee.value (Go.Operand.func 46), args := #[Go.Operand.tmp 28], argTypes := #[3] }, type := 9, pos := "text.go:113", after := #[{ on := 1, ground := Go.Ground.data }], guard := none }) rfl (fun K hK => ?_) AllReadyH.nil)
  · have hZ := hHeld.2.2.2
    go_simp
    go_wp2_with (go_at_call 46; (with_reducible refine (pair_c _ _).mono ?_); rintro e V1 ⟨rfl, hb⟩)
    refine hK.out _ _ ?s5 (fun hNew => ?r5)
    case s5 => exact OS.below hHeld hb
    clear hK K
    clear hb hZ
    clear hHeld
    have hHeld := hNew
    clear hNew
    refine wpAnyH_ready (rs := [5]) (by kernel_rfl) (by simp) ?_
    refine (AllReadyH.cons (o := { dst := some 32, op := Go.Op.call { callee := Go.Callee.value (Go.Operand.func 47), args := #[Go.Operand.tmp 31], argTypes := #[25] }, type := 9, pos := "text.go:113", after := #[{ on := 4, ground := Go.Ground.data }, { on := 2, ground := Go.Ground.chain }], guard := none }) rfl (fun K hK => ?_) AllReadyH.nil)
    · have hZ := hHeld.2.2.2
      go_simp
      go_wp2_with (go_at_call 47; (with_reducible refine (word_c n hn _ hZ).mono ?_); rintro e V2 ⟨rfl, hb⟩)
      refine hK.out _ _ ?s6 (fun hNew => ?r6)
      case s6 => exact OS.below hHeld hb
      clear hK K
      clear hb hZ
      clear hHeld
      have hHeld := hNew
      clear hNew
      refine wpAnyH_ready (rs := [6]) (by kernel_rfl) (by simp) ?_
      refine (AllReadyH.cons (o := { dst := some 33, op := Go.Op.buildSlice 59 2 #[(0, Go.Operand.tmp 29), (1, Go.Operand.tmp 32)], type := 59, pos := "text.go:113", after := #[{ on := 2, ground := Go.Ground.data }, { on := 5, ground := Go.Ground.data }], guard := none }) rfl (fun K hK => ?_) AllReadyH.nil)
      · go_simp
        refine hK.out _ _ ?s7 (fun hNew => ?r7)
        case s7 => exact OS.below hHeld (own1 _ _)
        clear hK K
        clear hHeld
        have hHeld := hNew
        clear hNew
        have HT := Lib.hid (Texts.new V2 [pickL x pairN, hexs n 4] _ rfl 9)
        change Hid (Texts (V2.alloc (.cells #[.string ⟨(pickL x pairN).toArray⟩, .string ⟨(hexs n 4).toArray⟩] 9)) V2.heap.size [pickL x pairN, hexs n 4]) at HT
        generalize V2.alloc (.cells #[.string ⟨(pickL x pairN).toArray⟩, .string ⟨(hexs n 4).toArray⟩] 9) = V3 at hHeld HT ⊢
        generalize V2.heap.size = b at HT ⊢
        refine wpAnyH_ready (rs := [7]) (by kernel_rfl) (by simp) ?_
        refine (AllReadyH.cons (o := { dst := some 34, op := Go.Op.call { callee := Go.Callee.value (Go.Operand.func 43), args := #[Go.Operand.tmp 33], argTypes := #[59] }, type := 59, pos := "text.go:113", after := #[{ on := 6, ground := Go.Ground.data }, { on := 5, ground := Go.Ground.chain }], guard := none }) rfl (fun K hK => ?_) AllReadyH.nil)
        · go_simp
          go_wp2_with (go_at_call 43; (with_reducible refine (list_c _ _).mono ?_); rintro e V4 ⟨rfl, hb⟩)
          subst hb
          refine hK.out _ _ ?s8 (fun hNew => ?r8)
          case s8 => exact hHeld
          clear hK K
          clear hHeld
          have hHeld := hNew
          clear hNew
          refine wpAnyH_take (i := 8) (oi := { dst := some 2, op := Go.Op.assign (Go.Operand.tmp 34), type := 59, pos := "text.go:113", after := #[{ on := 7, ground := Go.Ground.data }, { on := 7, ground := Go.Ground.chain }, { on := 0, ground := Go.Ground.phase }, { on := 1, ground := Go.Ground.phase }, { on := 2, ground := Go.Ground.phase }, { on := 3, ground := Go.Ground.phase }, { on := 4, ground := Go.Ground.phase }, { on := 5, ground := Go.Ground.phase }, { on := 6, ground := Go.Ground.phase }, { on := 7, ground := Go.Ground.phase }], guard := none }) (v := ?v9) rfl (by kernel_rfl) (by kernel_rfl) (by kernel_rfl) (fun _ _ _ h => h) (Or.inl ⟨by rfl, ?y9⟩) (by assumption) ?z9
          case y9 => (intro w hSw; (try dsimp only at hSw); go_simp) <;> with_reducible rfl
          try simp only [Act.put, List.setIfInBounds_toArray, List.set_cons_zero, List.set_cons_succ]
          refine wpAnyH_done (by kernel_rfl) ?_ _
          go_wp2
          go_ret
          exact ⟨_, rfl, Or.inr ⟨b, 2, rfl, Nat.le_refl _, by simp, HT.out⟩, hHeld.2.1⟩
set_option maxRecDepth 100000 in
set_option maxHeartbeats 2000000 in
theorem opr_23 (x y s : Int) (n : Nat) (hn : n < 65536) (w : World) (hz : Tz w) : Calls Tryd.prog 23 #[.agg #[.int .i64 23, .int .i64 x, .int .i64 y, .int .i64 s, .int .u16 (n : Nat)]] w (RetL w (condL x [hexs n 2])) := by
  have HZ := Lib.hid hz
  clear hz
  go_enter Tryd.func23, Tryd.ntmps23
  go_wp2_with fail
  have HS := Lib.hid (OS.new w #[.int .i64 23, .int .i64 x, .int .i64 y, .int .i64 s, .int .u16 (n : Nat)] 27 HZ.out)
  refine wp_region_held_drew (S := (fun w' => (∀ o, w'.cell? ⟨w.heap.size, o, none⟩ = #[Value.int .i64 23, .int .i64 x, .int .i64 y, .int .i64 s, .int .u16 (n : Nat)][o]?) ∧ OR w w')) (by kernel_rfl) HS.out (fun hHeld => ?_)
  clear HS HZ
  generalize (w.alloc (.cells #[.int .i64 23, .int .i64 x, .int .i64 y, .int .i64 s, .int .u16 (n : Nat)] 27)).drew = V0 at hHeld ⊢
  refine wpAnyH_take (i := 0) (oi := { dst := some 95, op := Go.Op.fieldAddr 27 (Go.Operand.tmp 1) 1, type := 0, pos := "text.go:129", after := #[], guard := none }) (v := ?v1) rfl (by kernel_rfl) (by kernel_rfl) (by kernel_rfl) (fun _ _ _ h => h) (Or.inl ⟨by rfl, ?y1⟩) (by assumption) ?z1
  case y1 => (intro w hSw; (try dsimp only at hSw); go_simp) <;> with_reducible rfl
  try simp only [Act.put, List.setIfInBounds_toArray, List.set_cons_zero, List.set_cons_succ]
  refine wpAnyH_take (i := 1) (oi := { dst := some 96, op := Go.Op.load 3 (Go.Operand.tmp 95), type := 3, pos := "text.go:129", after := #[{ on := 0, ground := Go.Ground.data }], guard := none }) (v := ?v2) rfl (by kernel_rfl) (by kernel_rfl) (by kernel_rfl) (fun _ _ _ h => h) (Or.inl ⟨by rfl, ?y2⟩) (by assumption) ?z2
  case y2 => (intro w hSw; (try dsimp only at hSw); go_simp) <;> with_reducible rfl
  try simp only [Act.put, List.setIfInBounds_toArray, List.set_cons_zero, List.set_cons_succ]
  refine wpAnyH_take (i := 2) (oi := { dst := some 97, op := Go.Op.fieldAddr 27 (Go.Operand.tmp 1) 4, type := 0, pos := "text.go:129", after := #[], guard := none }) (v := ?v3) rfl (by kernel_rfl) (by kernel_rfl) (by kernel_rfl) (fun _ _ _ h => h) (Or.inl ⟨by rfl, ?y3⟩) (by assumption) ?z3
  case y3 => (intro w hSw; (try dsimp only at hSw); go_simp) <;> with_reducible rfl
  try simp only [Act.put, List.setIfInBounds_toArray, List.set_cons_zero, List.set_cons_succ]
  refine wpAnyH_take (i := 3) (oi := { dst := some 98, op := Go.Op.load 25 (Go.Operand.tmp 97), type := 25, pos := "text.go:129", after := #[{ on := 2, ground := Go.Ground.data }], guard := none }) (v := ?v4) rfl (by kernel_rfl) (by kernel_rfl) (by kernel_rfl) (fun _ _ _ h => h) (Or.inl ⟨by rfl, ?y4⟩) (by assumption) ?z4
  case y4 => (intro w hSw; (try dsimp only at hSw); go_simp) <;> with_reducible rfl
  try simp only [Act.put, List.setIfInBounds_toArray, List.set_cons_zero, List.set_cons_succ]
  refine wpAnyH_ready (rs := [4]) (by kernel_rfl) (by simp) ?_
  refine (AllReadyH.cons (o := { dst := some 99, op := Go.Op.call { callee := Go.Callee.value (Go.Operand.func 45), args := #[Go.Operand.tmp 98], argTypes := #[25] }, type := 9, pos := "text.go:129", after := #[{ on := 3, ground := Go.Ground.data }], guard := none }) rfl (fun K hK => ?_) AllReadyH.nil)
  · have hZ := hHeld.2.2.2
    go_simp
    go_wp2_with (go_at_call 45; (with_reducible refine (low_c n hn _ hZ).mono ?_); rintro e V1 ⟨rfl, hb⟩)
    refine hK.out _ _ ?s5 (fun hNew => ?r5)
    case s5 => exact OS.below hHeld hb
    clear hK K
    clear hb hZ
    clear hHeld
    have hHeld := hNew
    clear hNew
    refine wpAnyH_ready (rs := [5]) (by kernel_rfl) (by simp) ?_
    refine (AllReadyH.cons (o := { dst := some 100, op := Go.Op.buildSlice 59 1 #[(0, Go.Operand.tmp 99)], type := 59, pos := "text.go:129", after := #[{ on := 4, ground := Go.Ground.data }], guard := none }) rfl (fun K hK => ?_) AllReadyH.nil)
    · go_simp
      refine hK.out _ _ ?s6 (fun hNew => ?r6)
      case s6 => exact OS.below hHeld (own1 _ _)
      clear hK K
      clear hHeld
      have hHeld := hNew
      clear hNew
      have HT := Lib.hid (Texts.new V1 [hexs n 2] _ rfl 9)
      change Hid (Texts (V1.alloc (.cells #[.string ⟨(hexs n 2).toArray⟩] 9)) V1.heap.size [hexs n 2]) at HT
      generalize V1.alloc (.cells #[.string ⟨(hexs n 2).toArray⟩] 9) = V2 at hHeld HT ⊢
      generalize V1.heap.size = b at HT ⊢
      refine wpAnyH_ready (rs := [6]) (by kernel_rfl) (by simp) ?_
      refine (AllReadyH.cons (o := { dst := some 101, op := Go.Op.call { callee := Go.Callee.value (Go.Operand.func 49), args := #[Go.Operand.tmp 96, Go.Operand.tmp 100], argTypes := #[3, 59] }, type := 59, pos := "text.go:129", after := #[{ on := 1, ground := Go.Ground.data }, { on := 5, ground := Go.Ground.data }, { on := 4, ground := Go.Ground.chain }], guard := none }) rfl (fun K hK => ?_) AllReadyH.nil)
      · have HT1 := HT.out
        go_simp
        go_wp2_with (go_at_call 49; (with_reducible refine (condA_c x b _ _ HT1).mono ?_); rintro e V3 ⟨v, rfl, hL, hb⟩)
        refine hK.out _ _ ?s7 (fun hNew => ?r7)
        case s7 => exact OS.below hHeld hb
        clear hK K
        clear HT1 HT
        have HL := Lib.hid hL
        clear hL hb
        clear hHeld
        have hHeld := hNew
        clear hNew
        refine wpAnyH_take (i := 7) (oi := { dst := some 2, op := Go.Op.assign (Go.Operand.tmp 101), type := 59, pos := "text.go:129", after := #[{ on := 6, ground := Go.Ground.data }, { on := 6, ground := Go.Ground.chain }, { on := 0, ground := Go.Ground.phase }, { on := 1, ground := Go.Ground.phase }, { on := 2, ground := Go.Ground.phase }, { on := 3, ground := Go.Ground.phase }, { on := 4, ground := Go.Ground.phase }, { on := 5, ground := Go.Ground.phase }, { on := 6, ground := Go.Ground.phase }], guard := none }) (v := ?v8) rfl (by kernel_rfl) (by kernel_rfl) (by kernel_rfl) (fun _ _ _ h => h) (Or.inl ⟨by rfl, ?y8⟩) (by assumption) ?z8
        case y8 => (intro w hSw; (try dsimp only at hSw); go_simp) <;> with_reducible rfl
        try simp only [Act.put, List.setIfInBounds_toArray, List.set_cons_zero, List.set_cons_succ]
        refine wpAnyH_done (by kernel_rfl) ?_ _
        go_wp2
        go_ret
        exact ⟨_, rfl, HL.out, hHeld.2.1⟩
set_option maxRecDepth 100000 in
set_option maxHeartbeats 2000000 in
theorem opr_24 (x y s : Int) (n : Nat) (hn : n < 65536) (w : World) (hz : Tz w) : Calls Tryd.prog 23 #[.agg #[.int .i64 24, .int .i64 x, .int .i64 y, .int .i64 s, .int .u16 (n : Nat)]] w (RetL w (condL x [hexs n 4])) := by
  have HZ := Lib.hid hz
  clear hz
  go_enter Tryd.func23, Tryd.ntmps23
  go_wp2_with fail
  have HS := Lib.hid (OS.new w #[.int .i64 24, .int .i64 x, .int .i64 y, .int .i64 s, .int .u16 (n : Nat)] 27 HZ.out)
  refine wp_region_held_drew (S := (fun w' => (∀ o, w'.cell? ⟨w.heap.size, o, none⟩ = #[Value.int .i64 24, .int .i64 x, .int .i64 y, .int .i64 s, .int .u16 (n : Nat)][o]?) ∧ OR w w')) (by kernel_rfl) HS.out (fun hHeld => ?_)
  clear HS HZ
  generalize (w.alloc (.cells #[.int .i64 24, .int .i64 x, .int .i64 y, .int .i64 s, .int .u16 (n : Nat)] 27)).drew = V0 at hHeld ⊢
  refine wpAnyH_take (i := 0) (oi := { dst := some 105, op := Go.Op.fieldAddr 27 (Go.Operand.tmp 1) 1, type := 0, pos := "text.go:131", after := #[], guard := none }) (v := ?v1) rfl (by kernel_rfl) (by kernel_rfl) (by kernel_rfl) (fun _ _ _ h => h) (Or.inl ⟨by rfl, ?y1⟩) (by assumption) ?z1
  case y1 => (intro w hSw; (try dsimp only at hSw); go_simp) <;> with_reducible rfl
  try simp only [Act.put, List.setIfInBounds_toArray, List.set_cons_zero, List.set_cons_succ]
  refine wpAnyH_take (i := 1) (oi := { dst := some 106, op := Go.Op.load 3 (Go.Operand.tmp 105), type := 3, pos := "text.go:131", after := #[{ on := 0, ground := Go.Ground.data }], guard := none }) (v := ?v2) rfl (by kernel_rfl) (by kernel_rfl) (by kernel_rfl) (fun _ _ _ h => h) (Or.inl ⟨by rfl, ?y2⟩) (by assumption) ?z2
  case y2 => (intro w hSw; (try dsimp only at hSw); go_simp) <;> with_reducible rfl
  try simp only [Act.put, List.setIfInBounds_toArray, List.set_cons_zero, List.set_cons_succ]
  refine wpAnyH_take (i := 2) (oi := { dst := some 107, op := Go.Op.fieldAddr 27 (Go.Operand.tmp 1) 4, type := 0, pos := "text.go:131", after := #[], guard := none }) (v := ?v3) rfl (by kernel_rfl) (by kernel_rfl) (by kernel_rfl) (fun _ _ _ h => h) (Or.inl ⟨by rfl, ?y3⟩) (by assumption) ?z3
  case y3 => (intro w hSw; (try dsimp only at hSw); go_simp) <;> with_reducible rfl
  try simp only [Act.put, List.setIfInBounds_toArray, List.set_cons_zero, List.set_cons_succ]
  refine wpAnyH_take (i := 3) (oi := { dst := some 108, op := Go.Op.load 25 (Go.Operand.tmp 107), type := 25, pos := "text.go:131", after := #[{ on := 2, ground := Go.Ground.data }], guard := none }) (v := ?v4) rfl (by kernel_rfl) (by kernel_rfl) (by kernel_rfl) (fun _ _ _ h => h) (Or.inl ⟨by rfl, ?y4⟩) (by assumption) ?z4
  case y4 => (intro w hSw; (try dsimp only at hSw); go_simp) <;> with_reducible rfl
  try simp only [Act.put, List.setIfInBounds_toArray, List.set_cons_zero, List.set_cons_succ]
  refine wpAnyH_ready (rs := [4]) (by kernel_rfl) (by simp) ?_
  refine (AllReadyH.cons (o := { dst := some 109, op := Go.Op.call { callee := Go.Callee.value (Go.Operand.func 47), args := #[Go.Operand.tmp 108], argTypes := #[25] }, type := 9, pos := "text.go:131", after := #[{ on := 3, ground := Go.Ground.data }], guard := none }) rfl (fun K hK => ?_) AllReadyH.nil)
  · have hZ := hHeld.2.2.2
    go_simp
    go_wp2_with (go_at_call 47; (with_reducible refine (word_c n hn _ hZ).mono ?_); rintro e V1 ⟨rfl, hb⟩)
    refine hK.out _ _ ?s5 (fun hNew => ?r5)
    case s5 => exact OS.below hHeld hb
    clear hK K
    clear hb hZ
    clear hHeld
    have hHeld := hNew
    clear hNew
    refine wpAnyH_ready (rs := [5]) (by kernel_rfl) (by simp) ?_
    refine (AllReadyH.cons (o := { dst := some 110, op := Go.Op.buildSlice 59 1 #[(0, Go.Operand.tmp 109)], type := 59, pos := "text.go:131", after := #[{ on := 4, ground := Go.Ground.data }], guard := none }) rfl (fun K hK => ?_) AllReadyH.nil)
    · go_simp
      refine hK.out _ _ ?s6 (fun hNew => ?r6)
      case s6 => exact OS.below hHeld (own1 _ _)
      clear hK K
      clear hHeld
      have hHeld := hNew
      clear hNew
      have HT := Lib.hid (Texts.new V1 [hexs n 4] _ rfl 9)
      change Hid (Texts (V1.alloc (.cells #[.string ⟨(hexs n 4).toArray⟩] 9)) V1.heap.size [hexs n 4]) at HT
      generalize V1.alloc (.cells #[.string ⟨(hexs n 4).toArray⟩] 9) = V2 at hHeld HT ⊢
      generalize V1.heap.size = b at HT ⊢
      refine wpAnyH_ready (rs := [6]) (by kernel_rfl) (by simp) ?_
      refine (AllReadyH.cons (o := { dst := some 111, op := Go.Op.call { callee := Go.Callee.value (Go.Operand.func 49), args := #[Go.Operand.tmp 106, Go.Operand.tmp 110], argTypes := #[3, 59] }, type := 59, pos := "text.go:131", after := #[{ on := 1, ground := Go.Ground.data }, { on := 5, ground := Go.Ground.data }, { on := 4, ground := Go.Ground.chain }], guard := none }) rfl (fun K hK => ?_) AllReadyH.nil)
      · have HT1 := HT.out
        go_simp
        go_wp2_with (go_at_call 49; (with_reducible refine (condA_c x b _ _ HT1).mono ?_); rintro e V3 ⟨v, rfl, hL, hb⟩)
        refine hK.out _ _ ?s7 (fun hNew => ?r7)
        case s7 => exact OS.below hHeld hb
        clear hK K
        clear HT1 HT
        have HL := Lib.hid hL
        clear hL hb
        clear hHeld
        have hHeld := hNew
        clear hNew
        refine wpAnyH_take (i := 7) (oi := { dst := some 2, op := Go.Op.assign (Go.Operand.tmp 111), type := 59, pos := "text.go:131", after := #[{ on := 6, ground := Go.Ground.data }, { on := 6, ground := Go.Ground.chain }, { on := 0, ground := Go.Ground.phase }, { on := 1, ground := Go.Ground.phase }, { on := 2, ground := Go.Ground.phase }, { on := 3, ground := Go.Ground.phase }, { on := 4, ground := Go.Ground.phase }, { on := 5, ground := Go.Ground.phase }, { on := 6, ground := Go.Ground.phase }], guard := none }) (v := ?v8) rfl (by kernel_rfl) (by kernel_rfl) (by kernel_rfl) (fun _ _ _ h => h) (Or.inl ⟨by rfl, ?y8⟩) (by assumption) ?z8
        case y8 => (intro w hSw; (try dsimp only at hSw); go_simp) <;> with_reducible rfl
        try simp only [Act.put, List.setIfInBounds_toArray, List.set_cons_zero, List.set_cons_succ]
        refine wpAnyH_done (by kernel_rfl) ?_ _
        go_wp2
        go_ret
        exact ⟨_, rfl, HL.out, hHeld.2.1⟩
set_option maxRecDepth 100000 in
set_option maxHeartbeats 2000000 in
theorem opr_25 (x y s : Int) (n : Nat) (hn : n < 65536) (w : World) (hz : Tz w) : Calls Tryd.prog 23 #[.agg #[.int .i64 25, .int .i64 x, .int .i64 y, .int .i64 s, .int .u16 (n : Nat)]] w (RetL w (condL x [hexs n 4])) := by
  have HZ := Lib.hid hz
  clear hz
  go_enter Tryd.func23, Tryd.ntmps23
  go_wp2_with fail
  have HS := Lib.hid (OS.new w #[.int .i64 25, .int .i64 x, .int .i64 y, .int .i64 s, .int .u16 (n : Nat)] 27 HZ.out)
  refine wp_region_held_drew (S := (fun w' => (∀ o, w'.cell? ⟨w.heap.size, o, none⟩ = #[Value.int .i64 25, .int .i64 x, .int .i64 y, .int .i64 s, .int .u16 (n : Nat)][o]?) ∧ OR w w')) (by kernel_rfl) HS.out (fun hHeld => ?_)
  clear HS HZ
  generalize (w.alloc (.cells #[.int .i64 25, .int .i64 x, .int .i64 y, .int .i64 s, .int .u16 (n : Nat)] 27)).drew = V0 at hHeld ⊢
  refine wpAnyH_take (i := 0) (oi := { dst := some 105, op := Go.Op.fieldAddr 27 (Go.Operand.tmp 1) 1, type := 0, pos := "text.go:131", after := #[], guard := none }) (v := ?v1) rfl (by kernel_rfl) (by kernel_rfl) (by kernel_rfl) (fun _ _ _ h => h) (Or.inl ⟨by rfl, ?y1⟩) (by assumption) ?z1
  case y1 => (intro w hSw; (try dsimp only at hSw); go_simp) <;> with_reducible rfl
  try simp only [Act.put, List.setIfInBounds_toArray, List.set_cons_zero, List.set_cons_succ]
  refine wpAnyH_take (i := 1) (oi := { dst := some 106, op := Go.Op.load 3 (Go.Operand.tmp 105), type := 3, pos := "text.go:131", after := #[{ on := 0, ground := Go.Ground.data }], guard := none }) (v := ?v2) rfl (by kernel_rfl) (by kernel_rfl) (by kernel_rfl) (fun _ _ _ h => h) (Or.inl ⟨by rfl, ?y2⟩) (by assumption) ?z2
  case y2 => (intro w hSw; (try dsimp only at hSw); go_simp) <;> with_reducible rfl
  try simp only [Act.put, List.setIfInBounds_toArray, List.set_cons_zero, List.set_cons_succ]
  refine wpAnyH_take (i := 2) (oi := { dst := some 107, op := Go.Op.fieldAddr 27 (Go.Operand.tmp 1) 4, type := 0, pos := "text.go:131", after := #[], guard := none }) (v := ?v3) rfl (by kernel_rfl) (by kernel_rfl) (by kernel_rfl) (fun _ _ _ h => h) (Or.inl ⟨by rfl, ?y3⟩) (by assumption) ?z3
  case y3 => (intro w hSw; (try dsimp only at hSw); go_simp) <;> with_reducible rfl
  try simp only [Act.put, List.setIfInBounds_toArray, List.set_cons_zero, List.set_cons_succ]
  refine wpAnyH_take (i := 3) (oi := { dst := some 108, op := Go.Op.load 25 (Go.Operand.tmp 107), type := 25, pos := "text.go:131", after := #[{ on := 2, ground := Go.Ground.data }], guard := none }) (v := ?v4) rfl (by kernel_rfl) (by kernel_rfl) (by kernel_rfl) (fun _ _ _ h => h) (Or.inl ⟨by rfl, ?y4⟩) (by assumption) ?z4
  case y4 => (intro w hSw; (try dsimp only at hSw); go_simp) <;> with_reducible rfl
  try simp only [Act.put, List.setIfInBounds_toArray, List.set_cons_zero, List.set_cons_succ]
  refine wpAnyH_ready (rs := [4]) (by kernel_rfl) (by simp) ?_
  refine (AllReadyH.cons (o := { dst := some 109, op := Go.Op.call { callee := Go.Callee.value (Go.Operand.func 47), args := #[Go.Operand.tmp 108], argTypes := #[25] }, type := 9, pos := "text.go:131", after := #[{ on := 3, ground := Go.Ground.data }], guard := none }) rfl (fun K hK => ?_) AllReadyH.nil)
  · have hZ := hHeld.2.2.2
    go_simp
    go_wp2_with (go_at_call 47; (with_reducible refine (word_c n hn _ hZ).mono ?_); rintro e V1 ⟨rfl, hb⟩)
    refine hK.out _ _ ?s5 (fun hNew => ?r5)
    case s5 => exact OS.below hHeld hb
    clear hK K
    clear hb hZ
    clear hHeld
    have hHeld := hNew
    clear hNew
    refine wpAnyH_ready (rs := [5]) (by kernel_rfl) (by simp) ?_
    refine (AllReadyH.cons (o := { dst := some 110, op := Go.Op.buildSlice 59 1 #[(0, Go.Operand.tmp 109)], type := 59, pos := "text.go:131", after := #[{ on := 4, ground := Go.Ground.data }], guard := none }) rfl (fun K hK => ?_) AllReadyH.nil)
    · go_simp
      refine hK.out _ _ ?s6 (fun hNew => ?r6)
      case s6 => exact OS.below hHeld (own1 _ _)
      clear hK K
      clear hHeld
      have hHeld := hNew
      clear hNew
      have HT := Lib.hid (Texts.new V1 [hexs n 4] _ rfl 9)
      change Hid (Texts (V1.alloc (.cells #[.string ⟨(hexs n 4).toArray⟩] 9)) V1.heap.size [hexs n 4]) at HT
      generalize V1.alloc (.cells #[.string ⟨(hexs n 4).toArray⟩] 9) = V2 at hHeld HT ⊢
      generalize V1.heap.size = b at HT ⊢
      refine wpAnyH_ready (rs := [6]) (by kernel_rfl) (by simp) ?_
      refine (AllReadyH.cons (o := { dst := some 111, op := Go.Op.call { callee := Go.Callee.value (Go.Operand.func 49), args := #[Go.Operand.tmp 106, Go.Operand.tmp 110], argTypes := #[3, 59] }, type := 59, pos := "text.go:131", after := #[{ on := 1, ground := Go.Ground.data }, { on := 5, ground := Go.Ground.data }, { on := 4, ground := Go.Ground.chain }], guard := none }) rfl (fun K hK => ?_) AllReadyH.nil)
      · have HT1 := HT.out
        go_simp
        go_wp2_with (go_at_call 49; (with_reducible refine (condA_c x b _ _ HT1).mono ?_); rintro e V3 ⟨v, rfl, hL, hb⟩)
        refine hK.out _ _ ?s7 (fun hNew => ?r7)
        case s7 => exact OS.below hHeld hb
        clear hK K
        clear HT1 HT
        have HL := Lib.hid hL
        clear hL hb
        clear hHeld
        have hHeld := hNew
        clear hNew
        refine wpAnyH_take (i := 7) (oi := { dst := some 2, op := Go.Op.assign (Go.Operand.tmp 111), type := 59, pos := "text.go:131", after := #[{ on := 6, ground := Go.Ground.data }, { on := 6, ground := Go.Ground.chain }, { on := 0, ground := Go.Ground.phase }, { on := 1, ground := Go.Ground.phase }, { on := 2, ground := Go.Ground.phase }, { on := 3, ground := Go.Ground.phase }, { on := 4, ground := Go.Ground.phase }, { on := 5, ground := Go.Ground.phase }, { on := 6, ground := Go.Ground.phase }], guard := none }) (v := ?v8) rfl (by kernel_rfl) (by kernel_rfl) (by kernel_rfl) (fun _ _ _ h => h) (Or.inl ⟨by rfl, ?y8⟩) (by assumption) ?z8
        case y8 => (intro w hSw; (try dsimp only at hSw); go_simp) <;> with_reducible rfl
        try simp only [Act.put, List.setIfInBounds_toArray, List.set_cons_zero, List.set_cons_succ]
        refine wpAnyH_done (by kernel_rfl) ?_ _
        go_wp2
        go_ret
        exact ⟨_, rfl, HL.out, hHeld.2.1⟩
set_option maxRecDepth 100000 in
set_option maxHeartbeats 2000000 in
theorem opr_44 (x y s : Int) (n : Nat) (hn : n < 65536) (w : World) (hz : Tz w) : Calls Tryd.prog 23 #[.agg #[.int .i64 44, .int .i64 x, .int .i64 y, .int .i64 s, .int .u16 (n : Nat)]] w (RetL w [pickL x bitN, pickL y placeN]) := by
  have HZ := Lib.hid hz
  clear hz
  go_enter Tryd.func23, Tryd.ntmps23
  go_wp2_with fail
  have HS := Lib.hid (OS.new w #[.int .i64 44, .int .i64 x, .int .i64 y, .int .i64 s, .int .u16 (n : Nat)] 27 HZ.out)
  refine wp_region_held_drew (S := (fun w' => (∀ o, w'.cell? ⟨w.heap.size, o, none⟩ = #[Value.int .i64 44, .int .i64 x, .int .i64 y, .int .i64 s, .int .u16 (n : Nat)][o]?) ∧ OR w w')) (by kernel_rfl) HS.out (fun hHeld => ?_)
  clear HS HZ
  generalize (w.alloc (.cells #[.int .i64 44, .int .i64 x, .int .i64 y, .int .i64 s, .int .u16 (n : Nat)] 27)).drew = V0 at hHeld ⊢
  refine wpAnyH_take (i := 0) (oi := { dst := some 85, op := Go.Op.fieldAddr 27 (Go.Operand.tmp 1) 1, type := 0, pos := "text.go:127", after := #[], guard := none }) (v := ?v1) rfl (by kernel_rfl) (by kernel_rfl) (by kernel_rfl) (fun _ _ _ h => h) (Or.inl ⟨by rfl, ?y1⟩) (by assumption) ?z1
  case y1 => (intro w hSw; (try dsimp only at hSw); go_simp) <;> with_reducible rfl
  try simp only [Act.put, List.setIfInBounds_toArray, List.set_cons_zero, List.set_cons_succ]
  refine wpAnyH_take (i := 1) (oi := { dst := some 86, op := Go.Op.load 3 (Go.Operand.tmp 85), type := 3, pos := "text.go:127", after := #[{ on := 0, ground := Go.Ground.data }], guard := none }) (v := ?v2) rfl (by kernel_rfl) (by kernel_rfl) (by kernel_rfl) (fun _ _ _ h => h) (Or.inl ⟨by rfl, ?y2⟩) (by assumption) ?z2
  case y2 => (intro w hSw; (try dsimp only at hSw); go_simp) <;> with_reducible rfl
  try simp only [Act.put, List.setIfInBounds_toArray, List.set_cons_zero, List.set_cons_succ]
  refine wpAnyH_take (i := 3) (oi := { dst := some 88, op := Go.Op.fieldAddr 27 (Go.Operand.tmp 1) 2, type := 0, pos := "text.go:127", after := #[], guard := none }) (v := ?v3) rfl (by kernel_rfl) (by kernel_rfl) (by kernel_rfl) (fun _ _ _ h => h) (Or.inl ⟨by rfl, ?y3⟩) (by assumption) ?z3
  case y3 => (intro w hSw; (try dsimp only at hSw); go_simp) <;> with_reducible rfl
  try simp only [Act.put, List.setIfInBounds_toArray, List.set_cons_zero, List.set_cons_succ]
  refine wpAnyH_take (i := 4) (oi := { dst := some 89, op := Go.Op.load 3 (Go.Operand.tmp 88), type := 3, pos := "text.go:127", after := #[{ on := 3, ground := Go.Ground.data }], guard := none }) (v := ?v4) rfl (by kernel_rfl) (by kernel_rfl) (by kernel_rfl) (fun _ _ _ h => h) (Or.inl ⟨by rfl, ?y4⟩) (by assumption) ?z4
  case y4 => (intro w hSw; (try dsimp only at hSw); go_simp) <;> with_reducible rfl
  try simp only [Act.put, List.setIfInBounds_toArray, List.set_cons_zero, List.set_cons_succ]
  refine wpAnyH_ready (rs := [2]) (by kernel_rfl) (by simp) ?_
  refine (AllReadyH.cons (o := { dst := some 87, op := Go.Op.call { callee := Go.Callee.value (Go.Operand.func 48), args := #[Go.Operand.tmp 86], argTypes := #[3] }, type := 9, pos := "text.go:127", after := #[{ on := 1, ground := Go.Ground.data }], guard := none }) rfl (fun K hK => ?_) AllReadyH.nil)
  · have hZ := hHeld.2.2.2
    go_simp
    go_wp2_with (go_at_call 48; (with_reducible refine (bit_c _ _).mono ?_); rintro e V1 ⟨rfl, hb⟩)
    refine hK.out _ _ ?s5 (fun hNew => ?r5)
    case s5 => exact OS.below hHeld hb
    clear hK K
    clear hb hZ
    clear hHeld
    have hHeld := hNew
    clear hNew
    refine wpAnyH_ready (rs := [5]) (by kernel_rfl) (by simp) ?_
    refine (AllReadyH.cons (o := { dst := some 90, op := Go.Op.call { callee := Go.Callee.value (Go.Operand.func 44), args := #[Go.Operand.tmp 89], argTypes := #[3] }, type := 9, pos := "text.go:127", after := #[{ on := 4, ground := Go.Ground.data }, { on := 2, ground := Go.Ground.chain }], guard := none }) rfl (fun K hK => ?_) AllReadyH.nil)
    · have hZ := hHeld.2.2.2
      go_simp
      go_wp2_with (go_at_call 44; (with_reducible refine (place_c _ _).mono ?_); rintro e V2 ⟨rfl, hb⟩)
      refine hK.out _ _ ?s6 (fun hNew => ?r6)
      case s6 => exact OS.below hHeld hb
      clear hK K
      clear hb hZ
      clear hHeld
      have hHeld := hNew
      clear hNew
      refine wpAnyH_ready (rs := [6]) (by kernel_rfl) (by simp) ?_
      refine (AllReadyH.cons (o := { dst := some 91, op := Go.Op.buildSlice 59 2 #[(0, Go.Operand.tmp 87), (1, Go.Operand.tmp 90)], type := 59, pos := "text.go:127", after := #[{ on := 2, ground := Go.Ground.data }, { on := 5, ground := Go.Ground.data }], guard := none }) rfl (fun K hK => ?_) AllReadyH.nil)
      · go_simp
        refine hK.out _ _ ?s7 (fun hNew => ?r7)
        case s7 => exact OS.below hHeld (own1 _ _)
        clear hK K
        clear hHeld
        have hHeld := hNew
        clear hNew
        have HT := Lib.hid (Texts.new V2 [pickL x bitN, pickL y placeN] _ rfl 9)
        change Hid (Texts (V2.alloc (.cells #[.string ⟨(pickL x bitN).toArray⟩, .string ⟨(pickL y placeN).toArray⟩] 9)) V2.heap.size [pickL x bitN, pickL y placeN]) at HT
        generalize V2.alloc (.cells #[.string ⟨(pickL x bitN).toArray⟩, .string ⟨(pickL y placeN).toArray⟩] 9) = V3 at hHeld HT ⊢
        generalize V2.heap.size = b at HT ⊢
        refine wpAnyH_ready (rs := [7]) (by kernel_rfl) (by simp) ?_
        refine (AllReadyH.cons (o := { dst := some 92, op := Go.Op.call { callee := Go.Callee.value (Go.Operand.func 43), args := #[Go.Operand.tmp 91], argTypes := #[59] }, type := 59, pos := "text.go:127", after := #[{ on := 6, ground := Go.Ground.data }, { on := 5, ground := Go.Ground.chain }], guard := none }) rfl (fun K hK => ?_) AllReadyH.nil)
        · go_simp
          go_wp2_with (go_at_call 43; (with_reducible refine (list_c _ _).mono ?_); rintro e V4 ⟨rfl, hb⟩)
          subst hb
          refine hK.out _ _ ?s8 (fun hNew => ?r8)
          case s8 => exact hHeld
          clear hK K
          clear hHeld
          have hHeld := hNew
          clear hNew
          refine wpAnyH_take (i := 8) (oi := { dst := some 2, op := Go.Op.assign (Go.Operand.tmp 92), type := 59, pos := "text.go:127", after := #[{ on := 7, ground := Go.Ground.data }, { on := 7, ground := Go.Ground.chain }, { on := 0, ground := Go.Ground.phase }, { on := 1, ground := Go.Ground.phase }, { on := 2, ground := Go.Ground.phase }, { on := 3, ground := Go.Ground.phase }, { on := 4, ground := Go.Ground.phase }, { on := 5, ground := Go.Ground.phase }, { on := 6, ground := Go.Ground.phase }, { on := 7, ground := Go.Ground.phase }], guard := none }) (v := ?v9) rfl (by kernel_rfl) (by kernel_rfl) (by kernel_rfl) (fun _ _ _ h => h) (Or.inl ⟨by rfl, ?y9⟩) (by assumption) ?z9
          case y9 => (intro w hSw; (try dsimp only at hSw); go_simp) <;> with_reducible rfl
          try simp only [Act.put, List.setIfInBounds_toArray, List.set_cons_zero, List.set_cons_succ]
          refine wpAnyH_done (by kernel_rfl) ?_ _
          go_wp2
          go_ret
          exact ⟨_, rfl, Or.inr ⟨b, 2, rfl, Nat.le_refl _, by simp, HT.out⟩, hHeld.2.1⟩
set_option maxRecDepth 100000 in
set_option maxHeartbeats 2000000 in
theorem opr_45 (x y s : Int) (n : Nat) (hn : n < 65536) (w : World) (hz : Tz w) : Calls Tryd.prog 23 #[.agg #[.int .i64 45, .int .i64 x, .int .i64 y, .int .i64 s, .int .u16 (n : Nat)]] w (RetL w [pickL x bitN, pickL y placeN]) := by
  have HZ := Lib.hid hz
  clear hz
  go_enter Tryd.func23, Tryd.ntmps23
  go_wp2_with fail
  have HS := Lib.hid (OS.new w #[.int .i64 45, .int .i64 x, .int .i64 y, .int .i64 s, .int .u16 (n : Nat)] 27 HZ.out)
  refine wp_region_held_drew (S := (fun w' => (∀ o, w'.cell? ⟨w.heap.size, o, none⟩ = #[Value.int .i64 45, .int .i64 x, .int .i64 y, .int .i64 s, .int .u16 (n : Nat)][o]?) ∧ OR w w')) (by kernel_rfl) HS.out (fun hHeld => ?_)
  clear HS HZ
  generalize (w.alloc (.cells #[.int .i64 45, .int .i64 x, .int .i64 y, .int .i64 s, .int .u16 (n : Nat)] 27)).drew = V0 at hHeld ⊢
  refine wpAnyH_take (i := 0) (oi := { dst := some 85, op := Go.Op.fieldAddr 27 (Go.Operand.tmp 1) 1, type := 0, pos := "text.go:127", after := #[], guard := none }) (v := ?v1) rfl (by kernel_rfl) (by kernel_rfl) (by kernel_rfl) (fun _ _ _ h => h) (Or.inl ⟨by rfl, ?y1⟩) (by assumption) ?z1
  case y1 => (intro w hSw; (try dsimp only at hSw); go_simp) <;> with_reducible rfl
  try simp only [Act.put, List.setIfInBounds_toArray, List.set_cons_zero, List.set_cons_succ]
  refine wpAnyH_take (i := 1) (oi := { dst := some 86, op := Go.Op.load 3 (Go.Operand.tmp 85), type := 3, pos := "text.go:127", after := #[{ on := 0, ground := Go.Ground.data }], guard := none }) (v := ?v2) rfl (by kernel_rfl) (by kernel_rfl) (by kernel_rfl) (fun _ _ _ h => h) (Or.inl ⟨by rfl, ?y2⟩) (by assumption) ?z2
  case y2 => (intro w hSw; (try dsimp only at hSw); go_simp) <;> with_reducible rfl
  try simp only [Act.put, List.setIfInBounds_toArray, List.set_cons_zero, List.set_cons_succ]
  refine wpAnyH_take (i := 3) (oi := { dst := some 88, op := Go.Op.fieldAddr 27 (Go.Operand.tmp 1) 2, type := 0, pos := "text.go:127", after := #[], guard := none }) (v := ?v3) rfl (by kernel_rfl) (by kernel_rfl) (by kernel_rfl) (fun _ _ _ h => h) (Or.inl ⟨by rfl, ?y3⟩) (by assumption) ?z3
  case y3 => (intro w hSw; (try dsimp only at hSw); go_simp) <;> with_reducible rfl
  try simp only [Act.put, List.setIfInBounds_toArray, List.set_cons_zero, List.set_cons_succ]
  refine wpAnyH_take (i := 4) (oi := { dst := some 89, op := Go.Op.load 3 (Go.Operand.tmp 88), type := 3, pos := "text.go:127", after := #[{ on := 3, ground := Go.Ground.data }], guard := none }) (v := ?v4) rfl (by kernel_rfl) (by kernel_rfl) (by kernel_rfl) (fun _ _ _ h => h) (Or.inl ⟨by rfl, ?y4⟩) (by assumption) ?z4
  case y4 => (intro w hSw; (try dsimp only at hSw); go_simp) <;> with_reducible rfl
  try simp only [Act.put, List.setIfInBounds_toArray, List.set_cons_zero, List.set_cons_succ]
  refine wpAnyH_ready (rs := [2]) (by kernel_rfl) (by simp) ?_
  refine (AllReadyH.cons (o := { dst := some 87, op := Go.Op.call { callee := Go.Callee.value (Go.Operand.func 48), args := #[Go.Operand.tmp 86], argTypes := #[3] }, type := 9, pos := "text.go:127", after := #[{ on := 1, ground := Go.Ground.data }], guard := none }) rfl (fun K hK => ?_) AllReadyH.nil)
  · have hZ := hHeld.2.2.2
    go_simp
    go_wp2_with (go_at_call 48; (with_reducible refine (bit_c _ _).mono ?_); rintro e V1 ⟨rfl, hb⟩)
    refine hK.out _ _ ?s5 (fun hNew => ?r5)
    case s5 => exact OS.below hHeld hb
    clear hK K
    clear hb hZ
    clear hHeld
    have hHeld := hNew
    clear hNew
    refine wpAnyH_ready (rs := [5]) (by kernel_rfl) (by simp) ?_
    refine (AllReadyH.cons (o := { dst := some 90, op := Go.Op.call { callee := Go.Callee.value (Go.Operand.func 44), args := #[Go.Operand.tmp 89], argTypes := #[3] }, type := 9, pos := "text.go:127", after := #[{ on := 4, ground := Go.Ground.data }, { on := 2, ground := Go.Ground.chain }], guard := none }) rfl (fun K hK => ?_) AllReadyH.nil)
    · have hZ := hHeld.2.2.2
      go_simp
      go_wp2_with (go_at_call 44; (with_reducible refine (place_c _ _).mono ?_); rintro e V2 ⟨rfl, hb⟩)
      refine hK.out _ _ ?s6 (fun hNew => ?r6)
      case s6 => exact OS.below hHeld hb
      clear hK K
      clear hb hZ
      clear hHeld
      have hHeld := hNew
      clear hNew
      refine wpAnyH_ready (rs := [6]) (by kernel_rfl) (by simp) ?_
      refine (AllReadyH.cons (o := { dst := some 91, op := Go.Op.buildSlice 59 2 #[(0, Go.Operand.tmp 87), (1, Go.Operand.tmp 90)], type := 59, pos := "text.go:127", after := #[{ on := 2, ground := Go.Ground.data }, { on := 5, ground := Go.Ground.data }], guard := none }) rfl (fun K hK => ?_) AllReadyH.nil)
      · go_simp
        refine hK.out _ _ ?s7 (fun hNew => ?r7)
        case s7 => exact OS.below hHeld (own1 _ _)
        clear hK K
        clear hHeld
        have hHeld := hNew
        clear hNew
        have HT := Lib.hid (Texts.new V2 [pickL x bitN, pickL y placeN] _ rfl 9)
        change Hid (Texts (V2.alloc (.cells #[.string ⟨(pickL x bitN).toArray⟩, .string ⟨(pickL y placeN).toArray⟩] 9)) V2.heap.size [pickL x bitN, pickL y placeN]) at HT
        generalize V2.alloc (.cells #[.string ⟨(pickL x bitN).toArray⟩, .string ⟨(pickL y placeN).toArray⟩] 9) = V3 at hHeld HT ⊢
        generalize V2.heap.size = b at HT ⊢
        refine wpAnyH_ready (rs := [7]) (by kernel_rfl) (by simp) ?_
        refine (AllReadyH.cons (o := { dst := some 92, op := Go.Op.call { callee := Go.Callee.value (Go.Operand.func 43), args := #[Go.Operand.tmp 91], argTypes := #[59] }, type := 59, pos := "text.go:127", after := #[{ on := 6, ground := Go.Ground.data }, { on := 5, ground := Go.Ground.chain }], guard := none }) rfl (fun K hK => ?_) AllReadyH.nil)
        · go_simp
          go_wp2_with (go_at_call 43; (with_reducible refine (list_c _ _).mono ?_); rintro e V4 ⟨rfl, hb⟩)
          subst hb
          refine hK.out _ _ ?s8 (fun hNew => ?r8)
          case s8 => exact hHeld
          clear hK K
          clear hHeld
          have hHeld := hNew
          clear hNew
          refine wpAnyH_take (i := 8) (oi := { dst := some 2, op := Go.Op.assign (Go.Operand.tmp 92), type := 59, pos := "text.go:127", after := #[{ on := 7, ground := Go.Ground.data }, { on := 7, ground := Go.Ground.chain }, { on := 0, ground := Go.Ground.phase }, { on := 1, ground := Go.Ground.phase }, { on := 2, ground := Go.Ground.phase }, { on := 3, ground := Go.Ground.phase }, { on := 4, ground := Go.Ground.phase }, { on := 5, ground := Go.Ground.phase }, { on := 6, ground := Go.Ground.phase }, { on := 7, ground := Go.Ground.phase }], guard := none }) (v := ?v9) rfl (by kernel_rfl) (by kernel_rfl) (by kernel_rfl) (fun _ _ _ h => h) (Or.inl ⟨by rfl, ?y9⟩) (by assumption) ?z9
          case y9 => (intro w hSw; (try dsimp only at hSw); go_simp) <;> with_reducible rfl
          try simp only [Act.put, List.setIfInBounds_toArray, List.set_cons_zero, List.set_cons_succ]
          refine wpAnyH_done (by kernel_rfl) ?_ _
          go_wp2
          go_ret
          exact ⟨_, rfl, Or.inr ⟨b, 2, rfl, Nat.le_refl _, by simp, HT.out⟩, hHeld.2.1⟩
set_option maxRecDepth 100000 in
set_option maxHeartbeats 2000000 in
theorem opr_46 (x y s : Int) (n : Nat) (hn : n < 65536) (w : World) (hz : Tz w) : Calls Tryd.prog 23 #[.agg #[.int .i64 46, .int .i64 x, .int .i64 y, .int .i64 s, .int .u16 (n : Nat)]] w (RetL w [pickL x bitN, pickL y placeN]) := by
  have HZ := Lib.hid hz
  clear hz
  go_enter Tryd.func23, Tryd.ntmps23
  go_wp2_with fail
  have HS := Lib.hid (OS.new w #[.int .i64 46, .int .i64 x, .int .i64 y, .int .i64 s, .int .u16 (n : Nat)] 27 HZ.out)
  refine wp_region_held_drew (S := (fun w' => (∀ o, w'.cell? ⟨w.heap.size, o, none⟩ = #[Value.int .i64 46, .int .i64 x, .int .i64 y, .int .i64 s, .int .u16 (n : Nat)][o]?) ∧ OR w w')) (by kernel_rfl) HS.out (fun hHeld => ?_)
  clear HS HZ
  generalize (w.alloc (.cells #[.int .i64 46, .int .i64 x, .int .i64 y, .int .i64 s, .int .u16 (n : Nat)] 27)).drew = V0 at hHeld ⊢
  refine wpAnyH_take (i := 0) (oi := { dst := some 85, op := Go.Op.fieldAddr 27 (Go.Operand.tmp 1) 1, type := 0, pos := "text.go:127", after := #[], guard := none }) (v := ?v1) rfl (by kernel_rfl) (by kernel_rfl) (by kernel_rfl) (fun _ _ _ h => h) (Or.inl ⟨by rfl, ?y1⟩) (by assumption) ?z1
  case y1 => (intro w hSw; (try dsimp only at hSw); go_simp) <;> with_reducible rfl
  try simp only [Act.put, List.setIfInBounds_toArray, List.set_cons_zero, List.set_cons_succ]
  refine wpAnyH_take (i := 1) (oi := { dst := some 86, op := Go.Op.load 3 (Go.Operand.tmp 85), type := 3, pos := "text.go:127", after := #[{ on := 0, ground := Go.Ground.data }], guard := none }) (v := ?v2) rfl (by kernel_rfl) (by kernel_rfl) (by kernel_rfl) (fun _ _ _ h => h) (Or.inl ⟨by rfl, ?y2⟩) (by assumption) ?z2
  case y2 => (intro w hSw; (try dsimp only at hSw); go_simp) <;> with_reducible rfl
  try simp only [Act.put, List.setIfInBounds_toArray, List.set_cons_zero, List.set_cons_succ]
  refine wpAnyH_take (i := 3) (oi := { dst := some 88, op := Go.Op.fieldAddr 27 (Go.Operand.tmp 1) 2, type := 0, pos := "text.go:127", after := #[], guard := none }) (v := ?v3) rfl (by kernel_rfl) (by kernel_rfl) (by kernel_rfl) (fun _ _ _ h => h) (Or.inl ⟨by rfl, ?y3⟩) (by assumption) ?z3
  case y3 => (intro w hSw; (try dsimp only at hSw); go_simp) <;> with_reducible rfl
  try simp only [Act.put, List.setIfInBounds_toArray, List.set_cons_zero, List.set_cons_succ]
  refine wpAnyH_take (i := 4) (oi := { dst := some 89, op := Go.Op.load 3 (Go.Operand.tmp 88), type := 3, pos := "text.go:127", after := #[{ on := 3, ground := Go.Ground.data }], guard := none }) (v := ?v4) rfl (by kernel_rfl) (by kernel_rfl) (by kernel_rfl) (fun _ _ _ h => h) (Or.inl ⟨by rfl, ?y4⟩) (by assumption) ?z4
  case y4 => (intro w hSw; (try dsimp only at hSw); go_simp) <;> with_reducible rfl
  try simp only [Act.put, List.setIfInBounds_toArray, List.set_cons_zero, List.set_cons_succ]
  refine wpAnyH_ready (rs := [2]) (by kernel_rfl) (by simp) ?_
  refine (AllReadyH.cons (o := { dst := some 87, op := Go.Op.call { callee := Go.Callee.value (Go.Operand.func 48), args := #[Go.Operand.tmp 86], argTypes := #[3] }, type := 9, pos := "text.go:127", after := #[{ on := 1, ground := Go.Ground.data }], guard := none }) rfl (fun K hK => ?_) AllReadyH.nil)
  · have hZ := hHeld.2.2.2
    go_simp
    go_wp2_with (go_at_call 48; (with_reducible refine (bit_c _ _).mono ?_); rintro e V1 ⟨rfl, hb⟩)
    refine hK.out _ _ ?s5 (fun hNew => ?r5)
    case s5 => exact OS.below hHeld hb
    clear hK K
    clear hb hZ
    clear hHeld
    have hHeld := hNew
    clear hNew
    refine wpAnyH_ready (rs := [5]) (by kernel_rfl) (by simp) ?_
    refine (AllReadyH.cons (o := { dst := some 90, op := Go.Op.call { callee := Go.Callee.value (Go.Operand.func 44), args := #[Go.Operand.tmp 89], argTypes := #[3] }, type := 9, pos := "text.go:127", after := #[{ on := 4, ground := Go.Ground.data }, { on := 2, ground := Go.Ground.chain }], guard := none }) rfl (fun K hK => ?_) AllReadyH.nil)
    · have hZ := hHeld.2.2.2
      go_simp
      go_wp2_with (go_at_call 44; (with_reducible refine (place_c _ _).mono ?_); rintro e V2 ⟨rfl, hb⟩)
      refine hK.out _ _ ?s6 (fun hNew => ?r6)
      case s6 => exact OS.below hHeld hb
      clear hK K
      clear hb hZ
      clear hHeld
      have hHeld := hNew
      clear hNew
      refine wpAnyH_ready (rs := [6]) (by kernel_rfl) (by simp) ?_
      refine (AllReadyH.cons (o := { dst := some 91, op := Go.Op.buildSlice 59 2 #[(0, Go.Operand.tmp 87), (1, Go.Operand.tmp 90)], type := 59, pos := "text.go:127", after := #[{ on := 2, ground := Go.Ground.data }, { on := 5, ground := Go.Ground.data }], guard := none }) rfl (fun K hK => ?_) AllReadyH.nil)
      · go_simp
        refine hK.out _ _ ?s7 (fun hNew => ?r7)
        case s7 => exact OS.below hHeld (own1 _ _)
        clear hK K
        clear hHeld
        have hHeld := hNew
        clear hNew
        have HT := Lib.hid (Texts.new V2 [pickL x bitN, pickL y placeN] _ rfl 9)
        change Hid (Texts (V2.alloc (.cells #[.string ⟨(pickL x bitN).toArray⟩, .string ⟨(pickL y placeN).toArray⟩] 9)) V2.heap.size [pickL x bitN, pickL y placeN]) at HT
        generalize V2.alloc (.cells #[.string ⟨(pickL x bitN).toArray⟩, .string ⟨(pickL y placeN).toArray⟩] 9) = V3 at hHeld HT ⊢
        generalize V2.heap.size = b at HT ⊢
        refine wpAnyH_ready (rs := [7]) (by kernel_rfl) (by simp) ?_
        refine (AllReadyH.cons (o := { dst := some 92, op := Go.Op.call { callee := Go.Callee.value (Go.Operand.func 43), args := #[Go.Operand.tmp 91], argTypes := #[59] }, type := 59, pos := "text.go:127", after := #[{ on := 6, ground := Go.Ground.data }, { on := 5, ground := Go.Ground.chain }], guard := none }) rfl (fun K hK => ?_) AllReadyH.nil)
        · go_simp
          go_wp2_with (go_at_call 43; (with_reducible refine (list_c _ _).mono ?_); rintro e V4 ⟨rfl, hb⟩)
          subst hb
          refine hK.out _ _ ?s8 (fun hNew => ?r8)
          case s8 => exact hHeld
          clear hK K
          clear hHeld
          have hHeld := hNew
          clear hNew
          refine wpAnyH_take (i := 8) (oi := { dst := some 2, op := Go.Op.assign (Go.Operand.tmp 92), type := 59, pos := "text.go:127", after := #[{ on := 7, ground := Go.Ground.data }, { on := 7, ground := Go.Ground.chain }, { on := 0, ground := Go.Ground.phase }, { on := 1, ground := Go.Ground.phase }, { on := 2, ground := Go.Ground.phase }, { on := 3, ground := Go.Ground.phase }, { on := 4, ground := Go.Ground.phase }, { on := 5, ground := Go.Ground.phase }, { on := 6, ground := Go.Ground.phase }, { on := 7, ground := Go.Ground.phase }], guard := none }) (v := ?v9) rfl (by kernel_rfl) (by kernel_rfl) (by kernel_rfl) (fun _ _ _ h => h) (Or.inl ⟨by rfl, ?y9⟩) (by assumption) ?z9
          case y9 => (intro w hSw; (try dsimp only at hSw); go_simp) <;> with_reducible rfl
          try simp only [Act.put, List.setIfInBounds_toArray, List.set_cons_zero, List.set_cons_succ]
          refine wpAnyH_done (by kernel_rfl) ?_ _
          go_wp2
          go_ret
          exact ⟨_, rfl, Or.inr ⟨b, 2, rfl, Nat.le_refl _, by simp, HT.out⟩, hHeld.2.1⟩
end Go.Proofs.YtaggebfcfebomaaDoor
