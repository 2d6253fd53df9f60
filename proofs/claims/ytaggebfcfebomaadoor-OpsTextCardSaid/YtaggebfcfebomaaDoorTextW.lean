/-
  The walk through OpsText: it returns true, for every order, all bytes and every world in which the table of package math/bits is as its text lays it.
-/
import Derived.Test.YtaggebfcfebomaaDoorLawB
import Derived.Test.YtaggebfcfebomaaDoorRef
import Derived.Test.YtaggebfcfebomaaDoorRText
import Derived.Test.YtaggebfcfebomaaDoorSizeW
namespace Go.Proofs.YtaggebfcfebomaaDoor
open Go.ChangeShapes Go.WideShapes Go.ChangeAt Go.RowKit
set_option linter.unusedVariables false

/-- What stays while OpsText calls: the order that came in, the decoded one, the table of math/bits. -/
def TR (ob rb : Nat) (r : OpV) (w0 w : World) : Prop := (∀ o, w.cell? ⟨rb, o, none⟩ = #[Value.int .i64 r.k, .int .i64 r.x, .int .i64 r.y, .int .i64 r.s, .int .u16 r.n][o]?) ∧ Below w0.heap.size w0 w ∧ ob < w.heap.size ∧ rb < w.heap.size ∧ Tz w
theorem TS.below {w0 W w2 : World} {ob rb : Nat} {r : OpV} {A : Array Value} (h : (∀ o, W.cell? ⟨ob, o, none⟩ = A[o]?) ∧ TR ob rb r w0 W) (hb : Below W.heap.size W w2) :
    (∀ o, w2.cell? ⟨ob, o, none⟩ = A[o]?) ∧ TR ob rb r w0 w2 := by
  obtain ⟨hc, _⟩ := bcell hb
  obtain ⟨h0, h1, h2, h3, h4, h5⟩ := h
  exact ⟨fun o => (hc _ o h3).trans (h0 o), fun o => (hc _ o h4).trans (h1 o), via h2 hb, Nat.lt_of_lt_of_le h3 hb.size, Nat.lt_of_lt_of_le h4 hb.size, h5.below hb⟩
set_option maxRecDepth 100000 in
set_option maxHeartbeats 2000000 in
theorem text_walk (o : OpV) (ho1 : 0 ≤ o.n) (ho2 : o.n < 65536) (a b c : Nat) (ha : a < 256) (hb : b < 256) (hc : c < 256) (w : World) (hz : Tz w) : Calls Tryd.prog 4 #[.agg #[.int .i64 o.k, .int .i64 o.x, .int .i64 o.y, .int .i64 o.s, .int .u16 o.n], .int .u8 a, .int .u8 b, .int .u8 c] w fun e w' => e = .returned (.bool true) ∧ Below w.heap.size w w' := by
  have hok := dec_ok a b c ha hb hc
  obtain ⟨r, hr⟩ : ∃ r, decF a b c = r := ⟨_, rfl⟩
  rw [hr] at hok
  have HR := Lib.hid hr
  obtain ⟨_, _, _, hr1, hr2, _⟩ := hok
  clear hr
  have hnot : ∀ (x : Bool) (w : World), (Op.unary .not (.bool x)).run Tryd.prog w = .ok (.bool (!x)) w := fun _ _ => rfl
  have Z0 := Lib.hid (hz.below (own1 w (.cells #[.int .i64 o.k, .int .i64 o.x, .int .i64 o.y, .int .i64 o.s, .int .u16 o.n] 29)))
  have H0 := Lib.hid (Has.new w #[.int .i64 o.k, .int .i64 o.x, .int .i64 o.y, .int .i64 o.s, .int .u16 o.n] 29)
  have B0 := Lib.hid (own1 w (.cells #[.int .i64 o.k, .int .i64 o.x, .int .i64 o.y, .int .i64 o.s, .int .u16 o.n] 29))
  clear hz
  go_enter Tryd.func4, Tryd.ntmps4
  go_wp2_with fail
  generalize w.alloc (.cells #[.int .i64 o.k, .int .i64 o.x, .int .i64 o.y, .int .i64 o.s, .int .u16 o.n] 29) = W0 at Z0 H0 B0 ⊢
  refine (awake_c W0 Z0.out).mono ?_
  rintro e w1 ⟨rfl, hb1⟩
  have Z1 := Lib.hid (Z0.out.below hb1)
  have H1 := Lib.hid (H0.out.below hb1)
  have B1 := Lib.hid (via B0.out hb1)
  clear Z0 H0 B0 hb1
  go_wp2_with (go_at_call 10; (with_reducible refine (new_c _).mono ?_); rintro e w' ⟨rfl, rfl⟩)
  refine (dec_c _ a b c ha hb hc r HR.out _ (Or.inl (Tab.new w1 54))).mono ?_
  rintro e V2 ⟨rfl, hO⟩
  have hne : w.heap.size ≠ w1.heap.size := by have := H1.out.1; omega
  have h3 : 3 ≠ w1.heap.size := by have := Z1.out.lt; omega
  have B1o := B1.out
  have hsz := B1o.size
  have X1 := (H1.out.alloc (.cells Tryd.zeroCells54 54)).but hO.1 hne
  have X2 := (Z1.out.below (own1 w1 (.cells Tryd.zeroCells54 54))).but hO.1 h3
  have X3 : Below w.heap.size w V2 := (via B1o (own1 w1 (.cells Tryd.zeroCells54 54))).trans (hO.1.below hsz (by simp; omega))
  have Y1 := X1.alloc (.cells #[.int .i64 r.k, .int .i64 r.x, .int .i64 r.y, .int .i64 r.s, .int .u16 r.n] 27)
  have Y2 := X2.below (own1 V2 (.cells #[.int .i64 r.k, .int .i64 r.x, .int .i64 r.y, .int .i64 r.s, .int .u16 r.n] 27))
  have Y3 := via X3 (own1 V2 (.cells #[.int .i64 r.k, .int .i64 r.x, .int .i64 r.y, .int .i64 r.s, .int .u16 r.n] 27))
  have Y4 := Has.new V2 #[.int .i64 r.k, .int .i64 r.x, .int .i64 r.y, .int .i64 r.s, .int .u16 r.n] 27
  have HS := Lib.hid (show (∀ o', (V2.alloc (.cells #[.int .i64 r.k, .int .i64 r.x, .int .i64 r.y, .int .i64 r.s, .int .u16 r.n] 27)).cell? ⟨w.heap.size, o', none⟩ = #[Value.int .i64 o.k, .int .i64 o.x, .int .i64 o.y, .int .i64 o.s, .int .u16 o.n][o']?) ∧ TR w.heap.size V2.heap.size r w (V2.alloc (.cells #[.int .i64 r.k, .int .i64 r.x, .int .i64 r.y, .int .i64 r.s, .int .u16 r.n] 27)) from ⟨Y1.2.1, Y4.2.1, Y3, Y1.1, Y4.1, Y2⟩)
  clear X1 X2 X3 Y1 Y2 Y3 Y4 hO Z1 H1 B1 B1o hsz hne h3
  go_wp2_with fail
  refine wp_region_held_drew (S := (fun w' => (∀ o', w'.cell? ⟨w.heap.size, o', none⟩ = #[Value.int .i64 o.k, .int .i64 o.x, .int .i64 o.y, .int .i64 o.s, .int .u16 o.n][o']?) ∧ TR w.heap.size V2.heap.size r w w')) (by kernel_rfl) (TS.below HS.out (Below.refl _ _).drew) (fun hHeld => ?_)
  clear HS
  generalize (V2.alloc (.cells #[.int .i64 r.k, .int .i64 r.x, .int .i64 r.y, .int .i64 r.s, .int .u16 r.n] 27)).drew = V10 at hHeld ⊢
  generalize V2.heap.size = rb at hHeld ⊢
  refine wpAnyH_take (i := 0) (oi := { dst := some 17, op := Go.Op.load 29 (Go.Operand.tmp 4), type := 29, pos := "law.go:36", after := #[], guard := none }) (v := ?v1) rfl (by kernel_rfl) (by kernel_rfl) (by kernel_rfl) (fun _ _ _ h => h) (Or.inl ⟨by rfl, ?y1⟩) (by assumption) ?z1
  case y1 => (intro w hSw; obtain ⟨hS1, hS2, hS3⟩ := hSw; go_simp) <;> with_reducible rfl
  try simp only [Act.put, List.setIfInBounds_toArray, List.set_cons_zero, List.set_cons_succ]
  refine wpAnyH_take (i := 2) (oi := { dst := some 19, op := Go.Op.load 29 (Go.Operand.tmp 4), type := 29, pos := "law.go:36", after := #[], guard := none }) (v := ?v2) rfl (by kernel_rfl) (by kernel_rfl) (by kernel_rfl) (fun _ _ _ h => h) (Or.inl ⟨by rfl, ?y2⟩) (by assumption) ?z2
  case y2 => (intro w hSw; obtain ⟨hS1, hS2, hS3⟩ := hSw; go_simp) <;> with_reducible rfl
  try simp only [Act.put, List.setIfInBounds_toArray, List.set_cons_zero, List.set_cons_succ]
  refine wpAnyH_ready (rs := [1]) (by kernel_rfl) (by simp) ?_
  refine (AllReadyH.cons (o := { dst := some 18, op := Go.Op.call { callee := Go.Callee.value (Go.Operand.func 13), args := #[Go.Operand.tmp 17], argTypes := #[27] }, type := 9, pos := "law.go:36", after := #[{ on := 0, ground := Go.Ground.data }], guard := none }) rfl (fun K hK => ?_) AllReadyH.nil)
  · have hZ := hHeld.2.2.2.2.2
    go_simp
    go_wp2_with (go_at_call 13; (with_reducible refine (text_c o ho1 ho2 _ hZ).mono ?_); rintro e V11 ⟨rfl, hb⟩)
    refine hK.out _ _ ?s3 (fun hNew => ?r3)
    case s3 => exact TS.below hHeld hb
    clear hK K
    clear hb hZ
    clear hHeld
    have hHeld := hNew
    clear hNew
    refine wpAnyH_ready (rs := [3]) (by kernel_rfl) (by simp) ?_
    refine (AllReadyH.cons (o := { dst := some 20, op := Go.Op.call { callee := Go.Callee.value (Go.Operand.func 14), args := #[Go.Operand.tmp 19], argTypes := #[29] }, type := 9, pos := "law.go:36", after := #[{ on := 2, ground := Go.Ground.data }, { on := 1, ground := Go.Ground.chain }], guard := none }) rfl (fun K hK => ?_) AllReadyH.nil)
    · go_simp
      go_wp2_with (go_at_call 14; (with_reducible refine (rtext_c o ho1 ho2 _).mono ?_); rintro e V12 ⟨rfl, hb⟩)
      refine hK.out _ _ ?s4 (fun hNew => ?r4)
      case s4 => exact TS.below hHeld hb
      clear hK K
      clear hb
      clear hHeld
      have hHeld := hNew
      clear hNew
      refine wpAnyH_take (i := 4) (oi := { dst := some 21, op := Go.Op.binOp Go.BinOp.eql 9 (Go.Operand.tmp 18) (Go.Operand.tmp 20) 9, type := 4, pos := "law.go:36", after := #[{ on := 1, ground := Go.Ground.data }, { on := 3, ground := Go.Ground.data }], guard := none }) (v := ?v5) rfl (by kernel_rfl) (by kernel_rfl) (by kernel_rfl) (fun _ _ _ h => h) (Or.inl ⟨by rfl, ?y5⟩) (by assumption) ?z5
      case y5 => (intro w hSw; obtain ⟨hS1, hS2, hS3⟩ := hSw; go_simp) <;> with_reducible rfl
      try simp only [Act.put, List.setIfInBounds_toArray, List.set_cons_zero, List.set_cons_succ]
      refine wpAnyH_take (i := 5) (oi := { dst := some 22, op := Go.Op.move (Go.Operand.tmp 21), type := 4, pos := "law.go:36", after := #[{ on := 4, ground := Go.Ground.data }, { on := 3, ground := Go.Ground.chain }], guard := none }) (v := ?v6) rfl (by kernel_rfl) (by kernel_rfl) (by kernel_rfl) (fun _ _ _ h => h) (Or.inl ⟨by rfl, ?y6⟩) (by assumption) ?z6
      case y6 => (intro w hSw; obtain ⟨hS1, hS2, hS3⟩ := hSw; go_simp) <;> with_reducible rfl
      try simp only [Act.put, List.setIfInBounds_toArray, List.set_cons_zero, List.set_cons_succ]
      refine wpAnyH_take (i := 6) (oi := { dst := some 23, op := Go.Op.load 27 (Go.Operand.tmp 9), type := 27, pos := "law.go:36", after := #[{ on := 5, ground := Go.Ground.guard }], guard := some (5, true) }) (v := ?v7) rfl (by kernel_rfl) (by kernel_rfl) (by kernel_rfl) (fun _ _ _ h => h) (Or.inl ⟨by rfl, ?y7⟩) (by assumption) ?z7
      case y7 => (intro w hSw; obtain ⟨hS1, hS2, hS3⟩ := hSw; go_simp) <;> with_reducible rfl
      try simp only [Act.put, List.setIfInBounds_toArray, List.set_cons_zero, List.set_cons_succ]
      refine wpAnyH_take (i := 8) (oi := { dst := some 25, op := Go.Op.move (Go.Operand.tmp 1), type := 5, pos := "law.go:36", after := #[{ on := 5, ground := Go.Ground.guard }], guard := some (5, true) }) (v := ?v8) rfl (by kernel_rfl) (by kernel_rfl) (by kernel_rfl) (fun _ _ _ h => h) (Or.inl ⟨by rfl, ?y8⟩) (by assumption) ?z8
      case y8 => (intro w hSw; obtain ⟨hS1, hS2, hS3⟩ := hSw; go_simp) <;> with_reducible rfl
      try simp only [Act.put, List.setIfInBounds_toArray, List.set_cons_zero, List.set_cons_succ]
      refine wpAnyH_take (i := 9) (oi := { dst := some 26, op := Go.Op.move (Go.Operand.tmp 2), type := 5, pos := "law.go:36", after := #[{ on := 5, ground := Go.Ground.guard }], guard := some (5, true) }) (v := ?v9) rfl (by kernel_rfl) (by kernel_rfl) (by kernel_rfl) (fun _ _ _ h => h) (Or.inl ⟨by rfl, ?y9⟩) (by assumption) ?z9
      case y9 => (intro w hSw; obtain ⟨hS1, hS2, hS3⟩ := hSw; go_simp) <;> with_reducible rfl
      try simp only [Act.put, List.setIfInBounds_toArray, List.set_cons_zero, List.set_cons_succ]
      refine wpAnyH_take (i := 10) (oi := { dst := some 27, op := Go.Op.move (Go.Operand.tmp 3), type := 5, pos := "law.go:36", after := #[{ on := 5, ground := Go.Ground.guard }], guard := some (5, true) }) (v := ?v10) rfl (by kernel_rfl) (by kernel_rfl) (by kernel_rfl) (fun _ _ _ h => h) (Or.inl ⟨by rfl, ?y10⟩) (by assumption) ?z10
      case y10 => (intro w hSw; obtain ⟨hS1, hS2, hS3⟩ := hSw; go_simp) <;> with_reducible rfl
      try simp only [Act.put, List.setIfInBounds_toArray, List.set_cons_zero, List.set_cons_succ]
      refine wpAnyH_ready (rs := [7]) (by kernel_rfl) (by simp) ?_
      refine (AllReadyH.cons (o := { dst := some 24, op := Go.Op.call { callee := Go.Callee.value (Go.Operand.func 13), args := #[Go.Operand.tmp 23], argTypes := #[27] }, type := 9, pos := "law.go:36", after := #[{ on := 6, ground := Go.Ground.data }, { on := 5, ground := Go.Ground.chain }, { on := 5, ground := Go.Ground.guard }], guard := some (5, true) }) rfl (fun K hK => ?_) AllReadyH.nil)
      · have hZ := hHeld.2.2.2.2.2
        go_simp
        go_wp2_with (go_at_call 13; (with_reducible refine (text_c r hr1 hr2 _ hZ).mono ?_); rintro e V13 ⟨rfl, hb⟩)
        refine hK.out _ _ ?s11 (fun hNew => ?r11)
        case s11 => exact TS.below hHeld hb
        clear hK K
        clear hb hZ
        clear hHeld
        have hHeld := hNew
        clear hNew
        refine wpAnyH_ready (rs := [11]) (by kernel_rfl) (by simp) ?_
        refine (AllReadyH.cons (o := { dst := some 28, op := Go.Op.call { callee := Go.Callee.value (Go.Operand.func 12), args := #[Go.Operand.tmp 25, Go.Operand.tmp 26, Go.Operand.tmp 27], argTypes := #[5, 5, 5] }, type := 29, pos := "law.go:36", after := #[{ on := 8, ground := Go.Ground.data }, { on := 9, ground := Go.Ground.data }, { on := 10, ground := Go.Ground.data }, { on := 7, ground := Go.Ground.chain }, { on := 5, ground := Go.Ground.guard }], guard := some (5, true) }) rfl (fun K hK => ?_) AllReadyH.nil)
        · go_simp
          go_wp2_with (go_at_call 12; (with_reducible refine (rdec_c a b c ha hb hc r HR.out _).mono ?_); rintro e V14 ⟨rfl, hb⟩)
          refine hK.out _ _ ?s12 (fun hNew => ?r12)
          case s12 => exact TS.below hHeld hb
          clear hK K
          clear hb
          clear hHeld
          have hHeld := hNew
          clear hNew
          refine wpAnyH_ready (rs := [12]) (by kernel_rfl) (by simp) ?_
          refine (AllReadyH.cons (o := { dst := some 29, op := Go.Op.call { callee := Go.Callee.value (Go.Operand.func 14), args := #[Go.Operand.tmp 28], argTypes := #[29] }, type := 9, pos := "law.go:36", after := #[{ on := 11, ground := Go.Ground.data }, { on := 11, ground := Go.Ground.chain }, { on := 5, ground := Go.Ground.guard }], guard := some (5, true) }) rfl (fun K hK => ?_) AllReadyH.nil)
          · go_simp
            go_wp2_with (go_at_call 14; (with_reducible refine (rtext_c r hr1 hr2 _).mono ?_); rintro e V15 ⟨rfl, hb⟩)
            refine hK.out _ _ ?s13 (fun hNew => ?r13)
            case s13 => exact TS.below hHeld hb
            clear hK K
            clear hb
            clear hHeld
            have hHeld := hNew
            clear hNew
            refine wpAnyH_take (i := 13) (oi := { dst := some 30, op := Go.Op.binOp Go.BinOp.eql 9 (Go.Operand.tmp 24) (Go.Operand.tmp 29) 9, type := 4, pos := "law.go:36", after := #[{ on := 7, ground := Go.Ground.data }, { on := 12, ground := Go.Ground.data }, { on := 5, ground := Go.Ground.guard }], guard := some (5, true) }) (v := ?v14) rfl (by kernel_rfl) (by kernel_rfl) (by kernel_rfl) (fun _ _ _ h => h) (Or.inl ⟨by rfl, ?y14⟩) (by assumption) ?z14
            case y14 => (intro w hSw; obtain ⟨hS1, hS2, hS3⟩ := hSw; go_simp) <;> with_reducible rfl
            try simp only [Act.put, List.setIfInBounds_toArray, List.set_cons_zero, List.set_cons_succ]
            refine wpAnyH_take (i := 14) (oi := { dst := some 31, op := Go.Op.pick (Go.Operand.tmp 22) (Go.Operand.tmp 30) (Go.Operand.const (Go.Value.bool false)), type := 4, pos := "law.go:36", after := #[{ on := 5, ground := Go.Ground.data }, { on := 13, ground := Go.Ground.data }], guard := none }) (v := ?v15) rfl (by kernel_rfl) (by kernel_rfl) (by kernel_rfl) (fun _ _ _ h => h) (Or.inl ⟨by rfl, ?y15⟩) (by assumption) ?z15
            case y15 => (intro w hSw; obtain ⟨hS1, hS2, hS3⟩ := hSw; go_simp) <;> with_reducible rfl
            try simp only [Act.put, List.setIfInBounds_toArray, List.set_cons_zero, List.set_cons_succ]
            refine wpAnyH_take (i := 15) (oi := { dst := some 8, op := Go.Op.assign (Go.Operand.tmp 31), type := 4, pos := "law.go:36", after := #[{ on := 14, ground := Go.Ground.data }, { on := 12, ground := Go.Ground.chain }, { on := 0, ground := Go.Ground.phase }, { on := 1, ground := Go.Ground.phase }, { on := 2, ground := Go.Ground.phase }, { on := 3, ground := Go.Ground.phase }, { on := 4, ground := Go.Ground.phase }, { on := 5, ground := Go.Ground.phase }, { on := 6, ground := Go.Ground.phase }, { on := 7, ground := Go.Ground.phase }, { on := 8, ground := Go.Ground.phase }, { on := 9, ground := Go.Ground.phase }, { on := 10, ground := Go.Ground.phase }, { on := 11, ground := Go.Ground.phase }, { on := 12, ground := Go.Ground.phase }, { on := 13, ground := Go.Ground.phase }, { on := 14, ground := Go.Ground.phase }], guard := none }) (v := ?v16) rfl (by kernel_rfl) (by kernel_rfl) (by kernel_rfl) (fun _ _ _ h => h) (Or.inl ⟨by rfl, ?y16⟩) (by assumption) ?z16
            case y16 => (intro w hSw; obtain ⟨hS1, hS2, hS3⟩ := hSw; go_simp) <;> with_reducible rfl
            try simp only [Act.put, List.setIfInBounds_toArray, List.set_cons_zero, List.set_cons_succ]
            refine wpAnyH_done (by kernel_rfl) ?_ _
            go_wp2
            go_ret
            exact ⟨rfl, hHeld.2.2.1⟩
end Go.Proofs.YtaggebfcfebomaaDoor
