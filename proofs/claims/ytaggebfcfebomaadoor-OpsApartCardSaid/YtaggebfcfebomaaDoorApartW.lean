/-
  The walk through OpsApart: it returns true, for all bytes and every world in which the table of package math/bits is as its text lays it.
-/
import Derived.Test.YtaggebfcfebomaaDoorApart
import Derived.Test.YtaggebfcfebomaaDoorLawB
namespace Go.Proofs.YtaggebfcfebomaaDoor
open Go.ChangeShapes Go.WideShapes Go.ChangeAt Go.RowKit
set_option linter.unusedVariables false

/-- What stays while OpsApart asks for texts. -/
def AR (ob rb : Nat) (r : OpV) (w0 w : World) : Prop := (∀ o, w.cell? ⟨rb, o, none⟩ = #[Value.int .i64 r.k, .int .i64 r.x, .int .i64 r.y, .int .i64 r.s, .int .u16 r.n][o]?) ∧ Below w0.heap.size w0 w ∧ ob < w.heap.size ∧ rb < w.heap.size ∧ Tz w
theorem AS.below {w0 W w2 : World} {ob rb : Nat} {r : OpV} {A : Array Value} (h : (∀ o, W.cell? ⟨ob, o, none⟩ = A[o]?) ∧ AR ob rb r w0 W) (hb : Below W.heap.size W w2) :
    (∀ o, w2.cell? ⟨ob, o, none⟩ = A[o]?) ∧ AR ob rb r w0 w2 := by
  obtain ⟨hc, _⟩ := bcell hb
  obtain ⟨h0, h1, h2, h3, h4, h5⟩ := h
  exact ⟨fun o => (hc _ o h3).trans (h0 o), fun o => (hc _ o h4).trans (h1 o), via h2 hb, Nat.lt_of_lt_of_le h3 hb.size, Nat.lt_of_lt_of_le h4 hb.size, h5.below hb⟩
theorem neIf (p q : OpV) (h : p ≠ q) : p.k = q.k → p.x = q.x → p.y = q.y → p.s = q.s → ¬ p.n = q.n := by
  obtain ⟨k, x, y, s, n⟩ := p
  obtain ⟨k', x', y', s', n'⟩ := q
  intro h1 h2 h3 h4 h5
  simp only at h1 h2 h3 h4 h5
  exact h (by rw [h1, h2, h3, h4, h5])
/-- The second order's block, written anew. -/
theorem AS.store {w0 V : World} {tb ob yb : Nat} {A : Array Value} {z0 z1 z2 z3 z4 : Value} (h : (∀ o, V.cell? ⟨ob, o, none⟩ = A[o]?) ∧ LR tb ob w0 V) (hN : Has V yb #[z0, z1, z2, z3, z4]) (hne : ob ≠ yb) (hw : w0.heap.size ≤ yb) (hz : Tz V) (h3 : 3 ≠ yb) (q : OpV) :
    (∀ o, (((((V.setCell ⟨yb, 0, none⟩ (.int .i64 q.k)).setCell ⟨yb, 1, none⟩ (.int .i64 q.x)).setCell ⟨yb, 2, none⟩ (.int .i64 q.y)).setCell ⟨yb, 3, none⟩ (.int .i64 q.s)).setCell ⟨yb, 4, none⟩ (.int .u16 q.n)).cell? ⟨ob, o, none⟩ = A[o]?) ∧ AR ob yb q w0 (((((V.setCell ⟨yb, 0, none⟩ (.int .i64 q.k)).setCell ⟨yb, 1, none⟩ (.int .i64 q.x)).setCell ⟨yb, 2, none⟩ (.int .i64 q.y)).setCell ⟨yb, 3, none⟩ (.int .i64 q.s)).setCell ⟨yb, 4, none⟩ (.int .u16 q.n)) := by
  obtain ⟨h0, h1, h2, h4, h5, h6⟩ := h
  have n : ∀ k b o : Nat, b ≠ yb → (⟨yb, k, none⟩ : Addr) ≠ ⟨b, o, none⟩ := fun k b o hb e => hb (by have := congrArg Addr.block e; simpa using this.symm)
  have c : ∀ b o, b ≠ yb → (((((V.setCell ⟨yb, 0, none⟩ (.int .i64 q.k)).setCell ⟨yb, 1, none⟩ (.int .i64 q.x)).setCell ⟨yb, 2, none⟩ (.int .i64 q.y)).setCell ⟨yb, 3, none⟩ (.int .i64 q.s)).setCell ⟨yb, 4, none⟩ (.int .u16 q.n)).cell? ⟨b, o, none⟩ = V.cell? ⟨b, o, none⟩ := fun b o hb => by
    rw [World.cell?_setCell_other _ _ _ _ (n _ _ _ hb), World.cell?_setCell_other _ _ _ _ (n _ _ _ hb), World.cell?_setCell_other _ _ _ _ (n _ _ _ hb), World.cell?_setCell_other _ _ _ _ (n _ _ _ hb), World.cell?_setCell_other _ _ _ _ (n _ _ _ hb)]
  have hS := ((((hN.set 0 (.int .i64 q.k) (by simp)).set 1 (.int .i64 q.x) (by simp)).set 2 (.int .i64 q.y) (by simp)).set 3 (.int .i64 q.s) (by simp)).set 4 (.int .u16 q.n) (by simp)
  exact ⟨fun o => (c ob o hne).trans (h0 o), fun o => (hS.2.1 o).trans (by simp), set5 h2 yb hw _ _ _ _ _, by simpa using h4, hS.1, (c 3 15 h3).trans hz⟩
set_option maxRecDepth 100000 in
set_option maxHeartbeats 2000000 in
theorem ap_eq (a b c d e : Nat) (ha : a < 256) (hb : b < 256) (hc : c < 256) (hd : d < 256) (he : e < 256) (p q z : OpV) (P Q : List UInt8) (hp0 : decF a b c = p) (hq0 : decF d b c = p) (w : World) (hz : Tz w)
    (tp : ∀ w, Tz w → Calls Tryd.prog 13 #[.agg #[.int .i64 p.k, .int .i64 p.x, .int .i64 p.y, .int .i64 p.s, .int .u16 p.n]] w fun e w' => e = .returned (.string ⟨(P).toArray⟩) ∧ Below w.heap.size w w') (tq : ∀ w, Tz w → Calls Tryd.prog 13 #[.agg #[.int .i64 q.k, .int .i64 q.x, .int .i64 q.y, .int .i64 q.s, .int .u16 q.n]] w fun e w' => e = .returned (.string ⟨(Q).toArray⟩) ∧ Below w.heap.size w w') : Calls Tryd.prog 6 #[.int .u8 a, .int .u8 b, .int .u8 c, .int .u8 d, .int .u8 e, .bool false] w fun e w' => e = .returned (.bool true) ∧ Below w.heap.size w w' := by
  have HP := Lib.hid hp0
  have TP := Lib.hid tp
  have TQ := Lib.hid tq
  have HQ := Lib.hid hq0
  clear hq0
  clear hp0 tp tq
  have hnot : ∀ (x : Bool) (w : World), (Op.unary .not (.bool x)).run Tryd.prog w = .ok (.bool (!x)) w := fun _ _ => rfl
  go_enter Tryd.func6, Tryd.ntmps6
  go_wp2_with fail
  refine (awake_c w hz).mono ?_
  rintro e' w1 ⟨rfl, hb1⟩
  have B1 := Lib.hid hb1
  have Z1 := Lib.hid ((hz.below hb1).below (own1 w1 (.cells Tryd.zeroCells54 54)))
  have h3 := (hz.below hb1).lt
  clear hb1 hz
  go_wp2_with (go_at_call 10; (with_reducible refine (new_c _).mono ?_); rintro e' w' ⟨rfl, rfl⟩)
  refine (dec_c _ a b c ha hb hc p HP.out _ (Or.inl (Tab.new w1 54))).mono ?_
  rintro e' V2 ⟨rfl, hO⟩
  have HS := Lib.hid (LS.start B1.out hO #[.int .i64 p.k, .int .i64 p.x, .int .i64 p.y, .int .i64 p.s, .int .u16 p.n] 27)
  have Z2 := Lib.hid ((Z1.out.but hO.1 (by omega)).below (own1 V2 (.cells #[.int .i64 p.k, .int .i64 p.x, .int .i64 p.y, .int .i64 p.s, .int .u16 p.n] 27)))
  clear B1 Z1 hO
  go_wp2_with fail
  generalize V2.alloc (.cells #[.int .i64 p.k, .int .i64 p.x, .int .i64 p.y, .int .i64 p.s, .int .u16 p.n] 27) = V3 at HS Z2 ⊢
  generalize V2.heap.size = ob at HS ⊢
  have h3' : 3 ≠ w1.heap.size := by omega
  generalize w1.heap.size = tb at HS h3' ⊢
  clear h3 V2 w1
  refine (dec_c _ d b c hd hb hc p HQ.out _ HS.out.2.1).mono ?_
  rintro e' V4 ⟨rfl, hO⟩
  have HS2 := LS.out HS.out hO
  have Z3 := Z2.out.but hO.1 h3'
  have hs2 := HS2.2.2.2.1
  have N1 := (Has.new V4 #[.int .i64 p.k, .int .i64 p.x, .int .i64 p.y, .int .i64 p.s, .int .u16 p.n] 27)
  have HA := Lib.hid (show (∀ o, (V4.alloc (.cells #[.int .i64 p.k, .int .i64 p.x, .int .i64 p.y, .int .i64 p.s, .int .u16 p.n] 27)).cell? ⟨ob, o, none⟩ = #[Value.int .i64 p.k, .int .i64 p.x, .int .i64 p.y, .int .i64 p.s, .int .u16 p.n][o]?) ∧ AR ob V4.heap.size p w (V4.alloc (.cells #[.int .i64 p.k, .int .i64 p.x, .int .i64 p.y, .int .i64 p.s, .int .u16 p.n] 27)) from ⟨(LS.below HS2 (own1 _ _)).1, N1.2.1, (LS.below HS2 (own1 _ _)).2.2.1, (LS.below HS2 (own1 _ _)).2.2.2.1, N1.1, Z3.below (own1 _ _)⟩)
  clear HS HS2 Z2 Z3 hO hs2 N1
  go_wp2_with fail
  refine wp_region_held_drew (S := (fun w' => (∀ o, w'.cell? ⟨ob, o, none⟩ = #[Value.int .i64 p.k, .int .i64 p.x, .int .i64 p.y, .int .i64 p.s, .int .u16 p.n][o]?) ∧ AR ob V4.heap.size p w w')) (by kernel_rfl) (AS.below HA.out (Below.refl _ _).drew) (fun hHeld => ?_)
  clear HA
  generalize (V4.alloc (.cells #[.int .i64 p.k, .int .i64 p.x, .int .i64 p.y, .int .i64 p.s, .int .u16 p.n] 27)).drew = V10 at hHeld ⊢
  generalize V4.heap.size = rb at hHeld ⊢
  refine wpAnyH_take (i := 0) (oi := { dst := some 35, op := Go.Op.load 27 (Go.Operand.tmp 14), type := 27, pos := "law.go:63", after := #[], guard := none }) (v := ?v1) rfl (by kernel_rfl) (by kernel_rfl) (by kernel_rfl) (fun _ _ _ h => h) (Or.inl ⟨by rfl, ?y1⟩) (by assumption) ?z1
  case y1 => (intro w hSw; obtain ⟨hS1, hS2, hS3⟩ := hSw; go_simp) <;> with_reducible rfl
  try simp only [Act.put, List.setIfInBounds_toArray, List.set_cons_zero, List.set_cons_succ]
  refine wpAnyH_take (i := 2) (oi := { dst := some 37, op := Go.Op.load 27 (Go.Operand.tmp 15), type := 27, pos := "law.go:63", after := #[], guard := none }) (v := ?v2) rfl (by kernel_rfl) (by kernel_rfl) (by kernel_rfl) (fun _ _ _ h => h) (Or.inl ⟨by rfl, ?y2⟩) (by assumption) ?z2
  case y2 => (intro w hSw; obtain ⟨hS1, hS2, hS3⟩ := hSw; go_simp) <;> with_reducible rfl
  try simp only [Act.put, List.setIfInBounds_toArray, List.set_cons_zero, List.set_cons_succ]
  refine wpAnyH_take (i := 5) (oi := { dst := some 40, op := Go.Op.load 27 (Go.Operand.tmp 14), type := 27, pos := "law.go:63", after := #[], guard := none }) (v := ?v3) rfl (by kernel_rfl) (by kernel_rfl) (by kernel_rfl) (fun _ _ _ h => h) (Or.inl ⟨by rfl, ?y3⟩) (by assumption) ?z3
  case y3 => (intro w hSw; obtain ⟨hS1, hS2, hS3⟩ := hSw; go_simp) <;> with_reducible rfl
  try simp only [Act.put, List.setIfInBounds_toArray, List.set_cons_zero, List.set_cons_succ]
  refine wpAnyH_take (i := 6) (oi := { dst := some 41, op := Go.Op.load 27 (Go.Operand.tmp 15), type := 27, pos := "law.go:63", after := #[], guard := none }) (v := ?v4) rfl (by kernel_rfl) (by kernel_rfl) (by kernel_rfl) (fun _ _ _ h => h) (Or.inl ⟨by rfl, ?y4⟩) (by assumption) ?z4
  case y4 => (intro w hSw; obtain ⟨hS1, hS2, hS3⟩ := hSw; go_simp) <;> with_reducible rfl
  try simp only [Act.put, List.setIfInBounds_toArray, List.set_cons_zero, List.set_cons_succ]
  refine wpAnyH_take (i := 7) (oi := { dst := some 42, op := Go.Op.binOp Go.BinOp.eql 27 (Go.Operand.tmp 40) (Go.Operand.tmp 41) 27, type := 4, pos := "law.go:63", after := #[{ on := 5, ground := Go.Ground.data }, { on := 6, ground := Go.Ground.data }], guard := none }) (v := ?v5) rfl (by kernel_rfl) (by kernel_rfl) (by kernel_rfl) (fun _ _ _ h => h) (Or.inl ⟨by rfl, ?y5⟩) (by assumption) ?z5
  case y5 => (intro w hSw; obtain ⟨hS1, hS2, hS3⟩ := hSw; go_simp) <;> with_reducible rfl
  try simp only [Act.put, List.setIfInBounds_toArray, List.set_cons_zero, List.set_cons_succ]
  refine wpAnyH_ready (rs := [1]) (by kernel_rfl) (by simp) ?_
  refine (AllReadyH.cons (o := { dst := some 36, op := Go.Op.call { callee := Go.Callee.value (Go.Operand.func 13), args := #[Go.Operand.tmp 35], argTypes := #[27] }, type := 9, pos := "law.go:63", after := #[{ on := 0, ground := Go.Ground.data }], guard := none }) rfl (fun K hK => ?_) AllReadyH.nil)
  · have hZ := hHeld.2.2.2.2.2
    go_simp
    go_wp2_with (go_at_call 13; (with_reducible refine (TP.out _ hZ).mono ?_); rintro e V11 ⟨rfl, hb⟩)
    refine hK.out _ _ ?s6 (fun hNew => ?r6)
    case s6 => exact AS.below hHeld hb
    clear hK K
    clear hb hZ
    clear hHeld
    have hHeld := hNew
    clear hNew
    refine wpAnyH_ready (rs := [3]) (by kernel_rfl) (by simp) ?_
    refine (AllReadyH.cons (o := { dst := some 38, op := Go.Op.call { callee := Go.Callee.value (Go.Operand.func 13), args := #[Go.Operand.tmp 37], argTypes := #[27] }, type := 9, pos := "law.go:63", after := #[{ on := 2, ground := Go.Ground.data }, { on := 1, ground := Go.Ground.chain }], guard := none }) rfl (fun K hK => ?_) AllReadyH.nil)
    · have hZ := hHeld.2.2.2.2.2
      go_simp
      go_wp2_with (go_at_call 13; (with_reducible refine (TP.out _ hZ).mono ?_); rintro e V12 ⟨rfl, hb⟩)
      refine hK.out _ _ ?s7 (fun hNew => ?r7)
      case s7 => exact AS.below hHeld hb
      clear hK K
      clear hb hZ
      clear hHeld
      have hHeld := hNew
      clear hNew
      refine wpAnyH_take (i := 4) (oi := { dst := some 39, op := Go.Op.binOp Go.BinOp.eql 9 (Go.Operand.tmp 36) (Go.Operand.tmp 38) 9, type := 4, pos := "law.go:63", after := #[{ on := 1, ground := Go.Ground.data }, { on := 3, ground := Go.Ground.data }], guard := none }) (v := ?v8) rfl (by kernel_rfl) (by kernel_rfl) (by kernel_rfl) (fun _ _ _ h => h) (Or.inl ⟨by rfl, ?y8⟩) (by assumption) ?z8
      case y8 => (intro w hSw; obtain ⟨hS1, hS2, hS3⟩ := hSw; go_simp) <;> with_reducible rfl
      try simp only [Act.put, List.setIfInBounds_toArray, List.set_cons_zero, List.set_cons_succ]
      refine wpAnyH_take (i := 8) (oi := { dst := some 43, op := Go.Op.binOp Go.BinOp.eql 4 (Go.Operand.tmp 39) (Go.Operand.tmp 42) 4, type := 4, pos := "law.go:63", after := #[{ on := 4, ground := Go.Ground.data }, { on := 7, ground := Go.Ground.data }], guard := none }) (v := ?v9) rfl (by kernel_rfl) (by kernel_rfl) (by kernel_rfl) (fun _ _ _ h => h) (Or.inl ⟨by rfl, ?y9⟩) (by assumption) ?z9
      case y9 => (intro w hSw; obtain ⟨hS1, hS2, hS3⟩ := hSw; go_simp) <;> with_reducible rfl
      try simp only [Act.put, List.setIfInBounds_toArray, List.set_cons_zero, List.set_cons_succ]
      refine wpAnyH_take (i := 9) (oi := { dst := some 12, op := Go.Op.assign (Go.Operand.tmp 43), type := 4, pos := "law.go:63", after := #[{ on := 8, ground := Go.Ground.data }, { on := 3, ground := Go.Ground.chain }, { on := 0, ground := Go.Ground.phase }, { on := 1, ground := Go.Ground.phase }, { on := 2, ground := Go.Ground.phase }, { on := 3, ground := Go.Ground.phase }, { on := 4, ground := Go.Ground.phase }, { on := 5, ground := Go.Ground.phase }, { on := 6, ground := Go.Ground.phase }, { on := 7, ground := Go.Ground.phase }, { on := 8, ground := Go.Ground.phase }], guard := none }) (v := ?v10) rfl (by kernel_rfl) (by kernel_rfl) (by kernel_rfl) (fun _ _ _ h => h) (Or.inl ⟨by rfl, ?y10⟩) (by assumption) ?z10
      case y10 => (intro w hSw; obtain ⟨hS1, hS2, hS3⟩ := hSw; go_simp) <;> with_reducible rfl
      try simp only [Act.put, List.setIfInBounds_toArray, List.set_cons_zero, List.set_cons_succ]
      refine wpAnyH_done (by kernel_rfl) ?_ _
      go_wp2
      go_ret
      exact ⟨rfl, hHeld.2.2.1⟩
set_option maxRecDepth 100000 in
set_option maxHeartbeats 2000000 in
theorem ap_ne (a b c d e : Nat) (ha : a < 256) (hb : b < 256) (hc : c < 256) (hd : d < 256) (he : e < 256) (p q z : OpV) (P Q : List UInt8) (hp0 : decF a b c = p) (hq0 : decF d b c = q) (w : World) (hz : Tz w)
    (tp : ∀ w, Tz w → Calls Tryd.prog 13 #[.agg #[.int .i64 p.k, .int .i64 p.x, .int .i64 p.y, .int .i64 p.s, .int .u16 p.n]] w fun e w' => e = .returned (.string ⟨(P).toArray⟩) ∧ Below w.heap.size w w') (tq : ∀ w, Tz w → Calls Tryd.prog 13 #[.agg #[.int .i64 q.k, .int .i64 q.x, .int .i64 q.y, .int .i64 q.s, .int .u16 q.n]] w fun e w' => e = .returned (.string ⟨(Q).toArray⟩) ∧ Below w.heap.size w w') (hpq : p ≠ q) (hne : (P == Q) = false) (hn1 : (Q == P) = false) : Calls Tryd.prog 6 #[.int .u8 a, .int .u8 b, .int .u8 c, .int .u8 d, .int .u8 e, .bool false] w fun e w' => e = .returned (.bool true) ∧ Below w.heap.size w w' := by
  have HP := Lib.hid hp0
  have TP := Lib.hid tp
  have TQ := Lib.hid tq
  have HQ := Lib.hid hq0
  clear hq0
  have HPQ := Lib.hid hpq
  clear hpq
  clear hp0 tp tq
  have hnot : ∀ (x : Bool) (w : World), (Op.unary .not (.bool x)).run Tryd.prog w = .ok (.bool (!x)) w := fun _ _ => rfl
  go_enter Tryd.func6, Tryd.ntmps6
  go_wp2_with fail
  refine (awake_c w hz).mono ?_
  rintro e' w1 ⟨rfl, hb1⟩
  have B1 := Lib.hid hb1
  have Z1 := Lib.hid ((hz.below hb1).below (own1 w1 (.cells Tryd.zeroCells54 54)))
  have h3 := (hz.below hb1).lt
  clear hb1 hz
  go_wp2_with (go_at_call 10; (with_reducible refine (new_c _).mono ?_); rintro e' w' ⟨rfl, rfl⟩)
  refine (dec_c _ a b c ha hb hc p HP.out _ (Or.inl (Tab.new w1 54))).mono ?_
  rintro e' V2 ⟨rfl, hO⟩
  have HS := Lib.hid (LS.start B1.out hO #[.int .i64 p.k, .int .i64 p.x, .int .i64 p.y, .int .i64 p.s, .int .u16 p.n] 27)
  have Z2 := Lib.hid ((Z1.out.but hO.1 (by omega)).below (own1 V2 (.cells #[.int .i64 p.k, .int .i64 p.x, .int .i64 p.y, .int .i64 p.s, .int .u16 p.n] 27)))
  clear B1 Z1 hO
  go_wp2_with fail
  generalize V2.alloc (.cells #[.int .i64 p.k, .int .i64 p.x, .int .i64 p.y, .int .i64 p.s, .int .u16 p.n] 27) = V3 at HS Z2 ⊢
  generalize V2.heap.size = ob at HS ⊢
  have h3' : 3 ≠ w1.heap.size := by omega
  generalize w1.heap.size = tb at HS h3' ⊢
  clear h3 V2 w1
  refine (dec_c _ d b c hd hb hc q HQ.out _ HS.out.2.1).mono ?_
  rintro e' V4 ⟨rfl, hO⟩
  have HS2 := LS.out HS.out hO
  have Z3 := Z2.out.but hO.1 h3'
  have hs2 := HS2.2.2.2.1
  have N1 := (Has.new V4 #[.int .i64 q.k, .int .i64 q.x, .int .i64 q.y, .int .i64 q.s, .int .u16 q.n] 27)
  have HA := Lib.hid (show (∀ o, (V4.alloc (.cells #[.int .i64 q.k, .int .i64 q.x, .int .i64 q.y, .int .i64 q.s, .int .u16 q.n] 27)).cell? ⟨ob, o, none⟩ = #[Value.int .i64 p.k, .int .i64 p.x, .int .i64 p.y, .int .i64 p.s, .int .u16 p.n][o]?) ∧ AR ob V4.heap.size q w (V4.alloc (.cells #[.int .i64 q.k, .int .i64 q.x, .int .i64 q.y, .int .i64 q.s, .int .u16 q.n] 27)) from ⟨(LS.below HS2 (own1 _ _)).1, N1.2.1, (LS.below HS2 (own1 _ _)).2.2.1, (LS.below HS2 (own1 _ _)).2.2.2.1, N1.1, Z3.below (own1 _ _)⟩)
  clear HS HS2 Z2 Z3 hO hs2 N1
  go_wp2_with fail
  refine wp_region_held_drew (S := (fun w' => (∀ o, w'.cell? ⟨ob, o, none⟩ = #[Value.int .i64 p.k, .int .i64 p.x, .int .i64 p.y, .int .i64 p.s, .int .u16 p.n][o]?) ∧ AR ob V4.heap.size q w w')) (by kernel_rfl) (AS.below HA.out (Below.refl _ _).drew) (fun hHeld => ?_)
  clear HA
  generalize (V4.alloc (.cells #[.int .i64 q.k, .int .i64 q.x, .int .i64 q.y, .int .i64 q.s, .int .u16 q.n] 27)).drew = V10 at hHeld ⊢
  generalize V4.heap.size = rb at hHeld ⊢
  refine wpAnyH_take (i := 0) (oi := { dst := some 35, op := Go.Op.load 27 (Go.Operand.tmp 14), type := 27, pos := "law.go:63", after := #[], guard := none }) (v := ?v1) rfl (by kernel_rfl) (by kernel_rfl) (by kernel_rfl) (fun _ _ _ h => h) (Or.inl ⟨by rfl, ?y1⟩) (by assumption) ?z1
  case y1 => (intro w hSw; obtain ⟨hS1, hS2, hS3⟩ := hSw; go_simp) <;> with_reducible rfl
  try simp only [Act.put, List.setIfInBounds_toArray, List.set_cons_zero, List.set_cons_succ]
  refine wpAnyH_take (i := 2) (oi := { dst := some 37, op := Go.Op.load 27 (Go.Operand.tmp 15), type := 27, pos := "law.go:63", after := #[], guard := none }) (v := ?v2) rfl (by kernel_rfl) (by kernel_rfl) (by kernel_rfl) (fun _ _ _ h => h) (Or.inl ⟨by rfl, ?y2⟩) (by assumption) ?z2
  case y2 => (intro w hSw; obtain ⟨hS1, hS2, hS3⟩ := hSw; go_simp) <;> with_reducible rfl
  try simp only [Act.put, List.setIfInBounds_toArray, List.set_cons_zero, List.set_cons_succ]
  refine wpAnyH_take (i := 5) (oi := { dst := some 40, op := Go.Op.load 27 (Go.Operand.tmp 14), type := 27, pos := "law.go:63", after := #[], guard := none }) (v := ?v3) rfl (by kernel_rfl) (by kernel_rfl) (by kernel_rfl) (fun _ _ _ h => h) (Or.inl ⟨by rfl, ?y3⟩) (by assumption) ?z3
  case y3 => (intro w hSw; obtain ⟨hS1, hS2, hS3⟩ := hSw; go_simp) <;> with_reducible rfl
  try simp only [Act.put, List.setIfInBounds_toArray, List.set_cons_zero, List.set_cons_succ]
  refine wpAnyH_take (i := 6) (oi := { dst := some 41, op := Go.Op.load 27 (Go.Operand.tmp 15), type := 27, pos := "law.go:63", after := #[], guard := none }) (v := ?v4) rfl (by kernel_rfl) (by kernel_rfl) (by kernel_rfl) (fun _ _ _ h => h) (Or.inl ⟨by rfl, ?y4⟩) (by assumption) ?z4
  case y4 => (intro w hSw; obtain ⟨hS1, hS2, hS3⟩ := hSw; go_simp) <;> with_reducible rfl
  try simp only [Act.put, List.setIfInBounds_toArray, List.set_cons_zero, List.set_cons_succ]
  refine wpAnyH_take (i := 7) (oi := { dst := some 42, op := Go.Op.binOp Go.BinOp.eql 27 (Go.Operand.tmp 40) (Go.Operand.tmp 41) 27, type := 4, pos := "law.go:63", after := #[{ on := 5, ground := Go.Ground.data }, { on := 6, ground := Go.Ground.data }], guard := none }) (v := .bool false) rfl (by kernel_rfl) (by kernel_rfl) (by kernel_rfl) (fun _ _ _ h => h) (Or.inl ⟨by rfl, ?y5⟩) (by assumption) ?z5
  case y5 =>
    intro w hSw
    obtain ⟨hS1, hS2, hS3⟩ := hSw
    go_simp
    exact neIf p q HPQ.out
  try simp only [Act.put, List.setIfInBounds_toArray, List.set_cons_zero, List.set_cons_succ]
  refine wpAnyH_ready (rs := [1]) (by kernel_rfl) (by simp) ?_
  refine (AllReadyH.cons (o := { dst := some 36, op := Go.Op.call { callee := Go.Callee.value (Go.Operand.func 13), args := #[Go.Operand.tmp 35], argTypes := #[27] }, type := 9, pos := "law.go:63", after := #[{ on := 0, ground := Go.Ground.data }], guard := none }) rfl (fun K hK => ?_) AllReadyH.nil)
  · have hZ := hHeld.2.2.2.2.2
    go_simp
    go_wp2_with (go_at_call 13; (with_reducible refine (TP.out _ hZ).mono ?_); rintro e V11 ⟨rfl, hb⟩)
    refine hK.out _ _ ?s6 (fun hNew => ?r6)
    case s6 => exact AS.below hHeld hb
    clear hK K
    clear hb hZ
    clear hHeld
    have hHeld := hNew
    clear hNew
    refine wpAnyH_ready (rs := [3]) (by kernel_rfl) (by simp) ?_
    refine (AllReadyH.cons (o := { dst := some 38, op := Go.Op.call { callee := Go.Callee.value (Go.Operand.func 13), args := #[Go.Operand.tmp 37], argTypes := #[27] }, type := 9, pos := "law.go:63", after := #[{ on := 2, ground := Go.Ground.data }, { on := 1, ground := Go.Ground.chain }], guard := none }) rfl (fun K hK => ?_) AllReadyH.nil)
    · have hZ := hHeld.2.2.2.2.2
      go_simp
      go_wp2_with (go_at_call 13; (with_reducible refine (TQ.out _ hZ).mono ?_); rintro e V12 ⟨rfl, hb⟩)
      refine hK.out _ _ ?s7 (fun hNew => ?r7)
      case s7 => exact AS.below hHeld hb
      clear hK K
      clear hb hZ
      clear hHeld
      have hHeld := hNew
      clear hNew
      refine wpAnyH_take (i := 4) (oi := { dst := some 39, op := Go.Op.binOp Go.BinOp.eql 9 (Go.Operand.tmp 36) (Go.Operand.tmp 38) 9, type := 4, pos := "law.go:63", after := #[{ on := 1, ground := Go.Ground.data }, { on := 3, ground := Go.Ground.data }], guard := none }) (v := ?v8) rfl (by kernel_rfl) (by kernel_rfl) (by kernel_rfl) (fun _ _ _ h => h) (Or.inl ⟨by rfl, ?y8⟩) (by assumption) ?z8
      case y8 => (intro w hSw; obtain ⟨hS1, hS2, hS3⟩ := hSw; go_simp) <;> with_reducible rfl
      try simp only [Act.put, List.setIfInBounds_toArray, List.set_cons_zero, List.set_cons_succ]
      refine wpAnyH_take (i := 8) (oi := { dst := some 43, op := Go.Op.binOp Go.BinOp.eql 4 (Go.Operand.tmp 39) (Go.Operand.tmp 42) 4, type := 4, pos := "law.go:63", after := #[{ on := 4, ground := Go.Ground.data }, { on := 7, ground := Go.Ground.data }], guard := none }) (v := ?v9) rfl (by kernel_rfl) (by kernel_rfl) (by kernel_rfl) (fun _ _ _ h => h) (Or.inl ⟨by rfl, ?y9⟩) (by assumption) ?z9
      case y9 => (intro w hSw; obtain ⟨hS1, hS2, hS3⟩ := hSw; go_simp) <;> with_reducible rfl
      try simp only [Act.put, List.setIfInBounds_toArray, List.set_cons_zero, List.set_cons_succ]
      refine wpAnyH_take (i := 9) (oi := { dst := some 12, op := Go.Op.assign (Go.Operand.tmp 43), type := 4, pos := "law.go:63", after := #[{ on := 8, ground := Go.Ground.data }, { on := 3, ground := Go.Ground.chain }, { on := 0, ground := Go.Ground.phase }, { on := 1, ground := Go.Ground.phase }, { on := 2, ground := Go.Ground.phase }, { on := 3, ground := Go.Ground.phase }, { on := 4, ground := Go.Ground.phase }, { on := 5, ground := Go.Ground.phase }, { on := 6, ground := Go.Ground.phase }, { on := 7, ground := Go.Ground.phase }, { on := 8, ground := Go.Ground.phase }], guard := none }) (v := ?v10) rfl (by kernel_rfl) (by kernel_rfl) (by kernel_rfl) (fun _ _ _ h => h) (Or.inl ⟨by rfl, ?y10⟩) (by assumption) ?z10
      case y10 => (intro w hSw; obtain ⟨hS1, hS2, hS3⟩ := hSw; go_simp) <;> with_reducible rfl
      try simp only [Act.put, List.setIfInBounds_toArray, List.set_cons_zero, List.set_cons_succ]
      refine wpAnyH_done (by kernel_rfl) ?_ _
      go_wp2
      go_ret
      exact ⟨rfl, hHeld.2.2.1⟩
set_option maxRecDepth 100000 in
set_option maxHeartbeats 2000000 in
theorem ap_eqf (a b c d e : Nat) (ha : a < 256) (hb : b < 256) (hc : c < 256) (hd : d < 256) (he : e < 256) (p q z : OpV) (P Q : List UInt8) (hp0 : decF a b c = p) (hz0 : decF d b c = z) (hq0 : decF a e c = p) (w : World) (hz : Tz w)
    (tp : ∀ w, Tz w → Calls Tryd.prog 13 #[.agg #[.int .i64 p.k, .int .i64 p.x, .int .i64 p.y, .int .i64 p.s, .int .u16 p.n]] w fun e w' => e = .returned (.string ⟨(P).toArray⟩) ∧ Below w.heap.size w w') (tq : ∀ w, Tz w → Calls Tryd.prog 13 #[.agg #[.int .i64 q.k, .int .i64 q.x, .int .i64 q.y, .int .i64 q.s, .int .u16 q.n]] w fun e w' => e = .returned (.string ⟨(Q).toArray⟩) ∧ Below w.heap.size w w') : Calls Tryd.prog 6 #[.int .u8 a, .int .u8 b, .int .u8 c, .int .u8 d, .int .u8 e, .bool true] w fun e w' => e = .returned (.bool true) ∧ Below w.heap.size w w' := by
  have HP := Lib.hid hp0
  have TP := Lib.hid tp
  have TQ := Lib.hid tq
  have HZ := Lib.hid hz0
  have HQ := Lib.hid hq0
  clear hq0 hz0
  clear hp0 tp tq
  have hnot : ∀ (x : Bool) (w : World), (Op.unary .not (.bool x)).run Tryd.prog w = .ok (.bool (!x)) w := fun _ _ => rfl
  go_enter Tryd.func6, Tryd.ntmps6
  go_wp2_with fail
  refine (awake_c w hz).mono ?_
  rintro e' w1 ⟨rfl, hb1⟩
  have B1 := Lib.hid hb1
  have Z1 := Lib.hid ((hz.below hb1).below (own1 w1 (.cells Tryd.zeroCells54 54)))
  have h3 := (hz.below hb1).lt
  clear hb1 hz
  go_wp2_with (go_at_call 10; (with_reducible refine (new_c _).mono ?_); rintro e' w' ⟨rfl, rfl⟩)
  refine (dec_c _ a b c ha hb hc p HP.out _ (Or.inl (Tab.new w1 54))).mono ?_
  rintro e' V2 ⟨rfl, hO⟩
  have HS := Lib.hid (LS.start B1.out hO #[.int .i64 p.k, .int .i64 p.x, .int .i64 p.y, .int .i64 p.s, .int .u16 p.n] 27)
  have Z2 := Lib.hid ((Z1.out.but hO.1 (by omega)).below (own1 V2 (.cells #[.int .i64 p.k, .int .i64 p.x, .int .i64 p.y, .int .i64 p.s, .int .u16 p.n] 27)))
  clear B1 Z1 hO
  go_wp2_with fail
  generalize V2.alloc (.cells #[.int .i64 p.k, .int .i64 p.x, .int .i64 p.y, .int .i64 p.s, .int .u16 p.n] 27) = V3 at HS Z2 ⊢
  generalize V2.heap.size = ob at HS ⊢
  have h3' : 3 ≠ w1.heap.size := by omega
  generalize w1.heap.size = tb at HS h3' ⊢
  clear h3 V2 w1
  refine (dec_c _ d b c hd hb hc z HZ.out _ HS.out.2.1).mono ?_
  rintro e' V4 ⟨rfl, hO⟩
  have HS2 := LS.out HS.out hO
  have Z3 := Z2.out.but hO.1 h3'
  have hs2 := HS2.2.2.2.1
  have N1 := (Has.new V4 #[.int .i64 z.k, .int .i64 z.x, .int .i64 z.y, .int .i64 z.s, .int .u16 z.n] 27)
  have HS3 := Lib.hid (LS.below HS2 (own1 V4 (.cells #[.int .i64 z.k, .int .i64 z.x, .int .i64 z.y, .int .i64 z.s, .int .u16 z.n] 27)))
  have Z4 := Lib.hid (Z3.below (own1 V4 (.cells #[.int .i64 z.k, .int .i64 z.x, .int .i64 z.y, .int .i64 z.s, .int .u16 z.n] 27)))
  have HN := Lib.hid N1
  have hlt : ob < V4.heap.size := hs2
  have htb : tb < V4.heap.size := hO.2.lt
  have hz4 := Z3.lt
  clear HS HS2 Z2 Z3 hO hs2 N1
  go_wp2_with fail
  refine (dec_c _ a e c ha he hc p HQ.out _ HS3.out.2.1).mono ?_
  rintro e' V5 ⟨rfl, hO⟩
  have hN := HN.out.but hO.1 (by omega)
  obtain ⟨hcc, hff⟩ := hN.out
  have HA := Lib.hid (AS.store (LS.out HS3.out hO) hN (by omega) (Nat.le_trans HS3.out.2.2.2.2.2 (Nat.le_of_lt htb)) (Z4.out.but hO.1 h3') (by have := hz4; omega) p)
  clear HS3 Z4 HN hN hO
  go_wp2_with fail
  refine wp_region_held_drew (S := (fun w' => (∀ o, w'.cell? ⟨ob, o, none⟩ = #[Value.int .i64 p.k, .int .i64 p.x, .int .i64 p.y, .int .i64 p.s, .int .u16 p.n][o]?) ∧ AR ob V4.heap.size p w w')) (by kernel_rfl) (AS.below HA.out (Below.refl _ _).drew) (fun hHeld => ?_)
  clear HA hcc hff
  generalize World.drew _ = V10 at hHeld ⊢
  generalize V4.heap.size = rb at hHeld ⊢
  refine wpAnyH_take (i := 0) (oi := { dst := some 35, op := Go.Op.load 27 (Go.Operand.tmp 14), type := 27, pos := "law.go:63", after := #[], guard := none }) (v := ?v1) rfl (by kernel_rfl) (by kernel_rfl) (by kernel_rfl) (fun _ _ _ h => h) (Or.inl ⟨by rfl, ?y1⟩) (by assumption) ?z1
  case y1 => (intro w hSw; obtain ⟨hS1, hS2, hS3⟩ := hSw; go_simp) <;> with_reducible rfl
  try simp only [Act.put, List.setIfInBounds_toArray, List.set_cons_zero, List.set_cons_succ]
  refine wpAnyH_take (i := 2) (oi := { dst := some 37, op := Go.Op.load 27 (Go.Operand.tmp 15), type := 27, pos := "law.go:63", after := #[], guard := none }) (v := ?v2) rfl (by kernel_rfl) (by kernel_rfl) (by kernel_rfl) (fun _ _ _ h => h) (Or.inl ⟨by rfl, ?y2⟩) (by assumption) ?z2
  case y2 => (intro w hSw; obtain ⟨hS1, hS2, hS3⟩ := hSw; go_simp) <;> with_reducible rfl
  try simp only [Act.put, List.setIfInBounds_toArray, List.set_cons_zero, List.set_cons_succ]
  refine wpAnyH_take (i := 5) (oi := { dst := some 40, op := Go.Op.load 27 (Go.Operand.tmp 14), type := 27, pos := "law.go:63", after := #[], guard := none }) (v := ?v3) rfl (by kernel_rfl) (by kernel_rfl) (by kernel_rfl) (fun _ _ _ h => h) (Or.inl ⟨by rfl, ?y3⟩) (by assumption) ?z3
  case y3 => (intro w hSw; obtain ⟨hS1, hS2, hS3⟩ := hSw; go_simp) <;> with_reducible rfl
  try simp only [Act.put, List.setIfInBounds_toArray, List.set_cons_zero, List.set_cons_succ]
  refine wpAnyH_take (i := 6) (oi := { dst := some 41, op := Go.Op.load 27 (Go.Operand.tmp 15), type := 27, pos := "law.go:63", after := #[], guard := none }) (v := ?v4) rfl (by kernel_rfl) (by kernel_rfl) (by kernel_rfl) (fun _ _ _ h => h) (Or.inl ⟨by rfl, ?y4⟩) (by assumption) ?z4
  case y4 => (intro w hSw; obtain ⟨hS1, hS2, hS3⟩ := hSw; go_simp) <;> with_reducible rfl
  try simp only [Act.put, List.setIfInBounds_toArray, List.set_cons_zero, List.set_cons_succ]
  refine wpAnyH_take (i := 7) (oi := { dst := some 42, op := Go.Op.binOp Go.BinOp.eql 27 (Go.Operand.tmp 40) (Go.Operand.tmp 41) 27, type := 4, pos := "law.go:63", after := #[{ on := 5, ground := Go.Ground.data }, { on := 6, ground := Go.Ground.data }], guard := none }) (v := ?v5) rfl (by kernel_rfl) (by kernel_rfl) (by kernel_rfl) (fun _ _ _ h => h) (Or.inl ⟨by rfl, ?y5⟩) (by assumption) ?z5
  case y5 => (intro w hSw; obtain ⟨hS1, hS2, hS3⟩ := hSw; go_simp) <;> with_reducible rfl
  try simp only [Act.put, List.setIfInBounds_toArray, List.set_cons_zero, List.set_cons_succ]
  refine wpAnyH_ready (rs := [1]) (by kernel_rfl) (by simp) ?_
  refine (AllReadyH.cons (o := { dst := some 36, op := Go.Op.call { callee := Go.Callee.value (Go.Operand.func 13), args := #[Go.Operand.tmp 35], argTypes := #[27] }, type := 9, pos := "law.go:63", after := #[{ on := 0, ground := Go.Ground.data }], guard := none }) rfl (fun K hK => ?_) AllReadyH.nil)
  · have hZ := hHeld.2.2.2.2.2
    go_simp
    go_wp2_with (go_at_call 13; (with_reducible refine (TP.out _ hZ).mono ?_); rintro e V11 ⟨rfl, hb⟩)
    refine hK.out _ _ ?s6 (fun hNew => ?r6)
    case s6 => exact AS.below hHeld hb
    clear hK K
    clear hb hZ
    clear hHeld
    have hHeld := hNew
    clear hNew
    refine wpAnyH_ready (rs := [3]) (by kernel_rfl) (by simp) ?_
    refine (AllReadyH.cons (o := { dst := some 38, op := Go.Op.call { callee := Go.Callee.value (Go.Operand.func 13), args := #[Go.Operand.tmp 37], argTypes := #[27] }, type := 9, pos := "law.go:63", after := #[{ on := 2, ground := Go.Ground.data }, { on := 1, ground := Go.Ground.chain }], guard := none }) rfl (fun K hK => ?_) AllReadyH.nil)
    · have hZ := hHeld.2.2.2.2.2
      go_simp
      go_wp2_with (go_at_call 13; (with_reducible refine (TP.out _ hZ).mono ?_); rintro e V12 ⟨rfl, hb⟩)
      refine hK.out _ _ ?s7 (fun hNew => ?r7)
      case s7 => exact AS.below hHeld hb
      clear hK K
      clear hb hZ
      clear hHeld
      have hHeld := hNew
      clear hNew
      refine wpAnyH_take (i := 4) (oi := { dst := some 39, op := Go.Op.binOp Go.BinOp.eql 9 (Go.Operand.tmp 36) (Go.Operand.tmp 38) 9, type := 4, pos := "law.go:63", after := #[{ on := 1, ground := Go.Ground.data }, { on := 3, ground := Go.Ground.data }], guard := none }) (v := ?v8) rfl (by kernel_rfl) (by kernel_rfl) (by kernel_rfl) (fun _ _ _ h => h) (Or.inl ⟨by rfl, ?y8⟩) (by assumption) ?z8
      case y8 => (intro w hSw; obtain ⟨hS1, hS2, hS3⟩ := hSw; go_simp) <;> with_reducible rfl
      try simp only [Act.put, List.setIfInBounds_toArray, List.set_cons_zero, List.set_cons_succ]
      refine wpAnyH_take (i := 8) (oi := { dst := some 43, op := Go.Op.binOp Go.BinOp.eql 4 (Go.Operand.tmp 39) (Go.Operand.tmp 42) 4, type := 4, pos := "law.go:63", after := #[{ on := 4, ground := Go.Ground.data }, { on := 7, ground := Go.Ground.data }], guard := none }) (v := ?v9) rfl (by kernel_rfl) (by kernel_rfl) (by kernel_rfl) (fun _ _ _ h => h) (Or.inl ⟨by rfl, ?y9⟩) (by assumption) ?z9
      case y9 => (intro w hSw; obtain ⟨hS1, hS2, hS3⟩ := hSw; go_simp) <;> with_reducible rfl
      try simp only [Act.put, List.setIfInBounds_toArray, List.set_cons_zero, List.set_cons_succ]
      refine wpAnyH_take (i := 9) (oi := { dst := some 12, op := Go.Op.assign (Go.Operand.tmp 43), type := 4, pos := "law.go:63", after := #[{ on := 8, ground := Go.Ground.data }, { on := 3, ground := Go.Ground.chain }, { on := 0, ground := Go.Ground.phase }, { on := 1, ground := Go.Ground.phase }, { on := 2, ground := Go.Ground.phase }, { on := 3, ground := Go.Ground.phase }, { on := 4, ground := Go.Ground.phase }, { on := 5, ground := Go.Ground.phase }, { on := 6, ground := Go.Ground.phase }, { on := 7, ground := Go.Ground.phase }, { on := 8, ground := Go.Ground.phase }], guard := none }) (v := ?v10) rfl (by kernel_rfl) (by kernel_rfl) (by kernel_rfl) (fun _ _ _ h => h) (Or.inl ⟨by rfl, ?y10⟩) (by assumption) ?z10
      case y10 => (intro w hSw; obtain ⟨hS1, hS2, hS3⟩ := hSw; go_simp) <;> with_reducible rfl
      try simp only [Act.put, List.setIfInBounds_toArray, List.set_cons_zero, List.set_cons_succ]
      refine wpAnyH_done (by kernel_rfl) ?_ _
      go_wp2
      go_ret
      exact ⟨rfl, hHeld.2.2.1⟩
set_option maxRecDepth 100000 in
set_option maxHeartbeats 2000000 in
theorem ap_nef (a b c d e : Nat) (ha : a < 256) (hb : b < 256) (hc : c < 256) (hd : d < 256) (he : e < 256) (p q z : OpV) (P Q : List UInt8) (hp0 : decF a b c = p) (hz0 : decF d b c = z) (hq0 : decF a e c = q) (w : World) (hz : Tz w)
    (tp : ∀ w, Tz w → Calls Tryd.prog 13 #[.agg #[.int .i64 p.k, .int .i64 p.x, .int .i64 p.y, .int .i64 p.s, .int .u16 p.n]] w fun e w' => e = .returned (.string ⟨(P).toArray⟩) ∧ Below w.heap.size w w') (tq : ∀ w, Tz w → Calls Tryd.prog 13 #[.agg #[.int .i64 q.k, .int .i64 q.x, .int .i64 q.y, .int .i64 q.s, .int .u16 q.n]] w fun e w' => e = .returned (.string ⟨(Q).toArray⟩) ∧ Below w.heap.size w w') (hpq : p ≠ q) (hne : (P == Q) = false) (hn1 : (Q == P) = false) : Calls Tryd.prog 6 #[.int .u8 a, .int .u8 b, .int .u8 c, .int .u8 d, .int .u8 e, .bool true] w fun e w' => e = .returned (.bool true) ∧ Below w.heap.size w w' := by
  have HP := Lib.hid hp0
  have TP := Lib.hid tp
  have TQ := Lib.hid tq
  have HZ := Lib.hid hz0
  have HQ := Lib.hid hq0
  clear hq0 hz0
  have HPQ := Lib.hid hpq
  clear hpq
  clear hp0 tp tq
  have hnot : ∀ (x : Bool) (w : World), (Op.unary .not (.bool x)).run Tryd.prog w = .ok (.bool (!x)) w := fun _ _ => rfl
  go_enter Tryd.func6, Tryd.ntmps6
  go_wp2_with fail
  refine (awake_c w hz).mono ?_
  rintro e' w1 ⟨rfl, hb1⟩
  have B1 := Lib.hid hb1
  have Z1 := Lib.hid ((hz.below hb1).below (own1 w1 (.cells Tryd.zeroCells54 54)))
  have h3 := (hz.below hb1).lt
  clear hb1 hz
  go_wp2_with (go_at_call 10; (with_reducible refine (new_c _).mono ?_); rintro e' w' ⟨rfl, rfl⟩)
  refine (dec_c _ a b c ha hb hc p HP.out _ (Or.inl (Tab.new w1 54))).mono ?_
  rintro e' V2 ⟨rfl, hO⟩
  have HS := Lib.hid (LS.start B1.out hO #[.int .i64 p.k, .int .i64 p.x, .int .i64 p.y, .int .i64 p.s, .int .u16 p.n] 27)
  have Z2 := Lib.hid ((Z1.out.but hO.1 (by omega)).below (own1 V2 (.cells #[.int .i64 p.k, .int .i64 p.x, .int .i64 p.y, .int .i64 p.s, .int .u16 p.n] 27)))
  clear B1 Z1 hO
  go_wp2_with fail
  generalize V2.alloc (.cells #[.int .i64 p.k, .int .i64 p.x, .int .i64 p.y, .int .i64 p.s, .int .u16 p.n] 27) = V3 at HS Z2 ⊢
  generalize V2.heap.size = ob at HS ⊢
  have h3' : 3 ≠ w1.heap.size := by omega
  generalize w1.heap.size = tb at HS h3' ⊢
  clear h3 V2 w1
  refine (dec_c _ d b c hd hb hc z HZ.out _ HS.out.2.1).mono ?_
  rintro e' V4 ⟨rfl, hO⟩
  have HS2 := LS.out HS.out hO
  have Z3 := Z2.out.but hO.1 h3'
  have hs2 := HS2.2.2.2.1
  have N1 := (Has.new V4 #[.int .i64 z.k, .int .i64 z.x, .int .i64 z.y, .int .i64 z.s, .int .u16 z.n] 27)
  have HS3 := Lib.hid (LS.below HS2 (own1 V4 (.cells #[.int .i64 z.k, .int .i64 z.x, .int .i64 z.y, .int .i64 z.s, .int .u16 z.n] 27)))
  have Z4 := Lib.hid (Z3.below (own1 V4 (.cells #[.int .i64 z.k, .int .i64 z.x, .int .i64 z.y, .int .i64 z.s, .int .u16 z.n] 27)))
  have HN := Lib.hid N1
  have hlt : ob < V4.heap.size := hs2
  have htb : tb < V4.heap.size := hO.2.lt
  have hz4 := Z3.lt
  clear HS HS2 Z2 Z3 hO hs2 N1
  go_wp2_with fail
  refine (dec_c _ a e c ha he hc q HQ.out _ HS3.out.2.1).mono ?_
  rintro e' V5 ⟨rfl, hO⟩
  have hN := HN.out.but hO.1 (by omega)
  obtain ⟨hcc, hff⟩ := hN.out
  have HA := Lib.hid (AS.store (LS.out HS3.out hO) hN (by omega) (Nat.le_trans HS3.out.2.2.2.2.2 (Nat.le_of_lt htb)) (Z4.out.but hO.1 h3') (by have := hz4; omega) q)
  clear HS3 Z4 HN hN hO
  go_wp2_with fail
  refine wp_region_held_drew (S := (fun w' => (∀ o, w'.cell? ⟨ob, o, none⟩ = #[Value.int .i64 p.k, .int .i64 p.x, .int .i64 p.y, .int .i64 p.s, .int .u16 p.n][o]?) ∧ AR ob V4.heap.size q w w')) (by kernel_rfl) (AS.below HA.out (Below.refl _ _).drew) (fun hHeld => ?_)
  clear HA hcc hff
  generalize World.drew _ = V10 at hHeld ⊢
  generalize V4.heap.size = rb at hHeld ⊢
  refine wpAnyH_take (i := 0) (oi := { dst := some 35, op := Go.Op.load 27 (Go.Operand.tmp 14), type := 27, pos := "law.go:63", after := #[], guard := none }) (v := ?v1) rfl (by kernel_rfl) (by kernel_rfl) (by kernel_rfl) (fun _ _ _ h => h) (Or.inl ⟨by rfl, ?y1⟩) (by assumption) ?z1
  case y1 => (intro w hSw; obtain ⟨hS1, hS2, hS3⟩ := hSw; go_simp) <;> with_reducible rfl
  try simp only [Act.put, List.setIfInBounds_toArray, List.set_cons_zero, List.set_cons_succ]
  refine wpAnyH_take (i := 2) (oi := { dst := some 37, op := Go.Op.load 27 (Go.Operand.tmp 15), type := 27, pos := "law.go:63", after := #[], guard := none }) (v := ?v2) rfl (by kernel_rfl) (by kernel_rfl) (by kernel_rfl) (fun _ _ _ h => h) (Or.inl ⟨by rfl, ?y2⟩) (by assumption) ?z2
  case y2 => (intro w hSw; obtain ⟨hS1, hS2, hS3⟩ := hSw; go_simp) <;> with_reducible rfl
  try simp only [Act.put, List.setIfInBounds_toArray, List.set_cons_zero, List.set_cons_succ]
  refine wpAnyH_take (i := 5) (oi := { dst := some 40, op := Go.Op.load 27 (Go.Operand.tmp 14), type := 27, pos := "law.go:63", after := #[], guard := none }) (v := ?v3) rfl (by kernel_rfl) (by kernel_rfl) (by kernel_rfl) (fun _ _ _ h => h) (Or.inl ⟨by rfl, ?y3⟩) (by assumption) ?z3
  case y3 => (intro w hSw; obtain ⟨hS1, hS2, hS3⟩ := hSw; go_simp) <;> with_reducible rfl
  try simp only [Act.put, List.setIfInBounds_toArray, List.set_cons_zero, List.set_cons_succ]
  refine wpAnyH_take (i := 6) (oi := { dst := some 41, op := Go.Op.load 27 (Go.Operand.tmp 15), type := 27, pos := "law.go:63", after := #[], guard := none }) (v := ?v4) rfl (by kernel_rfl) (by kernel_rfl) (by kernel_rfl) (fun _ _ _ h => h) (Or.inl ⟨by rfl, ?y4⟩) (by assumption) ?z4
  case y4 => (intro w hSw; obtain ⟨hS1, hS2, hS3⟩ := hSw; go_simp) <;> with_reducible rfl
  try simp only [Act.put, List.setIfInBounds_toArray, List.set_cons_zero, List.set_cons_succ]
  refine wpAnyH_take (i := 7) (oi := { dst := some 42, op := Go.Op.binOp Go.BinOp.eql 27 (Go.Operand.tmp 40) (Go.Operand.tmp 41) 27, type := 4, pos := "law.go:63", after := #[{ on := 5, ground := Go.Ground.data }, { on := 6, ground := Go.Ground.data }], guard := none }) (v := .bool false) rfl (by kernel_rfl) (by kernel_rfl) (by kernel_rfl) (fun _ _ _ h => h) (Or.inl ⟨by rfl, ?y5⟩) (by assumption) ?z5
  case y5 =>
    intro w hSw
    obtain ⟨hS1, hS2, hS3⟩ := hSw
    go_simp
    exact neIf p q HPQ.out
  try simp only [Act.put, List.setIfInBounds_toArray, List.set_cons_zero, List.set_cons_succ]
  refine wpAnyH_ready (rs := [1]) (by kernel_rfl) (by simp) ?_
  refine (AllReadyH.cons (o := { dst := some 36, op := Go.Op.call { callee := Go.Callee.value (Go.Operand.func 13), args := #[Go.Operand.tmp 35], argTypes := #[27] }, type := 9, pos := "law.go:63", after := #[{ on := 0, ground := Go.Ground.data }], guard := none }) rfl (fun K hK => ?_) AllReadyH.nil)
  · have hZ := hHeld.2.2.2.2.2
    go_simp
    go_wp2_with (go_at_call 13; (with_reducible refine (TP.out _ hZ).mono ?_); rintro e V11 ⟨rfl, hb⟩)
    refine hK.out _ _ ?s6 (fun hNew => ?r6)
    case s6 => exact AS.below hHeld hb
    clear hK K
    clear hb hZ
    clear hHeld
    have hHeld := hNew
    clear hNew
    refine wpAnyH_ready (rs := [3]) (by kernel_rfl) (by simp) ?_
    refine (AllReadyH.cons (o := { dst := some 38, op := Go.Op.call { callee := Go.Callee.value (Go.Operand.func 13), args := #[Go.Operand.tmp 37], argTypes := #[27] }, type := 9, pos := "law.go:63", after := #[{ on := 2, ground := Go.Ground.data }, { on := 1, ground := Go.Ground.chain }], guard := none }) rfl (fun K hK => ?_) AllReadyH.nil)
    · have hZ := hHeld.2.2.2.2.2
      go_simp
      go_wp2_with (go_at_call 13; (with_reducible refine (TQ.out _ hZ).mono ?_); rintro e V12 ⟨rfl, hb⟩)
      refine hK.out _ _ ?s7 (fun hNew => ?r7)
      case s7 => exact AS.below hHeld hb
      clear hK K
      clear hb hZ
      clear hHeld
      have hHeld := hNew
      clear hNew
      refine wpAnyH_take (i := 4) (oi := { dst := some 39, op := Go.Op.binOp Go.BinOp.eql 9 (Go.Operand.tmp 36) (Go.Operand.tmp 38) 9, type := 4, pos := "law.go:63", after := #[{ on := 1, ground := Go.Ground.data }, { on := 3, ground := Go.Ground.data }], guard := none }) (v := ?v8) rfl (by kernel_rfl) (by kernel_rfl) (by kernel_rfl) (fun _ _ _ h => h) (Or.inl ⟨by rfl, ?y8⟩) (by assumption) ?z8
      case y8 => (intro w hSw; obtain ⟨hS1, hS2, hS3⟩ := hSw; go_simp) <;> with_reducible rfl
      try simp only [Act.put, List.setIfInBounds_toArray, List.set_cons_zero, List.set_cons_succ]
      refine wpAnyH_take (i := 8) (oi := { dst := some 43, op := Go.Op.binOp Go.BinOp.eql 4 (Go.Operand.tmp 39) (Go.Operand.tmp 42) 4, type := 4, pos := "law.go:63", after := #[{ on := 4, ground := Go.Ground.data }, { on := 7, ground := Go.Ground.data }], guard := none }) (v := ?v9) rfl (by kernel_rfl) (by kernel_rfl) (by kernel_rfl) (fun _ _ _ h => h) (Or.inl ⟨by rfl, ?y9⟩) (by assumption) ?z9
      case y9 => (intro w hSw; obtain ⟨hS1, hS2, hS3⟩ := hSw; go_simp) <;> with_reducible rfl
      try simp only [Act.put, List.setIfInBounds_toArray, List.set_cons_zero, List.set_cons_succ]
      refine wpAnyH_take (i := 9) (oi := { dst := some 12, op := Go.Op.assign (Go.Operand.tmp 43), type := 4, pos := "law.go:63", after := #[{ on := 8, ground := Go.Ground.data }, { on := 3, ground := Go.Ground.chain }, { on := 0, ground := Go.Ground.phase }, { on := 1, ground := Go.Ground.phase }, { on := 2, ground := Go.Ground.phase }, { on := 3, ground := Go.Ground.phase }, { on := 4, ground := Go.Ground.phase }, { on := 5, ground := Go.Ground.phase }, { on := 6, ground := Go.Ground.phase }, { on := 7, ground := Go.Ground.phase }, { on := 8, ground := Go.Ground.phase }], guard := none }) (v := ?v10) rfl (by kernel_rfl) (by kernel_rfl) (by kernel_rfl) (fun _ _ _ h => h) (Or.inl ⟨by rfl, ?y10⟩) (by assumption) ?z10
      case y10 => (intro w hSw; obtain ⟨hS1, hS2, hS3⟩ := hSw; go_simp) <;> with_reducible rfl
      try simp only [Act.put, List.setIfInBounds_toArray, List.set_cons_zero, List.set_cons_succ]
      refine wpAnyH_done (by kernel_rfl) ?_ _
      go_wp2
      go_ret
      exact ⟨rfl, hHeld.2.2.1⟩
theorem tx (a b c : Nat) (ha : a < 256) (hb : b < 256) (hc : c < 256) (w : World) (hz : Tz w) : Calls Tryd.prog 13 #[.agg #[.int .i64 (decF a b c).k, .int .i64 (decF a b c).x, .int .i64 (decF a b c).y, .int .i64 (decF a b c).s, .int .u16 (decF a b c).n]] w fun e w' => e = .returned (.string ⟨(textL (decF a b c)).toArray⟩) ∧ Below w.heap.size w w' :=
  have h := dec_ok a b c ha hb hc
  text_c (decF a b c) h.2.2.2.1 h.2.2.2.2.1 w hz
theorem apart_walk (a b c d e : Nat) (ha : a < 256) (hb : b < 256) (hc : c < 256) (hd : d < 256) (he : e < 256) (f : Bool) (w : World) (hz : Tz w) : Calls Tryd.prog 6 #[.int .u8 a, .int .u8 b, .int .u8 c, .int .u8 d, .int .u8 e, .bool f] w fun e w' => e = .returned (.bool true) ∧ Below w.heap.size w w' := by
  cases f with
  | false =>
    by_cases h : decF d b c = decF a b c
    · exact ap_eq a b c d e ha hb hc hd he (decF a b c) (decF a b c) (decF a b c) _ _ rfl h w hz (tx a b c ha hb hc) (tx a b c ha hb hc)
    · have hn : textL (decF a b c) ≠ textL (decF d b c) := fun e => h (near a b c d ha hb hd e).symm
      exact ap_ne a b c d e ha hb hc hd he (decF a b c) (decF d b c) (decF a b c) _ _ rfl rfl w hz (tx a b c ha hb hc) (tx d b c hd hb hc) (fun e => h e.symm) (beq_eq_false_iff_ne.2 hn) (beq_eq_false_iff_ne.2 (Ne.symm hn))
  | true =>
    by_cases h : decF a e c = decF a b c
    · exact ap_eqf a b c d e ha hb hc hd he (decF a b c) (decF a b c) (decF d b c) _ _ rfl rfl h w hz (tx a b c ha hb hc) (tx a b c ha hb hc)
    · have hn : textL (decF a b c) ≠ textL (decF a e c) := fun e' => h (farther a b c e ha hb he e').symm
      exact ap_nef a b c d e ha hb hc hd he (decF a b c) (decF a e c) (decF d b c) _ _ rfl rfl rfl w hz (tx a b c ha hb hc) (tx a e c ha he hc) (fun e => h e.symm) (beq_eq_false_iff_ne.2 hn) (beq_eq_false_iff_ne.2 (Ne.symm hn))
end Go.Proofs.YtaggebfcfebomaaDoor
