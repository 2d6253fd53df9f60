/-
  What change does: for every world; the processor is there.
-/
import Derived.Test.YtngdogldgcgnjaaGreatP4a
namespace Go.Proofs.YtngdogldgcgnjaaGreat
open Go.ChangeShapes Go.WideShapes Go.ChangeAt Go.RowKit
open Reg
set_option linter.unusedVariables false
set_option maxRecDepth 100000
section
variable {w : World} {P R M tb n : Nat} {v : Value} {y : Sy}
set_option maxHeartbeats 2000000 in
theorem change_Inc (h0 : Sys procD ramC w P R M tb v y n) (hn : n < 970000) (k : Int) : Calls Tryz.prog 92 #[.pointer (some ⟨P, 0, none⟩), .int .i64 k, .func (.func 93) #[] #[]] w (PE procD ramC P R M tb v w (.tuple #[]) (setF (Alu.incF (getY k y) y.s.r.f) (putS k ((getY k y + 1) % 256) (getS k y))) (n + 2)) := by
  have fb := h0.fb
  have gb := h0.getb k
  have S0 := Lib.hid h0
  have M0 := Lib.hid (PM.refl P R M tb v w)
  obtain ⟨hc, hf⟩ := h0.cp
  clear h0
  go_enter Tryz.func92, Tryz.ntmps92
  go_wp2
  have S0' := Lib.hid S0.out.drew
  have M0' := Lib.hid (M0.out.trans (PM.drew P R M tb v w))
  clear hc hf
  refine wp_region_held_drew (S := (fun w' => (w'.cell? ⟨P, 1, none⟩ = some (.int .u8 y.s.r.f)) ∧ True)) (by kernel_rfl) ⟨S0'.out.cp.1 1, trivial⟩ (fun hHeld => ?_)
  generalize World.drew w = u0 at hHeld S0' M0' ⊢
  clear S0 M0
  have S0 := S0'
  have M0 := M0'
  clear S0' M0'
  refine wpAnyH_take (i := 0) (oi := { dst := some 9, op := Go.Op.move (Go.Operand.tmp 2), type := 106, pos := "calculate.go:70", after := #[], guard := none }) (v := ?v1) rfl (by kernel_rfl) (by kernel_rfl) (by kernel_rfl) (fun _ _ _ h => h) (Or.inl ⟨by rfl, ?y1⟩) (by assumption) ?z1
  case y1 => (intro w hSw; (try dsimp only at hSw); go_simp) <;> with_reducible rfl
  try simp only [Act.put, List.setIfInBounds_toArray, List.set_cons_zero, List.set_cons_succ]
  refine wpAnyH_take (i := 1) (oi := { dst := some 10, op := Go.Op.move (Go.Operand.tmp 0), type := 94, pos := "calculate.go:70", after := #[], guard := none }) (v := ?v2) rfl (by kernel_rfl) (by kernel_rfl) (by kernel_rfl) (fun _ _ _ h => h) (Or.inl ⟨by rfl, ?y2⟩) (by assumption) ?z2
  case y2 => (intro w hSw; (try dsimp only at hSw); go_simp) <;> with_reducible rfl
  try simp only [Act.put, List.setIfInBounds_toArray, List.set_cons_zero, List.set_cons_succ]
  refine wpAnyH_take (i := 2) (oi := { dst := some 11, op := Go.Op.move (Go.Operand.tmp 1), type := 3, pos := "calculate.go:70", after := #[], guard := none }) (v := ?v3) rfl (by kernel_rfl) (by kernel_rfl) (by kernel_rfl) (fun _ _ _ h => h) (Or.inl ⟨by rfl, ?y3⟩) (by assumption) ?z3
  case y3 => (intro w hSw; (try dsimp only at hSw); go_simp) <;> with_reducible rfl
  try simp only [Act.put, List.setIfInBounds_toArray, List.set_cons_zero, List.set_cons_succ]
  refine wpAnyH_take (i := 4) (oi := { dst := some 13, op := Go.Op.move (Go.Operand.tmp 0), type := 94, pos := "calculate.go:70", after := #[], guard := none }) (v := ?v4) rfl (by kernel_rfl) (by kernel_rfl) (by kernel_rfl) (fun _ _ _ h => h) (Or.inl ⟨by rfl, ?y4⟩) (by assumption) ?z4
  case y4 => (intro w hSw; (try dsimp only at hSw); go_simp) <;> with_reducible rfl
  try simp only [Act.put, List.setIfInBounds_toArray, List.set_cons_zero, List.set_cons_succ]
  refine wpAnyH_take (i := 5) (oi := { dst := some 14, op := Go.Op.nilCheck (Go.Operand.tmp 13), type := 0, pos := "calculate.go:70", after := #[{ on := 4, ground := Go.Ground.data }], guard := none }) (v := ?v5) rfl (by kernel_rfl) (by kernel_rfl) (by kernel_rfl) (fun _ _ _ h => h) (Or.inl ⟨by rfl, ?y5⟩) (by assumption) ?z5
  case y5 => (intro w hSw; (try dsimp only at hSw); go_simp) <;> with_reducible rfl
  try simp only [Act.put, List.setIfInBounds_toArray, List.set_cons_zero, List.set_cons_succ]
  refine wpAnyH_take (i := 6) (oi := { dst := some 15, op := Go.Op.fieldAddr 85 (Go.Operand.tmp 14) 0, type := 0, pos := "calculate.go:70", after := #[{ on := 5, ground := Go.Ground.data }], guard := none }) (v := ?v6) rfl (by kernel_rfl) (by kernel_rfl) (by kernel_rfl) (fun _ _ _ h => h) (Or.inl ⟨by rfl, ?y6⟩) (by assumption) ?z6
  case y6 => (intro w hSw; (try dsimp only at hSw); go_simp) <;> with_reducible rfl
  try simp only [Act.put, List.setIfInBounds_toArray, List.set_cons_zero, List.set_cons_succ]
  refine wpAnyH_take (i := 7) (oi := { dst := some 16, op := Go.Op.fieldAddr 41 (Go.Operand.tmp 15) 0, type := 0, pos := "calculate.go:70", after := #[{ on := 6, ground := Go.Ground.data }], guard := none }) (v := ?v7) rfl (by kernel_rfl) (by kernel_rfl) (by kernel_rfl) (fun _ _ _ h => h) (Or.inl ⟨by rfl, ?y7⟩) (by assumption) ?z7
  case y7 => (intro w hSw; (try dsimp only at hSw); go_simp) <;> with_reducible rfl
  try simp only [Act.put, List.setIfInBounds_toArray, List.set_cons_zero, List.set_cons_succ]
  refine wpAnyH_take (i := 8) (oi := { dst := some 17, op := Go.Op.fieldAddr 39 (Go.Operand.tmp 16) 1, type := 0, pos := "calculate.go:70", after := #[{ on := 7, ground := Go.Ground.data }], guard := none }) (v := ?v8) rfl (by kernel_rfl) (by kernel_rfl) (by kernel_rfl) (fun _ _ _ h => h) (Or.inl ⟨by rfl, ?y8⟩) (by assumption) ?z8
  case y8 => (intro w hSw; (try dsimp only at hSw); go_simp) <;> with_reducible rfl
  try simp only [Act.put, List.setIfInBounds_toArray, List.set_cons_zero, List.set_cons_succ]
  refine wpAnyH_take (i := 9) (oi := { dst := some 18, op := Go.Op.load 5 (Go.Operand.tmp 17), type := 5, pos := "calculate.go:70", after := #[{ on := 8, ground := Go.Ground.data }], guard := none }) (v := ?v9) rfl (by kernel_rfl) (by kernel_rfl) (by kernel_rfl) (fun _ _ _ h => h) (Or.inl ⟨by rfl, ?y9⟩) (by assumption) ?z9
  case y9 => (intro w hSw; (try dsimp only at hSw); go_simp) <;> with_reducible rfl
  try simp only [Act.put, List.setIfInBounds_toArray, List.set_cons_zero, List.set_cons_succ]
  refine wpAnyH_ready (rs := [3]) (by kernel_rfl) (by simp) ?_
  refine (AllReadyH.cons (o := { dst := some 12, op := Go.Op.call { callee := Go.Callee.value (Go.Operand.func 89), args := #[Go.Operand.tmp 10, Go.Operand.tmp 11], argTypes := #[94, 3] }, type := 5, pos := "calculate.go:70", after := #[{ on := 1, ground := Go.Ground.data }, { on := 2, ground := Go.Ground.data }], guard := none }) rfl (fun K hK => ?_) AllReadyH.nil)
  · skip
    go_simp
    go_wp2_with (go_at_call 89; (with_reducible refine (get_p S0.out (by omega) k).mono ?_); rintro e w1 ⟨rfl, v1, s', m'⟩)
    refine hK.out _ _ ?s10 (fun hNew => ?r10)
    case s10 => exact ⟨(s'.cp.1 1).trans (by rw [getS_s]; rfl), trivial⟩
    clear hK K hHeld
    have hHeld := hNew
    clear hNew
    have M1 := Lib.hid (M0.out.trans m')
    obtain ⟨y1, hy⟩ : ∃ q_, q_ = getS k y := ⟨_, rfl⟩
    rw [← hy] at s'
    have Y1 := Lib.hid hy
    have S1 := Lib.hid s'
    clear s' m' hy
    refine wpAnyH_ready (rs := [10]) (by kernel_rfl) (by simp) ?_
    refine (AllReadyH.cons (o := { dst := some 19, op := Go.Op.call { callee := Go.Callee.value (Go.Operand.tmp 9), args := #[Go.Operand.tmp 12, Go.Operand.tmp 18], argTypes := #[5, 5] }, type := 105, pos := "calculate.go:70", after := #[{ on := 0, ground := Go.Ground.data }, { on := 3, ground := Go.Ground.data }, { on := 9, ground := Go.Ground.data }, { on := 3, ground := Go.Ground.chain }], guard := none }) rfl (fun K hK => ?_) AllReadyH.nil)
    · skip
      go_simp
      go_wp2_with (go_at_call 93; (with_reducible refine (Alu.inc_c _ _ gb.1 gb.2 fb.1 fb.2 _).mono ?_); rintro e u' ⟨rfl, rfl⟩)
      refine hK.out _ _ ?s11 (fun hNew => ?r11)
      case s11 => exact hHeld
      clear hK K hHeld
      have hHeld := hNew
      clear hNew
      refine wpAnyH_take (i := 11) (oi := { dst := some 8, op := Go.Op.move (Go.Operand.tmp 19), type := 105, pos := "calculate.go:70", after := #[{ on := 10, ground := Go.Ground.data }], guard := none }) (v := ?v12) rfl (by kernel_rfl) (by kernel_rfl) (by kernel_rfl) (fun _ _ _ h => h) (Or.inl ⟨by rfl, ?y12⟩) (by assumption) ?z12
      case y12 => (intro w hSw; (try dsimp only at hSw); go_simp) <;> with_reducible rfl
      try simp only [Act.put, List.setIfInBounds_toArray, List.set_cons_zero, List.set_cons_succ]
      refine wpAnyH_take (i := 12) (oi := { dst := some 20, op := Go.Op.extract (Go.Operand.tmp 8) 0, type := 5, pos := "calculate.go:70", after := #[{ on := 11, ground := Go.Ground.data }], guard := none }) (v := ?v13) rfl (by kernel_rfl) (by kernel_rfl) (by kernel_rfl) (fun _ _ _ h => h) (Or.inl ⟨by rfl, ?y13⟩) (by assumption) ?z13
      case y13 => (intro w hSw; (try dsimp only at hSw); go_simp) <;> with_reducible rfl
      try simp only [Act.put, List.setIfInBounds_toArray, List.set_cons_zero, List.set_cons_succ]
      refine wpAnyH_take (i := 13) (oi := { dst := some 21, op := Go.Op.extract (Go.Operand.tmp 8) 1, type := 5, pos := "calculate.go:70", after := #[{ on := 11, ground := Go.Ground.data }, { on := 14, ground := Go.Ground.gcOnly Go.Departure.lateStores }], guard := none }) (v := ?v14) rfl (by kernel_rfl) (by kernel_rfl) (by kernel_rfl) (fun _ _ _ h => h) (Or.inl ⟨by rfl, ?y14⟩) (by assumption) ?z14
      case y14 => (intro w hSw; (try dsimp only at hSw); go_simp) <;> with_reducible rfl
      try simp only [Act.put, List.setIfInBounds_toArray, List.set_cons_zero, List.set_cons_succ]
      refine wpAnyH_take (i := 14) (oi := { dst := some 6, op := Go.Op.assign (Go.Operand.tmp 20), type := 5, pos := "calculate.go:70", after := #[{ on := 12, ground := Go.Ground.data }, { on := 10, ground := Go.Ground.chain }, { on := 0, ground := Go.Ground.phase }, { on := 1, ground := Go.Ground.phase }, { on := 2, ground := Go.Ground.phase }, { on := 3, ground := Go.Ground.phase }, { on := 4, ground := Go.Ground.phase }, { on := 5, ground := Go.Ground.phase }, { on := 6, ground := Go.Ground.phase }, { on := 7, ground := Go.Ground.phase }, { on := 8, ground := Go.Ground.phase }, { on := 9, ground := Go.Ground.phase }, { on := 10, ground := Go.Ground.phase }, { on := 11, ground := Go.Ground.phase }, { on := 12, ground := Go.Ground.phase }, { on := 13, ground := Go.Ground.textOnly Go.Departure.lateStores }], guard := none }) (v := ?v15) rfl (by kernel_rfl) (by kernel_rfl) (by kernel_rfl) (fun _ _ _ h => h) (Or.inl ⟨by rfl, ?y15⟩) (by assumption) ?z15
      case y15 => (intro w hSw; (try dsimp only at hSw); go_simp) <;> with_reducible rfl
      try simp only [Act.put, List.setIfInBounds_toArray, List.set_cons_zero, List.set_cons_succ]
      refine wpAnyH_take (i := 15) (oi := { dst := some 7, op := Go.Op.assign (Go.Operand.tmp 21), type := 5, pos := "calculate.go:70", after := #[{ on := 13, ground := Go.Ground.data }, { on := 14, ground := Go.Ground.chain }, { on := 0, ground := Go.Ground.phase }, { on := 1, ground := Go.Ground.phase }, { on := 2, ground := Go.Ground.phase }, { on := 3, ground := Go.Ground.phase }, { on := 4, ground := Go.Ground.phase }, { on := 5, ground := Go.Ground.phase }, { on := 6, ground := Go.Ground.phase }, { on := 7, ground := Go.Ground.phase }, { on := 8, ground := Go.Ground.phase }, { on := 9, ground := Go.Ground.phase }, { on := 10, ground := Go.Ground.phase }, { on := 11, ground := Go.Ground.phase }, { on := 12, ground := Go.Ground.phase }, { on := 13, ground := Go.Ground.phase }, { on := 14, ground := Go.Ground.phase }], guard := none }) (v := ?v16) rfl (by kernel_rfl) (by kernel_rfl) (by kernel_rfl) (fun _ _ _ h => h) (Or.inl ⟨by rfl, ?y16⟩) (by assumption) ?z16
      case y16 => (intro w hSw; (try dsimp only at hSw); go_simp) <;> with_reducible rfl
      try simp only [Act.put, List.setIfInBounds_toArray, List.set_cons_zero, List.set_cons_succ]
      refine wpAnyH_done (by kernel_rfl) ?_ _
      obtain ⟨hc, hf⟩ := S1.out.cp
      go_wp2_with fail
      with_reducible refine (set_p S1.out (by omega) k ((getY k y + 1) % 256) (by omega) (by omega)).mono ?_
      rintro e w2 ⟨rfl, v2, s', m'⟩
      have M2 := Lib.hid (M1.out.trans m')
      obtain ⟨y2, hy⟩ : ∃ q_, q_ = putS k ((getY k y + 1) % 256) y1 := ⟨_, rfl⟩
      rw [← hy] at s'
      have Y2 := Lib.hid hy
      clear hc hf
      obtain ⟨hc, hf⟩ := s'.cp
      have S2 := Lib.hid s'
      clear s' m' hy
      go_wp2
      have Q := Lib.hid (S2.out.stF (Alu.incF (getY k y) y.s.r.f) (Alu.FL_b _ _ _ _).1 (Alu.FL_b _ _ _ _).2)
      go_end0
      refine ⟨rfl, v2, ?_, M2.out.trans Q.out.2⟩
      have q := Q.out.1
      have e := Y2.out.symm
      subst e
      have e := Y1.out.symm
      subst e
      exact Sys.mono (n' := n + 2) q (by omega)
set_option maxHeartbeats 2000000 in
theorem change_Dec (h0 : Sys procD ramC w P R M tb v y n) (hn : n < 970000) (k : Int) : Calls Tryz.prog 92 #[.pointer (some ⟨P, 0, none⟩), .int .i64 k, .func (.func 94) #[] #[]] w (PE procD ramC P R M tb v w (.tuple #[]) (setF (Alu.decF (getY k y) y.s.r.f) (putS k ((getY k y - 1) % 256) (getS k y))) (n + 2)) := by
  have fb := h0.fb
  have gb := h0.getb k
  have S0 := Lib.hid h0
  have M0 := Lib.hid (PM.refl P R M tb v w)
  obtain ⟨hc, hf⟩ := h0.cp
  clear h0
  go_enter Tryz.func92, Tryz.ntmps92
  go_wp2
  have S0' := Lib.hid S0.out.drew
  have M0' := Lib.hid (M0.out.trans (PM.drew P R M tb v w))
  clear hc hf
  refine wp_region_held_drew (S := (fun w' => (w'.cell? ⟨P, 1, none⟩ = some (.int .u8 y.s.r.f)) ∧ True)) (by kernel_rfl) ⟨S0'.out.cp.1 1, trivial⟩ (fun hHeld => ?_)
  generalize World.drew w = u0 at hHeld S0' M0' ⊢
  clear S0 M0
  have S0 := S0'
  have M0 := M0'
  clear S0' M0'
  refine wpAnyH_take (i := 0) (oi := { dst := some 9, op := Go.Op.move (Go.Operand.tmp 2), type := 106, pos := "calculate.go:70", after := #[], guard := none }) (v := ?v1) rfl (by kernel_rfl) (by kernel_rfl) (by kernel_rfl) (fun _ _ _ h => h) (Or.inl ⟨by rfl, ?y1⟩) (by assumption) ?z1
  case y1 => (intro w hSw; (try dsimp only at hSw); go_simp) <;> with_reducible rfl
  try simp only [Act.put, List.setIfInBounds_toArray, List.set_cons_zero, List.set_cons_succ]
  refine wpAnyH_take (i := 1) (oi := { dst := some 10, op := Go.Op.move (Go.Operand.tmp 0), type := 94, pos := "calculate.go:70", after := #[], guard := none }) (v := ?v2) rfl (by kernel_rfl) (by kernel_rfl) (by kernel_rfl) (fun _ _ _ h => h) (Or.inl ⟨by rfl, ?y2⟩) (by assumption) ?z2
  case y2 => (intro w hSw; (try dsimp only at hSw); go_simp) <;> with_reducible rfl
  try simp only [Act.put, List.setIfInBounds_toArray, List.set_cons_zero, List.set_cons_succ]
  refine wpAnyH_take (i := 2) (oi := { dst := some 11, op := Go.Op.move (Go.Operand.tmp 1), type := 3, pos := "calculate.go:70", after := #[], guard := none }) (v := ?v3) rfl (by kernel_rfl) (by kernel_rfl) (by kernel_rfl) (fun _ _ _ h => h) (Or.inl ⟨by rfl, ?y3⟩) (by assumption) ?z3
  case y3 => (intro w hSw; (try dsimp only at hSw); go_simp) <;> with_reducible rfl
  try simp only [Act.put, List.setIfInBounds_toArray, List.set_cons_zero, List.set_cons_succ]
  refine wpAnyH_take (i := 4) (oi := { dst := some 13, op := Go.Op.move (Go.Operand.tmp 0), type := 94, pos := "calculate.go:70", after := #[], guard := none }) (v := ?v4) rfl (by kernel_rfl) (by kernel_rfl) (by kernel_rfl) (fun _ _ _ h => h) (Or.inl ⟨by rfl, ?y4⟩) (by assumption) ?z4
  case y4 => (intro w hSw; (try dsimp only at hSw); go_simp) <;> with_reducible rfl
  try simp only [Act.put, List.setIfInBounds_toArray, List.set_cons_zero, List.set_cons_succ]
  refine wpAnyH_take (i := 5) (oi := { dst := some 14, op := Go.Op.nilCheck (Go.Operand.tmp 13), type := 0, pos := "calculate.go:70", after := #[{ on := 4, ground := Go.Ground.data }], guard := none }) (v := ?v5) rfl (by kernel_rfl) (by kernel_rfl) (by kernel_rfl) (fun _ _ _ h => h) (Or.inl ⟨by rfl, ?y5⟩) (by assumption) ?z5
  case y5 => (intro w hSw; (try dsimp only at hSw); go_simp) <;> with_reducible rfl
  try simp only [Act.put, List.setIfInBounds_toArray, List.set_cons_zero, List.set_cons_succ]
  refine wpAnyH_take (i := 6) (oi := { dst := some 15, op := Go.Op.fieldAddr 85 (Go.Operand.tmp 14) 0, type := 0, pos := "calculate.go:70", after := #[{ on := 5, ground := Go.Ground.data }], guard := none }) (v := ?v6) rfl (by kernel_rfl) (by kernel_rfl) (by kernel_rfl) (fun _ _ _ h => h) (Or.inl ⟨by rfl, ?y6⟩) (by assumption) ?z6
  case y6 => (intro w hSw; (try dsimp only at hSw); go_simp) <;> with_reducible rfl
  try simp only [Act.put, List.setIfInBounds_toArray, List.set_cons_zero, List.set_cons_succ]
  refine wpAnyH_take (i := 7) (oi := { dst := some 16, op := Go.Op.fieldAddr 41 (Go.Operand.tmp 15) 0, type := 0, pos := "calculate.go:70", after := #[{ on := 6, ground := Go.Ground.data }], guard := none }) (v := ?v7) rfl (by kernel_rfl) (by kernel_rfl) (by kernel_rfl) (fun _ _ _ h => h) (Or.inl ⟨by rfl, ?y7⟩) (by assumption) ?z7
  case y7 => (intro w hSw; (try dsimp only at hSw); go_simp) <;> with_reducible rfl
  try simp only [Act.put, List.setIfInBounds_toArray, List.set_cons_zero, List.set_cons_succ]
  refine wpAnyH_take (i := 8) (oi := { dst := some 17, op := Go.Op.fieldAddr 39 (Go.Operand.tmp 16) 1, type := 0, pos := "calculate.go:70", after := #[{ on := 7, ground := Go.Ground.data }], guard := none }) (v := ?v8) rfl (by kernel_rfl) (by kernel_rfl) (by kernel_rfl) (fun _ _ _ h => h) (Or.inl ⟨by rfl, ?y8⟩) (by assumption) ?z8
  case y8 => (intro w hSw; (try dsimp only at hSw); go_simp) <;> with_reducible rfl
  try simp only [Act.put, List.setIfInBounds_toArray, List.set_cons_zero, List.set_cons_succ]
  refine wpAnyH_take (i := 9) (oi := { dst := some 18, op := Go.Op.load 5 (Go.Operand.tmp 17), type := 5, pos := "calculate.go:70", after := #[{ on := 8, ground := Go.Ground.data }], guard := none }) (v := ?v9) rfl (by kernel_rfl) (by kernel_rfl) (by kernel_rfl) (fun _ _ _ h => h) (Or.inl ⟨by rfl, ?y9⟩) (by assumption) ?z9
  case y9 => (intro w hSw; (try dsimp only at hSw); go_simp) <;> with_reducible rfl
  try simp only [Act.put, List.setIfInBounds_toArray, List.set_cons_zero, List.set_cons_succ]
  refine wpAnyH_ready (rs := [3]) (by kernel_rfl) (by simp) ?_
  refine (AllReadyH.cons (o := { dst := some 12, op := Go.Op.call { callee := Go.Callee.value (Go.Operand.func 89), args := #[Go.Operand.tmp 10, Go.Operand.tmp 11], argTypes := #[94, 3] }, type := 5, pos := "calculate.go:70", after := #[{ on := 1, ground := Go.Ground.data }, { on := 2, ground := Go.Ground.data }], guard := none }) rfl (fun K hK => ?_) AllReadyH.nil)
  · skip
    go_simp
    go_wp2_with (go_at_call 89; (with_reducible refine (get_p S0.out (by omega) k).mono ?_); rintro e w1 ⟨rfl, v1, s', m'⟩)
    refine hK.out _ _ ?s10 (fun hNew => ?r10)
    case s10 => exact ⟨(s'.cp.1 1).trans (by rw [getS_s]; rfl), trivial⟩
    clear hK K hHeld
    have hHeld := hNew
    clear hNew
    have M1 := Lib.hid (M0.out.trans m')
    obtain ⟨y1, hy⟩ : ∃ q_, q_ = getS k y := ⟨_, rfl⟩
    rw [← hy] at s'
    have Y1 := Lib.hid hy
    have S1 := Lib.hid s'
    clear s' m' hy
    refine wpAnyH_ready (rs := [10]) (by kernel_rfl) (by simp) ?_
    refine (AllReadyH.cons (o := { dst := some 19, op := Go.Op.call { callee := Go.Callee.value (Go.Operand.tmp 9), args := #[Go.Operand.tmp 12, Go.Operand.tmp 18], argTypes := #[5, 5] }, type := 105, pos := "calculate.go:70", after := #[{ on := 0, ground := Go.Ground.data }, { on := 3, ground := Go.Ground.data }, { on := 9, ground := Go.Ground.data }, { on := 3, ground := Go.Ground.chain }], guard := none }) rfl (fun K hK => ?_) AllReadyH.nil)
    · skip
      go_simp
      go_wp2_with (go_at_call 94; (with_reducible refine (Alu.dec_c _ _ gb.1 gb.2 fb.1 fb.2 _).mono ?_); rintro e u' ⟨rfl, rfl⟩)
      refine hK.out _ _ ?s11 (fun hNew => ?r11)
      case s11 => exact hHeld
      clear hK K hHeld
      have hHeld := hNew
      clear hNew
      refine wpAnyH_take (i := 11) (oi := { dst := some 8, op := Go.Op.move (Go.Operand.tmp 19), type := 105, pos := "calculate.go:70", after := #[{ on := 10, ground := Go.Ground.data }], guard := none }) (v := ?v12) rfl (by kernel_rfl) (by kernel_rfl) (by kernel_rfl) (fun _ _ _ h => h) (Or.inl ⟨by rfl, ?y12⟩) (by assumption) ?z12
      case y12 => (intro w hSw; (try dsimp only at hSw); go_simp) <;> with_reducible rfl
      try simp only [Act.put, List.setIfInBounds_toArray, List.set_cons_zero, List.set_cons_succ]
      refine wpAnyH_take (i := 12) (oi := { dst := some 20, op := Go.Op.extract (Go.Operand.tmp 8) 0, type := 5, pos := "calculate.go:70", after := #[{ on := 11, ground := Go.Ground.data }], guard := none }) (v := ?v13) rfl (by kernel_rfl) (by kernel_rfl) (by kernel_rfl) (fun _ _ _ h => h) (Or.inl ⟨by rfl, ?y13⟩) (by assumption) ?z13
      case y13 => (intro w hSw; (try dsimp only at hSw); go_simp) <;> with_reducible rfl
      try simp only [Act.put, List.setIfInBounds_toArray, List.set_cons_zero, List.set_cons_succ]
      refine wpAnyH_take (i := 13) (oi := { dst := some 21, op := Go.Op.extract (Go.Operand.tmp 8) 1, type := 5, pos := "calculate.go:70", after := #[{ on := 11, ground := Go.Ground.data }, { on := 14, ground := Go.Ground.gcOnly Go.Departure.lateStores }], guard := none }) (v := ?v14) rfl (by kernel_rfl) (by kernel_rfl) (by kernel_rfl) (fun _ _ _ h => h) (Or.inl ⟨by rfl, ?y14⟩) (by assumption) ?z14
      case y14 => (intro w hSw; (try dsimp only at hSw); go_simp) <;> with_reducible rfl
      try simp only [Act.put, List.setIfInBounds_toArray, List.set_cons_zero, List.set_cons_succ]
      refine wpAnyH_take (i := 14) (oi := { dst := some 6, op := Go.Op.assign (Go.Operand.tmp 20), type := 5, pos := "calculate.go:70", after := #[{ on := 12, ground := Go.Ground.data }, { on := 10, ground := Go.Ground.chain }, { on := 0, ground := Go.Ground.phase }, { on := 1, ground := Go.Ground.phase }, { on := 2, ground := Go.Ground.phase }, { on := 3, ground := Go.Ground.phase }, { on := 4, ground := Go.Ground.phase }, { on := 5, ground := Go.Ground.phase }, { on := 6, ground := Go.Ground.phase }, { on := 7, ground := Go.Ground.phase }, { on := 8, ground := Go.Ground.phase }, { on := 9, ground := Go.Ground.phase }, { on := 10, ground := Go.Ground.phase }, { on := 11, ground := Go.Ground.phase }, { on := 12, ground := Go.Ground.phase }, { on := 13, ground := Go.Ground.textOnly Go.Departure.lateStores }], guard := none }) (v := ?v15) rfl (by kernel_rfl) (by kernel_rfl) (by kernel_rfl) (fun _ _ _ h => h) (Or.inl ⟨by rfl, ?y15⟩) (by assumption) ?z15
      case y15 => (intro w hSw; (try dsimp only at hSw); go_simp) <;> with_reducible rfl
      try simp only [Act.put, List.setIfInBounds_toArray, List.set_cons_zero, List.set_cons_succ]
      refine wpAnyH_take (i := 15) (oi := { dst := some 7, op := Go.Op.assign (Go.Operand.tmp 21), type := 5, pos := "calculate.go:70", after := #[{ on := 13, ground := Go.Ground.data }, { on := 14, ground := Go.Ground.chain }, { on := 0, ground := Go.Ground.phase }, { on := 1, ground := Go.Ground.phase }, { on := 2, ground := Go.Ground.phase }, { on := 3, ground := Go.Ground.phase }, { on := 4, ground := Go.Ground.phase }, { on := 5, ground := Go.Ground.phase }, { on := 6, ground := Go.Ground.phase }, { on := 7, ground := Go.Ground.phase }, { on := 8, ground := Go.Ground.phase }, { on := 9, ground := Go.Ground.phase }, { on := 10, ground := Go.Ground.phase }, { on := 11, ground := Go.Ground.phase }, { on := 12, ground := Go.Ground.phase }, { on := 13, ground := Go.Ground.phase }, { on := 14, ground := Go.Ground.phase }], guard := none }) (v := ?v16) rfl (by kernel_rfl) (by kernel_rfl) (by kernel_rfl) (fun _ _ _ h => h) (Or.inl ⟨by rfl, ?y16⟩) (by assumption) ?z16
      case y16 => (intro w hSw; (try dsimp only at hSw); go_simp) <;> with_reducible rfl
      try simp only [Act.put, List.setIfInBounds_toArray, List.set_cons_zero, List.set_cons_succ]
      refine wpAnyH_done (by kernel_rfl) ?_ _
      obtain ⟨hc, hf⟩ := S1.out.cp
      go_wp2_with fail
      with_reducible refine (set_p S1.out (by omega) k ((getY k y - 1) % 256) (by omega) (by omega)).mono ?_
      rintro e w2 ⟨rfl, v2, s', m'⟩
      have M2 := Lib.hid (M1.out.trans m')
      obtain ⟨y2, hy⟩ : ∃ q_, q_ = putS k ((getY k y - 1) % 256) y1 := ⟨_, rfl⟩
      rw [← hy] at s'
      have Y2 := Lib.hid hy
      clear hc hf
      obtain ⟨hc, hf⟩ := s'.cp
      have S2 := Lib.hid s'
      clear s' m' hy
      go_wp2
      have Q := Lib.hid (S2.out.stF (Alu.decF (getY k y) y.s.r.f) (Alu.FL_b _ _ _ _).1 (Alu.FL_b _ _ _ _).2)
      go_end0
      refine ⟨rfl, v2, ?_, M2.out.trans Q.out.2⟩
      have q := Q.out.1
      have e := Y2.out.symm
      subst e
      have e := Y1.out.symm
      subst e
      exact Sys.mono (n' := n + 2) q (by omega)
end
end Go.Proofs.YtngdogldgcgnjaaGreat
