/-
  What words does: for every world; the processor is there.
-/
import Derived.Test.YtngdogldgcgnjaaGreatP4a
namespace Go.Proofs.YtngdogldgcgnjaaGreat
open Go.ChangeShapes Go.WideShapes Go.ChangeAt Go.RowKit
open Reg
set_option linter.unusedVariables false
set_option maxRecDepth 100000
section
variable {w : World} {P R M tb n : Nat} {v : Value} {y : Sy}
set_option maxHeartbeats 2000000 in
theorem words_14 (h0 : Sys procD ramC w P R M tb v y n) (hn : n < 970000) (x z s nn : Int) : Calls Tryz.prog 96 #[.pointer (some ⟨P, 0, none⟩), .agg #[.int .i64 14, .int .i64 x, .int .i64 z, .int .i64 s, .int .u16 nn]] w (PE procD ramC P R M tb v w (.tuple #[]) (pairS x (up (pairV y.s.r x)) (idle y)) (n + 1)) := by
  have hm := mI ⟨R, 0, none⟩
  have S0 := Lib.hid (h0.below (own1 w (.cells #[.int .i64 14, .int .i64 x, .int .i64 z, .int .i64 s, .int .u16 nn] 44)))
  have M0 := Lib.hid (show PM P R M tb v w v (w.alloc (.cells #[.int .i64 14, .int .i64 x, .int .i64 z, .int .i64 s, .int .u16 nn] 44)) from PM.of (own1 w (.cells #[.int .i64 14, .int .i64 x, .int .i64 z, .int .i64 s, .int .u16 nn] 44)))
  have HO := Lib.hid (Has.new w #[.int .i64 14, .int .i64 x, .int .i64 z, .int .i64 s, .int .u16 nn] 44)
  have NO := Lib.hid (h0.new (Nat.le_refl w.heap.size))
  obtain ⟨hc, hf⟩ := S0.out.cp
  clear h0
  go_enter Tryz.func96, Tryz.ntmps96
  go_wp2_with fail
  generalize w.alloc (.cells #[.int .i64 14, .int .i64 x, .int .i64 z, .int .i64 s, .int .u16 nn] 44) = w0 at S0 M0 HO hc hf ⊢
  generalize w.heap.size = ob at HO NO ⊢
  have ho := HO.out.2.1
  with_reducible refine (idle_p S0.out (by omega)).mono ?_
  rintro e w1 ⟨rfl, v1, s', m'⟩
  have HO' := Lib.hid (m'.has HO.out NO.out)
  have NO' := Lib.hid (m'.far HO.out.1 NO.out)
  clear ho HO NO
  have HO := HO'
  have NO := NO'
  clear HO' NO'
  have ho := HO.out.2.1
  have M1 := Lib.hid (M0.out.trans m')
  obtain ⟨y1, hy⟩ : ∃ q_, q_ = idle y := ⟨_, rfl⟩
  rw [← hy] at s'
  have Y1 := Lib.hid hy
  clear hc hf
  obtain ⟨hc, hf⟩ := s'.cp
  have S1 := Lib.hid s'
  clear s' m' hy
  have hw := up_w (pairV y1.s.r x)
  go_wp2
  have S1' := Lib.hid S1.out.drew
  have M1' := Lib.hid (M1.out.trans (PM.drew P R M tb v1 w1))
  have HO' := Lib.hid HO.out.drew
  clear ho HO
  have HO := HO'
  clear HO'
  clear hc hf
  refine wp_region_held_drew (S := (fun w' => (∀ j, w'.cell? ⟨ob, j, none⟩ = #[Value.int .i64 14, .int .i64 x, .int .i64 z, .int .i64 s, .int .u16 nn][j]?) ∧ True)) (by kernel_rfl) ⟨HO.out.2.1, trivial⟩ (fun hHeld => ?_)
  generalize World.drew w1 = u1 at hHeld S1' M1' HO ⊢
  clear S1 M1
  have S1 := S1'
  have M1 := M1'
  clear S1' M1'
  refine wpAnyH_take (i := 0) (oi := { dst := some 17, op := Go.Op.move (Go.Operand.tmp 0), type := 94, pos := "calculate.go:96", after := #[], guard := none }) (v := ?v1) rfl (by kernel_rfl) (by kernel_rfl) (by kernel_rfl) (fun _ _ _ h => h) (Or.inl ⟨by rfl, ?y1⟩) (by assumption) ?z1
  case y1 => (intro w hSw; (try dsimp only at hSw); go_simp) <;> with_reducible rfl
  try simp only [Act.put, List.setIfInBounds_toArray, List.set_cons_zero, List.set_cons_succ]
  refine wpAnyH_take (i := 1) (oi := { dst := some 18, op := Go.Op.fieldAddr 44 (Go.Operand.tmp 3) 1, type := 0, pos := "calculate.go:96", after := #[], guard := none }) (v := ?v2) rfl (by kernel_rfl) (by kernel_rfl) (by kernel_rfl) (fun _ _ _ h => h) (Or.inl ⟨by rfl, ?y2⟩) (by assumption) ?z2
  case y2 => (intro w hSw; (try dsimp only at hSw); go_simp) <;> with_reducible rfl
  try simp only [Act.put, List.setIfInBounds_toArray, List.set_cons_zero, List.set_cons_succ]
  refine wpAnyH_take (i := 2) (oi := { dst := some 19, op := Go.Op.load 3 (Go.Operand.tmp 18), type := 3, pos := "calculate.go:96", after := #[{ on := 1, ground := Go.Ground.data }], guard := none }) (v := ?v3) rfl (by kernel_rfl) (by kernel_rfl) (by kernel_rfl) (fun _ _ _ h => h) (Or.inl ⟨by rfl, ?y3⟩) (by assumption) ?z3
  case y3 => (intro w hSw; (try dsimp only at hSw); go_simp) <;> with_reducible rfl
  try simp only [Act.put, List.setIfInBounds_toArray, List.set_cons_zero, List.set_cons_succ]
  refine wpAnyH_take (i := 3) (oi := { dst := some 20, op := Go.Op.move (Go.Operand.tmp 0), type := 94, pos := "calculate.go:96", after := #[], guard := none }) (v := ?v4) rfl (by kernel_rfl) (by kernel_rfl) (by kernel_rfl) (fun _ _ _ h => h) (Or.inl ⟨by rfl, ?y4⟩) (by assumption) ?z4
  case y4 => (intro w hSw; (try dsimp only at hSw); go_simp) <;> with_reducible rfl
  try simp only [Act.put, List.setIfInBounds_toArray, List.set_cons_zero, List.set_cons_succ]
  refine wpAnyH_take (i := 4) (oi := { dst := some 21, op := Go.Op.fieldAddr 44 (Go.Operand.tmp 3) 1, type := 0, pos := "calculate.go:96", after := #[], guard := none }) (v := ?v5) rfl (by kernel_rfl) (by kernel_rfl) (by kernel_rfl) (fun _ _ _ h => h) (Or.inl ⟨by rfl, ?y5⟩) (by assumption) ?z5
  case y5 => (intro w hSw; (try dsimp only at hSw); go_simp) <;> with_reducible rfl
  try simp only [Act.put, List.setIfInBounds_toArray, List.set_cons_zero, List.set_cons_succ]
  refine wpAnyH_take (i := 5) (oi := { dst := some 22, op := Go.Op.load 3 (Go.Operand.tmp 21), type := 3, pos := "calculate.go:96", after := #[{ on := 4, ground := Go.Ground.data }], guard := none }) (v := ?v6) rfl (by kernel_rfl) (by kernel_rfl) (by kernel_rfl) (fun _ _ _ h => h) (Or.inl ⟨by rfl, ?y6⟩) (by assumption) ?z6
  case y6 => (intro w hSw; (try dsimp only at hSw); go_simp) <;> with_reducible rfl
  try simp only [Act.put, List.setIfInBounds_toArray, List.set_cons_zero, List.set_cons_succ]
  refine wpAnyH_ready (rs := [6]) (by kernel_rfl) (by simp) ?_
  refine (AllReadyH.cons (o := { dst := some 23, op := Go.Op.call { callee := Go.Callee.value (Go.Operand.func 76), args := #[Go.Operand.tmp 20, Go.Operand.tmp 22], argTypes := #[94, 3] }, type := 22, pos := "calculate.go:96", after := #[{ on := 3, ground := Go.Ground.data }, { on := 5, ground := Go.Ground.data }], guard := none }) rfl (fun K hK => ?_) AllReadyH.nil)
  · skip
    go_simp
    go_wp2_with (go_at_call 76; (with_reducible refine (pair_p S1.out (by omega) x).mono ?_); rintro e w2 ⟨rfl, v2, s', m'⟩)
    have HO' := Lib.hid (m'.has HO.out NO.out)
    have NO' := Lib.hid (m'.far HO.out.1 NO.out)
    clear HO NO
    have HO := HO'
    have NO := NO'
    clear HO' NO'
    refine hK.out _ _ ?s7 (fun hNew => ?r7)
    case s7 => exact ⟨HO.out.2.1, trivial⟩
    clear hK K hHeld
    have hHeld := hNew
    clear hNew
    have M2 := Lib.hid (M1.out.trans m')
    obtain ⟨y2, hy⟩ : ∃ q_, q_ = y1 := ⟨_, rfl⟩
    rw [← hy] at s'
    have Y2 := Lib.hid hy
    have S2 := Lib.hid s'
    clear s' m' hy
    refine wpAnyH_take (i := 7) (oi := { dst := some 24, op := Go.Op.binOp Go.BinOp.add 22 (Go.Operand.tmp 23) (Go.Operand.const (Go.Value.int Go.IntKind.u16 1)) 22, type := 22, pos := "calculate.go:96", after := #[{ on := 6, ground := Go.Ground.data }], guard := none }) (v := ?v8) rfl (by kernel_rfl) (by kernel_rfl) (by kernel_rfl) (fun _ _ _ h => h) (Or.inl ⟨by rfl, ?y8⟩) (by assumption) ?z8
    case y8 => (intro w hSw; (try dsimp only at hSw); go_simp) <;> with_reducible rfl
    try simp only [Act.put, List.setIfInBounds_toArray, List.set_cons_zero, List.set_cons_succ]
    refine wpAnyH_ready (rs := [8]) (by kernel_rfl) (by simp) ?_
    refine (AllReadyH.cons (o := { dst := some 25, op := Go.Op.call { callee := Go.Callee.value (Go.Operand.func 78), args := #[Go.Operand.tmp 17, Go.Operand.tmp 19, Go.Operand.tmp 24], argTypes := #[94, 3, 22] }, type := 0, pos := "calculate.go:96", after := #[{ on := 0, ground := Go.Ground.data }, { on := 2, ground := Go.Ground.data }, { on := 7, ground := Go.Ground.data }, { on := 6, ground := Go.Ground.chain }], guard := none }) rfl (fun K hK => ?_) AllReadyH.nil)
    · skip
      go_simp
      go_wp2_with (go_at_call 78; (with_reducible refine (setPair_p S2.out (by omega) x (up (pairV y1.s.r x)) (up_b _).1 (up_b _).2).mono ?_); rintro e w3 ⟨rfl, v3, s', m'⟩)
      have HO' := Lib.hid (m'.has HO.out NO.out)
      have NO' := Lib.hid (m'.far HO.out.1 NO.out)
      clear HO NO
      have HO := HO'
      have NO := NO'
      clear HO' NO'
      refine hK.out _ _ ?s9 (fun hNew => ?r9)
      case s9 => exact ⟨HO.out.2.1, trivial⟩
      clear hK K hHeld
      have hHeld := hNew
      clear hNew
      have M3 := Lib.hid (M2.out.trans m')
      obtain ⟨y3, hy⟩ : ∃ q_, q_ = pairS x (up (pairV y1.s.r x)) y2 := ⟨_, rfl⟩
      rw [← hy] at s'
      have Y3 := Lib.hid hy
      have S3 := Lib.hid s'
      clear s' m' hy
      refine wpAnyH_done (by kernel_rfl) ?_ _
      obtain ⟨hc, hf⟩ := S3.out.cp
      have ho := HO.out.2.1
      go_wp2
      go_end0
      refine ⟨rfl, v3, ?_, M3.out⟩
      have q := S3.out
      have e := Y3.out.symm
      subst e
      have e := Y2.out.symm
      subst e
      have e := Y1.out.symm
      subst e
      exact Sys.mono (n' := n + 1) q (by omega)
set_option maxHeartbeats 2000000 in
theorem words_15 (h0 : Sys procD ramC w P R M tb v y n) (hn : n < 970000) (x z s nn : Int) : Calls Tryz.prog 96 #[.pointer (some ⟨P, 0, none⟩), .agg #[.int .i64 15, .int .i64 x, .int .i64 z, .int .i64 s, .int .u16 nn]] w (PE procD ramC P R M tb v w (.tuple #[]) (pairS x (dn (pairV y.s.r x)) (idle y)) (n + 1)) := by
  have hm := mI ⟨R, 0, none⟩
  have S0 := Lib.hid (h0.below (own1 w (.cells #[.int .i64 15, .int .i64 x, .int .i64 z, .int .i64 s, .int .u16 nn] 44)))
  have M0 := Lib.hid (show PM P R M tb v w v (w.alloc (.cells #[.int .i64 15, .int .i64 x, .int .i64 z, .int .i64 s, .int .u16 nn] 44)) from PM.of (own1 w (.cells #[.int .i64 15, .int .i64 x, .int .i64 z, .int .i64 s, .int .u16 nn] 44)))
  have HO := Lib.hid (Has.new w #[.int .i64 15, .int .i64 x, .int .i64 z, .int .i64 s, .int .u16 nn] 44)
  have NO := Lib.hid (h0.new (Nat.le_refl w.heap.size))
  obtain ⟨hc, hf⟩ := S0.out.cp
  clear h0
  go_enter Tryz.func96, Tryz.ntmps96
  go_wp2_with fail
  generalize w.alloc (.cells #[.int .i64 15, .int .i64 x, .int .i64 z, .int .i64 s, .int .u16 nn] 44) = w0 at S0 M0 HO hc hf ⊢
  generalize w.heap.size = ob at HO NO ⊢
  have ho := HO.out.2.1
  with_reducible refine (idle_p S0.out (by omega)).mono ?_
  rintro e w1 ⟨rfl, v1, s', m'⟩
  have HO' := Lib.hid (m'.has HO.out NO.out)
  have NO' := Lib.hid (m'.far HO.out.1 NO.out)
  clear ho HO NO
  have HO := HO'
  have NO := NO'
  clear HO' NO'
  have ho := HO.out.2.1
  have M1 := Lib.hid (M0.out.trans m')
  obtain ⟨y1, hy⟩ : ∃ q_, q_ = idle y := ⟨_, rfl⟩
  rw [← hy] at s'
  have Y1 := Lib.hid hy
  clear hc hf
  obtain ⟨hc, hf⟩ := s'.cp
  have S1 := Lib.hid s'
  clear s' m' hy
  have hw := dn_w (pairV y1.s.r x)
  go_wp2
  have S1' := Lib.hid S1.out.drew
  have M1' := Lib.hid (M1.out.trans (PM.drew P R M tb v1 w1))
  have HO' := Lib.hid HO.out.drew
  clear ho HO
  have HO := HO'
  clear HO'
  clear hc hf
  refine wp_region_held_drew (S := (fun w' => (∀ j, w'.cell? ⟨ob, j, none⟩ = #[Value.int .i64 15, .int .i64 x, .int .i64 z, .int .i64 s, .int .u16 nn][j]?) ∧ True)) (by kernel_rfl) ⟨HO.out.2.1, trivial⟩ (fun hHeld => ?_)
  generalize World.drew w1 = u1 at hHeld S1' M1' HO ⊢
  clear S1 M1
  have S1 := S1'
  have M1 := M1'
  clear S1' M1'
  refine wpAnyH_take (i := 0) (oi := { dst := some 28, op := Go.Op.move (Go.Operand.tmp 0), type := 94, pos := "calculate.go:98", after := #[], guard := none }) (v := ?v1) rfl (by kernel_rfl) (by kernel_rfl) (by kernel_rfl) (fun _ _ _ h => h) (Or.inl ⟨by rfl, ?y1⟩) (by assumption) ?z1
  case y1 => (intro w hSw; (try dsimp only at hSw); go_simp) <;> with_reducible rfl
  try simp only [Act.put, List.setIfInBounds_toArray, List.set_cons_zero, List.set_cons_succ]
  refine wpAnyH_take (i := 1) (oi := { dst := some 29, op := Go.Op.fieldAddr 44 (Go.Operand.tmp 3) 1, type := 0, pos := "calculate.go:98", after := #[], guard := none }) (v := ?v2) rfl (by kernel_rfl) (by kernel_rfl) (by kernel_rfl) (fun _ _ _ h => h) (Or.inl ⟨by rfl, ?y2⟩) (by assumption) ?z2
  case y2 => (intro w hSw; (try dsimp only at hSw); go_simp) <;> with_reducible rfl
  try simp only [Act.put, List.setIfInBounds_toArray, List.set_cons_zero, List.set_cons_succ]
  refine wpAnyH_take (i := 2) (oi := { dst := some 30, op := Go.Op.load 3 (Go.Operand.tmp 29), type := 3, pos := "calculate.go:98", after := #[{ on := 1, ground := Go.Ground.data }], guard := none }) (v := ?v3) rfl (by kernel_rfl) (by kernel_rfl) (by kernel_rfl) (fun _ _ _ h => h) (Or.inl ⟨by rfl, ?y3⟩) (by assumption) ?z3
  case y3 => (intro w hSw; (try dsimp only at hSw); go_simp) <;> with_reducible rfl
  try simp only [Act.put, List.setIfInBounds_toArray, List.set_cons_zero, List.set_cons_succ]
  refine wpAnyH_take (i := 3) (oi := { dst := some 31, op := Go.Op.move (Go.Operand.tmp 0), type := 94, pos := "calculate.go:98", after := #[], guard := none }) (v := ?v4) rfl (by kernel_rfl) (by kernel_rfl) (by kernel_rfl) (fun _ _ _ h => h) (Or.inl ⟨by rfl, ?y4⟩) (by assumption) ?z4
  case y4 => (intro w hSw; (try dsimp only at hSw); go_simp) <;> with_reducible rfl
  try simp only [Act.put, List.setIfInBounds_toArray, List.set_cons_zero, List.set_cons_succ]
  refine wpAnyH_take (i := 4) (oi := { dst := some 32, op := Go.Op.fieldAddr 44 (Go.Operand.tmp 3) 1, type := 0, pos := "calculate.go:98", after := #[], guard := none }) (v := ?v5) rfl (by kernel_rfl) (by kernel_rfl) (by kernel_rfl) (fun _ _ _ h => h) (Or.inl ⟨by rfl, ?y5⟩) (by assumption) ?z5
  case y5 => (intro w hSw; (try dsimp only at hSw); go_simp) <;> with_reducible rfl
  try simp only [Act.put, List.setIfInBounds_toArray, List.set_cons_zero, List.set_cons_succ]
  refine wpAnyH_take (i := 5) (oi := { dst := some 33, op := Go.Op.load 3 (Go.Operand.tmp 32), type := 3, pos := "calculate.go:98", after := #[{ on := 4, ground := Go.Ground.data }], guard := none }) (v := ?v6) rfl (by kernel_rfl) (by kernel_rfl) (by kernel_rfl) (fun _ _ _ h => h) (Or.inl ⟨by rfl, ?y6⟩) (by assumption) ?z6
  case y6 => (intro w hSw; (try dsimp only at hSw); go_simp) <;> with_reducible rfl
  try simp only [Act.put, List.setIfInBounds_toArray, List.set_cons_zero, List.set_cons_succ]
  refine wpAnyH_ready (rs := [6]) (by kernel_rfl) (by simp) ?_
  refine (AllReadyH.cons (o := { dst := some 34, op := Go.Op.call { callee := Go.Callee.value (Go.Operand.func 76), args := #[Go.Operand.tmp 31, Go.Operand.tmp 33], argTypes := #[94, 3] }, type := 22, pos := "calculate.go:98", after := #[{ on := 3, ground := Go.Ground.data }, { on := 5, ground := Go.Ground.data }], guard := none }) rfl (fun K hK => ?_) AllReadyH.nil)
  · skip
    go_simp
    go_wp2_with (go_at_call 76; (with_reducible refine (pair_p S1.out (by omega) x).mono ?_); rintro e w2 ⟨rfl, v2, s', m'⟩)
    have HO' := Lib.hid (m'.has HO.out NO.out)
    have NO' := Lib.hid (m'.far HO.out.1 NO.out)
    clear HO NO
    have HO := HO'
    have NO := NO'
    clear HO' NO'
    refine hK.out _ _ ?s7 (fun hNew => ?r7)
    case s7 => exact ⟨HO.out.2.1, trivial⟩
    clear hK K hHeld
    have hHeld := hNew
    clear hNew
    have M2 := Lib.hid (M1.out.trans m')
    obtain ⟨y2, hy⟩ : ∃ q_, q_ = y1 := ⟨_, rfl⟩
    rw [← hy] at s'
    have Y2 := Lib.hid hy
    have S2 := Lib.hid s'
    clear s' m' hy
    refine wpAnyH_take (i := 7) (oi := { dst := some 35, op := Go.Op.binOp Go.BinOp.sub 22 (Go.Operand.tmp 34) (Go.Operand.const (Go.Value.int Go.IntKind.u16 1)) 22, type := 22, pos := "calculate.go:98", after := #[{ on := 6, ground := Go.Ground.data }], guard := none }) (v := ?v8) rfl (by kernel_rfl) (by kernel_rfl) (by kernel_rfl) (fun _ _ _ h => h) (Or.inl ⟨by rfl, ?y8⟩) (by assumption) ?z8
    case y8 => (intro w hSw; (try dsimp only at hSw); go_simp) <;> with_reducible rfl
    try simp only [Act.put, List.setIfInBounds_toArray, List.set_cons_zero, List.set_cons_succ]
    refine wpAnyH_ready (rs := [8]) (by kernel_rfl) (by simp) ?_
    refine (AllReadyH.cons (o := { dst := some 36, op := Go.Op.call { callee := Go.Callee.value (Go.Operand.func 78), args := #[Go.Operand.tmp 28, Go.Operand.tmp 30, Go.Operand.tmp 35], argTypes := #[94, 3, 22] }, type := 0, pos := "calculate.go:98", after := #[{ on := 0, ground := Go.Ground.data }, { on := 2, ground := Go.Ground.data }, { on := 7, ground := Go.Ground.data }, { on := 6, ground := Go.Ground.chain }], guard := none }) rfl (fun K hK => ?_) AllReadyH.nil)
    · skip
      go_simp
      go_wp2_with (go_at_call 78; (with_reducible refine (setPair_p S2.out (by omega) x (dn (pairV y1.s.r x)) (dn_b _).1 (dn_b _).2).mono ?_); rintro e w3 ⟨rfl, v3, s', m'⟩)
      have HO' := Lib.hid (m'.has HO.out NO.out)
      have NO' := Lib.hid (m'.far HO.out.1 NO.out)
      clear HO NO
      have HO := HO'
      have NO := NO'
      clear HO' NO'
      refine hK.out _ _ ?s9 (fun hNew => ?r9)
      case s9 => exact ⟨HO.out.2.1, trivial⟩
      clear hK K hHeld
      have hHeld := hNew
      clear hNew
      have M3 := Lib.hid (M2.out.trans m')
      obtain ⟨y3, hy⟩ : ∃ q_, q_ = pairS x (dn (pairV y1.s.r x)) y2 := ⟨_, rfl⟩
      rw [← hy] at s'
      have Y3 := Lib.hid hy
      have S3 := Lib.hid s'
      clear s' m' hy
      refine wpAnyH_done (by kernel_rfl) ?_ _
      obtain ⟨hc, hf⟩ := S3.out.cp
      have ho := HO.out.2.1
      go_wp2
      go_end0
      refine ⟨rfl, v3, ?_, M3.out⟩
      have q := S3.out
      have e := Y3.out.symm
      subst e
      have e := Y2.out.symm
      subst e
      have e := Y1.out.symm
      subst e
      exact Sys.mono (n' := n + 1) q (by omega)
set_option maxHeartbeats 2000000 in
theorem words_16 (h0 : Sys procD ramC w P R M tb v y n) (hn : n < 970000) (x z s nn : Int) : Calls Tryz.prog 96 #[.pointer (some ⟨P, 0, none⟩), .agg #[.int .i64 16, .int .i64 x, .int .i64 z, .int .i64 s, .int .u16 nn]] w (PE procD ramC P R M tb v w (.tuple #[]) (setF (Alu.add16F (hlV y) (pairV y.s.r x) y.s.r.f) (pairS 2 ((hlV y + pairV y.s.r x) % 65536) (idle y))) (n + 1)) := by
  have hm := mI ⟨R, 0, none⟩
  have S0 := Lib.hid (h0.below (own1 w (.cells #[.int .i64 16, .int .i64 x, .int .i64 z, .int .i64 s, .int .u16 nn] 44)))
  have M0 := Lib.hid (show PM P R M tb v w v (w.alloc (.cells #[.int .i64 16, .int .i64 x, .int .i64 z, .int .i64 s, .int .u16 nn] 44)) from PM.of (own1 w (.cells #[.int .i64 16, .int .i64 x, .int .i64 z, .int .i64 s, .int .u16 nn] 44)))
  have HO := Lib.hid (Has.new w #[.int .i64 16, .int .i64 x, .int .i64 z, .int .i64 s, .int .u16 nn] 44)
  have NO := Lib.hid (h0.new (Nat.le_refl w.heap.size))
  obtain ⟨hc, hf⟩ := S0.out.cp
  clear h0
  go_enter Tryz.func96, Tryz.ntmps96
  go_wp2_with fail
  generalize w.alloc (.cells #[.int .i64 16, .int .i64 x, .int .i64 z, .int .i64 s, .int .u16 nn] 44) = w0 at S0 M0 HO hc hf ⊢
  generalize w.heap.size = ob at HO NO ⊢
  have ho := HO.out.2.1
  with_reducible refine (idle_p S0.out (by omega)).mono ?_
  rintro e w1 ⟨rfl, v1, s', m'⟩
  have HO' := Lib.hid (m'.has HO.out NO.out)
  have NO' := Lib.hid (m'.far HO.out.1 NO.out)
  clear ho HO NO
  have HO := HO'
  have NO := NO'
  clear HO' NO'
  have ho := HO.out.2.1
  have M1 := Lib.hid (M0.out.trans m')
  obtain ⟨y1, hy⟩ : ∃ q_, q_ = idle y := ⟨_, rfl⟩
  rw [← hy] at s'
  have Y1 := Lib.hid hy
  clear hc hf
  obtain ⟨hc, hf⟩ := s'.cp
  have S1 := Lib.hid s'
  clear s' m' hy
  have pb := pairV_b S1.out.ok 2
  have qb := pairV_b S1.out.ok x
  have fb := S1.out.fb
  go_wp2
  have S1' := Lib.hid S1.out.drew
  have M1' := Lib.hid (M1.out.trans (PM.drew P R M tb v1 w1))
  have HO' := Lib.hid HO.out.drew
  clear ho HO
  have HO := HO'
  clear HO'
  clear hc hf
  refine wp_region_held_drew (S := (fun w' => (∀ j, w'.cell? ⟨ob, j, none⟩ = #[Value.int .i64 16, .int .i64 x, .int .i64 z, .int .i64 s, .int .u16 nn][j]?) ∧ (w'.cell? ⟨P, 1, none⟩ = some (.int .u8 y1.s.r.f)) ∧ True)) (by kernel_rfl) ⟨HO.out.2.1, S1'.out.cp.1 1, trivial⟩ (fun hHeld => ?_)
  generalize World.drew w1 = u1 at hHeld S1' M1' HO ⊢
  clear S1 M1
  have S1 := S1'
  have M1 := M1'
  clear S1' M1'
  refine wpAnyH_take (i := 0) (oi := { dst := some 40, op := Go.Op.move (Go.Operand.tmp 0), type := 94, pos := "calculate.go:100", after := #[], guard := none }) (v := ?v1) rfl (by kernel_rfl) (by kernel_rfl) (by kernel_rfl) (fun _ _ _ h => h) (Or.inl ⟨by rfl, ?y1⟩) (by assumption) ?z1
  case y1 => (intro w hSw; (try dsimp only at hSw); go_simp) <;> with_reducible rfl
  try simp only [Act.put, List.setIfInBounds_toArray, List.set_cons_zero, List.set_cons_succ]
  refine wpAnyH_take (i := 2) (oi := { dst := some 42, op := Go.Op.move (Go.Operand.tmp 0), type := 94, pos := "calculate.go:100", after := #[], guard := none }) (v := ?v2) rfl (by kernel_rfl) (by kernel_rfl) (by kernel_rfl) (fun _ _ _ h => h) (Or.inl ⟨by rfl, ?y2⟩) (by assumption) ?z2
  case y2 => (intro w hSw; (try dsimp only at hSw); go_simp) <;> with_reducible rfl
  try simp only [Act.put, List.setIfInBounds_toArray, List.set_cons_zero, List.set_cons_succ]
  refine wpAnyH_take (i := 3) (oi := { dst := some 43, op := Go.Op.fieldAddr 44 (Go.Operand.tmp 3) 1, type := 0, pos := "calculate.go:100", after := #[], guard := none }) (v := ?v3) rfl (by kernel_rfl) (by kernel_rfl) (by kernel_rfl) (fun _ _ _ h => h) (Or.inl ⟨by rfl, ?y3⟩) (by assumption) ?z3
  case y3 => (intro w hSw; (try dsimp only at hSw); go_simp) <;> with_reducible rfl
  try simp only [Act.put, List.setIfInBounds_toArray, List.set_cons_zero, List.set_cons_succ]
  refine wpAnyH_take (i := 4) (oi := { dst := some 44, op := Go.Op.load 3 (Go.Operand.tmp 43), type := 3, pos := "calculate.go:100", after := #[{ on := 3, ground := Go.Ground.data }], guard := none }) (v := ?v4) rfl (by kernel_rfl) (by kernel_rfl) (by kernel_rfl) (fun _ _ _ h => h) (Or.inl ⟨by rfl, ?y4⟩) (by assumption) ?z4
  case y4 => (intro w hSw; (try dsimp only at hSw); go_simp) <;> with_reducible rfl
  try simp only [Act.put, List.setIfInBounds_toArray, List.set_cons_zero, List.set_cons_succ]
  refine wpAnyH_take (i := 6) (oi := { dst := some 46, op := Go.Op.move (Go.Operand.tmp 0), type := 94, pos := "calculate.go:100", after := #[], guard := none }) (v := ?v5) rfl (by kernel_rfl) (by kernel_rfl) (by kernel_rfl) (fun _ _ _ h => h) (Or.inl ⟨by rfl, ?y5⟩) (by assumption) ?z5
  case y5 => (intro w hSw; (try dsimp only at hSw); go_simp) <;> with_reducible rfl
  try simp only [Act.put, List.setIfInBounds_toArray, List.set_cons_zero, List.set_cons_succ]
  refine wpAnyH_take (i := 7) (oi := { dst := some 47, op := Go.Op.nilCheck (Go.Operand.tmp 46), type := 0, pos := "calculate.go:100", after := #[{ on := 6, ground := Go.Ground.data }], guard := none }) (v := ?v6) rfl (by kernel_rfl) (by kernel_rfl) (by kernel_rfl) (fun _ _ _ h => h) (Or.inl ⟨by rfl, ?y6⟩) (by assumption) ?z6
  case y6 => (intro w hSw; (try dsimp only at hSw); go_simp) <;> with_reducible rfl
  try simp only [Act.put, List.setIfInBounds_toArray, List.set_cons_zero, List.set_cons_succ]
  refine wpAnyH_take (i := 8) (oi := { dst := some 48, op := Go.Op.fieldAddr 85 (Go.Operand.tmp 47) 0, type := 0, pos := "calculate.go:100", after := #[{ on := 7, ground := Go.Ground.data }], guard := none }) (v := ?v7) rfl (by kernel_rfl) (by kernel_rfl) (by kernel_rfl) (fun _ _ _ h => h) (Or.inl ⟨by rfl, ?y7⟩) (by assumption) ?z7
  case y7 => (intro w hSw; (try dsimp only at hSw); go_simp) <;> with_reducible rfl
  try simp only [Act.put, List.setIfInBounds_toArray, List.set_cons_zero, List.set_cons_succ]
  refine wpAnyH_take (i := 9) (oi := { dst := some 49, op := Go.Op.fieldAddr 41 (Go.Operand.tmp 48) 0, type := 0, pos := "calculate.go:100", after := #[{ on := 8, ground := Go.Ground.data }], guard := none }) (v := ?v8) rfl (by kernel_rfl) (by kernel_rfl) (by kernel_rfl) (fun _ _ _ h => h) (Or.inl ⟨by rfl, ?y8⟩) (by assumption) ?z8
  case y8 => (intro w hSw; (try dsimp only at hSw); go_simp) <;> with_reducible rfl
  try simp only [Act.put, List.setIfInBounds_toArray, List.set_cons_zero, List.set_cons_succ]
  refine wpAnyH_take (i := 10) (oi := { dst := some 50, op := Go.Op.fieldAddr 39 (Go.Operand.tmp 49) 1, type := 0, pos := "calculate.go:100", after := #[{ on := 9, ground := Go.Ground.data }], guard := none }) (v := ?v9) rfl (by kernel_rfl) (by kernel_rfl) (by kernel_rfl) (fun _ _ _ h => h) (Or.inl ⟨by rfl, ?y9⟩) (by assumption) ?z9
  case y9 => (intro w hSw; (try dsimp only at hSw); go_simp) <;> with_reducible rfl
  try simp only [Act.put, List.setIfInBounds_toArray, List.set_cons_zero, List.set_cons_succ]
  refine wpAnyH_take (i := 11) (oi := { dst := some 51, op := Go.Op.load 5 (Go.Operand.tmp 50), type := 5, pos := "calculate.go:100", after := #[{ on := 10, ground := Go.Ground.data }], guard := none }) (v := ?v10) rfl (by kernel_rfl) (by kernel_rfl) (by kernel_rfl) (fun _ _ _ h => h) (Or.inl ⟨by rfl, ?y10⟩) (by assumption) ?z10
  case y10 => (intro w hSw; (try dsimp only at hSw); go_simp) <;> with_reducible rfl
  try simp only [Act.put, List.setIfInBounds_toArray, List.set_cons_zero, List.set_cons_succ]
  refine wpAnyH_ready (rs := [1]) (by kernel_rfl) (by simp) ?_
  refine (AllReadyH.cons (o := { dst := some 41, op := Go.Op.call { callee := Go.Callee.value (Go.Operand.func 76), args := #[Go.Operand.tmp 40, Go.Operand.const (Go.Value.int Go.IntKind.i64 2)], argTypes := #[94, 3] }, type := 22, pos := "calculate.go:100", after := #[{ on := 0, ground := Go.Ground.data }], guard := none }) rfl (fun K hK => ?_) AllReadyH.nil)
  · skip
    go_simp
    go_wp2_with (go_at_call 76; (with_reducible refine (pair_p S1.out (by omega) 2).mono ?_); rintro e w2 ⟨rfl, v2, s', m'⟩)
    have HO' := Lib.hid (m'.has HO.out NO.out)
    have NO' := Lib.hid (m'.far HO.out.1 NO.out)
    clear HO NO
    have HO := HO'
    have NO := NO'
    clear HO' NO'
    refine hK.out _ _ ?s11 (fun hNew => ?r11)
    case s11 => exact ⟨HO.out.2.1, s'.cp.1 1, trivial⟩
    clear hK K hHeld
    have hHeld := hNew
    clear hNew
    have M2 := Lib.hid (M1.out.trans m')
    have S2 := Lib.hid s'
    clear s' m'
    refine wpAnyH_ready (rs := [5]) (by kernel_rfl) (by simp) ?_
    refine (AllReadyH.cons (o := { dst := some 45, op := Go.Op.call { callee := Go.Callee.value (Go.Operand.func 76), args := #[Go.Operand.tmp 42, Go.Operand.tmp 44], argTypes := #[94, 3] }, type := 22, pos := "calculate.go:100", after := #[{ on := 2, ground := Go.Ground.data }, { on := 4, ground := Go.Ground.data }, { on := 1, ground := Go.Ground.chain }], guard := none }) rfl (fun K hK => ?_) AllReadyH.nil)
    · skip
      go_simp
      go_wp2_with (go_at_call 76; (with_reducible refine (pair_p S2.out (by omega) x).mono ?_); rintro e w3 ⟨rfl, v3, s', m'⟩)
      have HO' := Lib.hid (m'.has HO.out NO.out)
      have NO' := Lib.hid (m'.far HO.out.1 NO.out)
      clear HO NO
      have HO := HO'
      have NO := NO'
      clear HO' NO'
      refine hK.out _ _ ?s12 (fun hNew => ?r12)
      case s12 => exact ⟨HO.out.2.1, s'.cp.1 1, trivial⟩
      clear hK K hHeld
      have hHeld := hNew
      clear hNew
      have M3 := Lib.hid (M2.out.trans m')
      have S3 := Lib.hid s'
      clear s' m'
      refine wpAnyH_ready (rs := [12]) (by kernel_rfl) (by simp) ?_
      refine (AllReadyH.cons (o := { dst := some 52, op := Go.Op.call { callee := Go.Callee.value (Go.Operand.func 117), args := #[Go.Operand.tmp 41, Go.Operand.tmp 45, Go.Operand.tmp 51], argTypes := #[22, 22, 5] }, type := 107, pos := "calculate.go:100", after := #[{ on := 1, ground := Go.Ground.data }, { on := 5, ground := Go.Ground.data }, { on := 11, ground := Go.Ground.data }, { on := 5, ground := Go.Ground.chain }], guard := none }) rfl (fun K hK => ?_) AllReadyH.nil)
      · skip
        go_simp
        go_wp2_with (go_at_call 117; (with_reducible refine (Alu.add16_c _ _ _ pb.1 pb.2 qb.1 qb.2 fb.1 fb.2 _).mono ?_); rintro e u' ⟨rfl, rfl⟩)
        refine hK.out _ _ ?s13 (fun hNew => ?r13)
        case s13 => exact hHeld
        clear hK K hHeld
        have hHeld := hNew
        clear hNew
        refine wpAnyH_take (i := 13) (oi := { dst := some 39, op := Go.Op.move (Go.Operand.tmp 52), type := 107, pos := "calculate.go:100", after := #[{ on := 12, ground := Go.Ground.data }], guard := none }) (v := ?v14) rfl (by kernel_rfl) (by kernel_rfl) (by kernel_rfl) (fun _ _ _ h => h) (Or.inl ⟨by rfl, ?y14⟩) (by assumption) ?z14
        case y14 => (intro w hSw; (try dsimp only at hSw); go_simp) <;> with_reducible rfl
        try simp only [Act.put, List.setIfInBounds_toArray, List.set_cons_zero, List.set_cons_succ]
        refine wpAnyH_take (i := 14) (oi := { dst := some 53, op := Go.Op.extract (Go.Operand.tmp 39) 0, type := 22, pos := "calculate.go:100", after := #[{ on := 13, ground := Go.Ground.data }], guard := none }) (v := ?v15) rfl (by kernel_rfl) (by kernel_rfl) (by kernel_rfl) (fun _ _ _ h => h) (Or.inl ⟨by rfl, ?y15⟩) (by assumption) ?z15
        case y15 => (intro w hSw; (try dsimp only at hSw); go_simp) <;> with_reducible rfl
        try simp only [Act.put, List.setIfInBounds_toArray, List.set_cons_zero, List.set_cons_succ]
        refine wpAnyH_take (i := 15) (oi := { dst := some 54, op := Go.Op.extract (Go.Operand.tmp 39) 1, type := 5, pos := "calculate.go:100", after := #[{ on := 13, ground := Go.Ground.data }, { on := 16, ground := Go.Ground.gcOnly Go.Departure.lateStores }], guard := none }) (v := ?v16) rfl (by kernel_rfl) (by kernel_rfl) (by kernel_rfl) (fun _ _ _ h => h) (Or.inl ⟨by rfl, ?y16⟩) (by assumption) ?z16
        case y16 => (intro w hSw; (try dsimp only at hSw); go_simp) <;> with_reducible rfl
        try simp only [Act.put, List.setIfInBounds_toArray, List.set_cons_zero, List.set_cons_succ]
        refine wpAnyH_take (i := 16) (oi := { dst := some 4, op := Go.Op.assign (Go.Operand.tmp 53), type := 22, pos := "calculate.go:100", after := #[{ on := 14, ground := Go.Ground.data }, { on := 12, ground := Go.Ground.chain }, { on := 0, ground := Go.Ground.phase }, { on := 1, ground := Go.Ground.phase }, { on := 2, ground := Go.Ground.phase }, { on := 3, ground := Go.Ground.phase }, { on := 4, ground := Go.Ground.phase }, { on := 5, ground := Go.Ground.phase }, { on := 6, ground := Go.Ground.phase }, { on := 7, ground := Go.Ground.phase }, { on := 8, ground := Go.Ground.phase }, { on := 9, ground := Go.Ground.phase }, { on := 10, ground := Go.Ground.phase }, { on := 11, ground := Go.Ground.phase }, { on := 12, ground := Go.Ground.phase }, { on := 13, ground := Go.Ground.phase }, { on := 14, ground := Go.Ground.phase }, { on := 15, ground := Go.Ground.textOnly Go.Departure.lateStores }], guard := none }) (v := ?v17) rfl (by kernel_rfl) (by kernel_rfl) (by kernel_rfl) (fun _ _ _ h => h) (Or.inl ⟨by rfl, ?y17⟩) (by assumption) ?z17
        case y17 => (intro w hSw; (try dsimp only at hSw); go_simp) <;> with_reducible rfl
        try simp only [Act.put, List.setIfInBounds_toArray, List.set_cons_zero, List.set_cons_succ]
        refine wpAnyH_take (i := 17) (oi := { dst := some 5, op := Go.Op.assign (Go.Operand.tmp 54), type := 5, pos := "calculate.go:100", after := #[{ on := 15, ground := Go.Ground.data }, { on := 16, ground := Go.Ground.chain }, { on := 0, ground := Go.Ground.phase }, { on := 1, ground := Go.Ground.phase }, { on := 2, ground := Go.Ground.phase }, { on := 3, ground := Go.Ground.phase }, { on := 4, ground := Go.Ground.phase }, { on := 5, ground := Go.Ground.phase }, { on := 6, ground := Go.Ground.phase }, { on := 7, ground := Go.Ground.phase }, { on := 8, ground := Go.Ground.phase }, { on := 9, ground := Go.Ground.phase }, { on := 10, ground := Go.Ground.phase }, { on := 11, ground := Go.Ground.phase }, { on := 12, ground := Go.Ground.phase }, { on := 13, ground := Go.Ground.phase }, { on := 14, ground := Go.Ground.phase }, { on := 15, ground := Go.Ground.phase }, { on := 16, ground := Go.Ground.phase }], guard := none }) (v := ?v18) rfl (by kernel_rfl) (by kernel_rfl) (by kernel_rfl) (fun _ _ _ h => h) (Or.inl ⟨by rfl, ?y18⟩) (by assumption) ?z18
        case y18 => (intro w hSw; (try dsimp only at hSw); go_simp) <;> with_reducible rfl
        try simp only [Act.put, List.setIfInBounds_toArray, List.set_cons_zero, List.set_cons_succ]
        refine wpAnyH_done (by kernel_rfl) ?_ _
        obtain ⟨hc, hf⟩ := S3.out.cp
        have ho := HO.out.2.1
        go_wp2_with fail
        with_reducible refine (setPair_p S3.out (by omega) 2 ((pairV y1.s.r 2 + pairV y1.s.r x) % 65536) (by omega) (by omega)).mono ?_
        rintro e w4 ⟨rfl, v4, s', m'⟩
        have HO' := Lib.hid (m'.has HO.out NO.out)
        have NO' := Lib.hid (m'.far HO.out.1 NO.out)
        clear ho HO NO
        have HO := HO'
        have NO := NO'
        clear HO' NO'
        have ho := HO.out.2.1
        have M4 := Lib.hid (M3.out.trans m')
        obtain ⟨y4, hy⟩ : ∃ q_, q_ = pairS 2 ((pairV y1.s.r 2 + pairV y1.s.r x) % 65536) y1 := ⟨_, rfl⟩
        rw [← hy] at s'
        have Y4 := Lib.hid hy
        clear hc hf
        obtain ⟨hc, hf⟩ := s'.cp
        have S4 := Lib.hid s'
        clear s' m' hy
        have Q := Lib.hid (S4.out.stF (Alu.add16F (pairV y1.s.r 2) (pairV y1.s.r x) y1.s.r.f) (Alu.FL_b _ _ _ _).1 (Alu.FL_b _ _ _ _).2)
        go_wp2
        go_end0
        refine ⟨rfl, v4, ?_, M4.out.trans Q.out.2⟩
        have q := Q.out.1
        have e1 : setF (Alu.add16F (hlV y) (pairV y.s.r x) y.s.r.f) (pairS 2 ((hlV y + pairV y.s.r x) % 65536) (idle y)) = setF (Alu.add16F (pairV y1.s.r 2) (pairV y1.s.r x) y1.s.r.f) y4 := by rw [Y4.out, Y1.out]; rfl
        rw [e1]
        exact Sys.mono (n' := n + 1) q (by omega)
set_option maxHeartbeats 2000000 in
theorem words_41 (h0 : Sys procD ramC w P R M tb v y n) (hn : n < 970000) (x z s nn : Int) : Calls Tryz.prog 96 #[.pointer (some ⟨P, 0, none⟩), .agg #[.int .i64 41, .int .i64 x, .int .i64 z, .int .i64 s, .int .u16 nn]] w (PE procD ramC P R M tb v w (.tuple #[]) (setF (Alu.shiftF y.s.r.sp (nn % 256)) (setSP (Alu.shiftR y.s.r.sp (nn % 256)) (idle (idle y)))) (n + 2)) := by
  have hm := mI ⟨R, 0, none⟩
  have S0 := Lib.hid (h0.below (own1 w (.cells #[.int .i64 41, .int .i64 x, .int .i64 z, .int .i64 s, .int .u16 nn] 44)))
  have M0 := Lib.hid (show PM P R M tb v w v (w.alloc (.cells #[.int .i64 41, .int .i64 x, .int .i64 z, .int .i64 s, .int .u16 nn] 44)) from PM.of (own1 w (.cells #[.int .i64 41, .int .i64 x, .int .i64 z, .int .i64 s, .int .u16 nn] 44)))
  have HO := Lib.hid (Has.new w #[.int .i64 41, .int .i64 x, .int .i64 z, .int .i64 s, .int .u16 nn] 44)
  have NO := Lib.hid (h0.new (Nat.le_refl w.heap.size))
  obtain ⟨hc, hf⟩ := S0.out.cp
  clear h0
  go_enter Tryz.func96, Tryz.ntmps96
  go_wp2_with fail
  generalize w.alloc (.cells #[.int .i64 41, .int .i64 x, .int .i64 z, .int .i64 s, .int .u16 nn] 44) = w0 at S0 M0 HO hc hf ⊢
  generalize w.heap.size = ob at HO NO ⊢
  have ho := HO.out.2.1
  with_reducible refine (idle_p S0.out (by omega)).mono ?_
  rintro e w1 ⟨rfl, v1, s', m'⟩
  have HO' := Lib.hid (m'.has HO.out NO.out)
  have NO' := Lib.hid (m'.far HO.out.1 NO.out)
  clear ho HO NO
  have HO := HO'
  have NO := NO'
  clear HO' NO'
  have ho := HO.out.2.1
  have M1 := Lib.hid (M0.out.trans m')
  obtain ⟨y1, hy⟩ : ∃ q_, q_ = idle y := ⟨_, rfl⟩
  rw [← hy] at s'
  have Y1 := Lib.hid hy
  clear hc hf
  obtain ⟨hc, hf⟩ := s'.cp
  have S1 := Lib.hid s'
  clear s' m' hy
  go_wp2_with fail
  with_reducible refine (idle_p S1.out (by omega)).mono ?_
  rintro e w2 ⟨rfl, v2, s', m'⟩
  have HO' := Lib.hid (m'.has HO.out NO.out)
  have NO' := Lib.hid (m'.far HO.out.1 NO.out)
  clear ho HO NO
  have HO := HO'
  have NO := NO'
  clear HO' NO'
  have ho := HO.out.2.1
  have M2 := Lib.hid (M1.out.trans m')
  obtain ⟨y2, hy⟩ : ∃ q_, q_ = idle y1 := ⟨_, rfl⟩
  rw [← hy] at s'
  have Y2 := Lib.hid hy
  clear hc hf
  obtain ⟨hc, hf⟩ := s'.cp
  have S2 := Lib.hid s'
  clear s' m' hy
  have spb := S2.out.spb
  go_wp2
  have S2' := Lib.hid S2.out.drew
  have M2' := Lib.hid (M2.out.trans (PM.drew P R M tb v2 w2))
  have HO' := Lib.hid HO.out.drew
  clear ho HO
  have HO := HO'
  clear HO'
  clear hc hf
  refine wp_region_held_drew (S := (fun w' => (∀ j, w'.cell? ⟨ob, j, none⟩ = #[Value.int .i64 41, .int .i64 x, .int .i64 z, .int .i64 s, .int .u16 nn][j]?) ∧ True)) (by kernel_rfl) ⟨HO.out.2.1, trivial⟩ (fun hHeld => ?_)
  generalize World.drew w2 = u2 at hHeld S2' M2' HO ⊢
  clear S2 M2
  have S2 := S2'
  have M2 := M2'
  clear S2' M2'
  refine wpAnyH_take (i := 0) (oi := { dst := some 72, op := Go.Op.move (Go.Operand.tmp 0), type := 94, pos := "calculate.go:105", after := #[], guard := none }) (v := ?v1) rfl (by kernel_rfl) (by kernel_rfl) (by kernel_rfl) (fun _ _ _ h => h) (Or.inl ⟨by rfl, ?y1⟩) (by assumption) ?z1
  case y1 => (intro w hSw; (try dsimp only at hSw); go_simp) <;> with_reducible rfl
  try simp only [Act.put, List.setIfInBounds_toArray, List.set_cons_zero, List.set_cons_succ]
  refine wpAnyH_take (i := 1) (oi := { dst := some 73, op := Go.Op.move (Go.Operand.tmp 0), type := 94, pos := "calculate.go:105", after := #[{ on := 19, ground := Go.Ground.gcOnly Go.Departure.lateStores }], guard := none }) (v := ?v2) rfl (by kernel_rfl) (by kernel_rfl) (by kernel_rfl) (fun _ _ _ h => h) (Or.inl ⟨by rfl, ?y2⟩) (by assumption) ?z2
  case y2 => (intro w hSw; (try dsimp only at hSw); go_simp) <;> with_reducible rfl
  try simp only [Act.put, List.setIfInBounds_toArray, List.set_cons_zero, List.set_cons_succ]
  refine wpAnyH_take (i := 2) (oi := { dst := some 74, op := Go.Op.move (Go.Operand.tmp 0), type := 94, pos := "calculate.go:105", after := #[], guard := none }) (v := ?v3) rfl (by kernel_rfl) (by kernel_rfl) (by kernel_rfl) (fun _ _ _ h => h) (Or.inl ⟨by rfl, ?y3⟩) (by assumption) ?z3
  case y3 => (intro w hSw; (try dsimp only at hSw); go_simp) <;> with_reducible rfl
  try simp only [Act.put, List.setIfInBounds_toArray, List.set_cons_zero, List.set_cons_succ]
  refine wpAnyH_take (i := 3) (oi := { dst := some 75, op := Go.Op.nilCheck (Go.Operand.tmp 74), type := 0, pos := "calculate.go:105", after := #[{ on := 2, ground := Go.Ground.data }], guard := none }) (v := ?v4) rfl (by kernel_rfl) (by kernel_rfl) (by kernel_rfl) (fun _ _ _ h => h) (Or.inl ⟨by rfl, ?y4⟩) (by assumption) ?z4
  case y4 => (intro w hSw; (try dsimp only at hSw); go_simp) <;> with_reducible rfl
  try simp only [Act.put, List.setIfInBounds_toArray, List.set_cons_zero, List.set_cons_succ]
  refine wpAnyH_take (i := 4) (oi := { dst := some 76, op := Go.Op.fieldAddr 85 (Go.Operand.tmp 75) 0, type := 0, pos := "calculate.go:105", after := #[{ on := 3, ground := Go.Ground.data }], guard := none }) (v := ?v5) rfl (by kernel_rfl) (by kernel_rfl) (by kernel_rfl) (fun _ _ _ h => h) (Or.inl ⟨by rfl, ?y5⟩) (by assumption) ?z5
  case y5 => (intro w hSw; (try dsimp only at hSw); go_simp) <;> with_reducible rfl
  try simp only [Act.put, List.setIfInBounds_toArray, List.set_cons_zero, List.set_cons_succ]
  refine wpAnyH_take (i := 5) (oi := { dst := some 77, op := Go.Op.fieldAddr 41 (Go.Operand.tmp 76) 0, type := 0, pos := "calculate.go:105", after := #[{ on := 4, ground := Go.Ground.data }], guard := none }) (v := ?v6) rfl (by kernel_rfl) (by kernel_rfl) (by kernel_rfl) (fun _ _ _ h => h) (Or.inl ⟨by rfl, ?y6⟩) (by assumption) ?z6
  case y6 => (intro w hSw; (try dsimp only at hSw); go_simp) <;> with_reducible rfl
  try simp only [Act.put, List.setIfInBounds_toArray, List.set_cons_zero, List.set_cons_succ]
  refine wpAnyH_take (i := 6) (oi := { dst := some 78, op := Go.Op.fieldAddr 39 (Go.Operand.tmp 77) 8, type := 0, pos := "calculate.go:105", after := #[{ on := 5, ground := Go.Ground.data }], guard := none }) (v := ?v7) rfl (by kernel_rfl) (by kernel_rfl) (by kernel_rfl) (fun _ _ _ h => h) (Or.inl ⟨by rfl, ?y7⟩) (by assumption) ?z7
  case y7 => (intro w hSw; (try dsimp only at hSw); go_simp) <;> with_reducible rfl
  try simp only [Act.put, List.setIfInBounds_toArray, List.set_cons_zero, List.set_cons_succ]
  refine wpAnyH_take (i := 8) (oi := { dst := some 80, op := Go.Op.fieldAddr 44 (Go.Operand.tmp 3) 4, type := 0, pos := "calculate.go:105", after := #[], guard := none }) (v := ?v8) rfl (by kernel_rfl) (by kernel_rfl) (by kernel_rfl) (fun _ _ _ h => h) (Or.inl ⟨by rfl, ?y8⟩) (by assumption) ?z8
  case y8 => (intro w hSw; (try dsimp only at hSw); go_simp) <;> with_reducible rfl
  try simp only [Act.put, List.setIfInBounds_toArray, List.set_cons_zero, List.set_cons_succ]
  refine wpAnyH_take (i := 9) (oi := { dst := some 81, op := Go.Op.load 22 (Go.Operand.tmp 80), type := 22, pos := "calculate.go:105", after := #[{ on := 8, ground := Go.Ground.data }], guard := none }) (v := ?v9) rfl (by kernel_rfl) (by kernel_rfl) (by kernel_rfl) (fun _ _ _ h => h) (Or.inl ⟨by rfl, ?y9⟩) (by assumption) ?z9
  case y9 => (intro w hSw; (try dsimp only at hSw); go_simp) <;> with_reducible rfl
  try simp only [Act.put, List.setIfInBounds_toArray, List.set_cons_zero, List.set_cons_succ]
  refine wpAnyH_take (i := 10) (oi := { dst := some 82, op := Go.Op.convert 22 5 (Go.Operand.tmp 81), type := 5, pos := "calculate.go:105", after := #[{ on := 9, ground := Go.Ground.data }], guard := none }) (v := ?v10) rfl (by kernel_rfl) (by kernel_rfl) (by kernel_rfl) (fun _ _ _ h => h) (Or.inl ⟨by rfl, ?y10⟩) (by assumption) ?z10
  case y10 => (intro w hSw; (try dsimp only at hSw); go_simp) <;> with_reducible rfl
  try simp only [Act.put, List.setIfInBounds_toArray, List.set_cons_zero, List.set_cons_succ]
  refine wpAnyH_ready (rs := [7]) (by kernel_rfl) (by simp) ?_
  refine (AllReadyH.cons (o := { dst := some 79, op := Go.Op.load 22 (Go.Operand.tmp 78), type := 22, pos := "calculate.go:105", after := #[{ on := 6, ground := Go.Ground.data }], guard := none }) rfl (fun K hK => ?_) AllReadyH.nil)
  · skip
    obtain ⟨hc, hf⟩ := S2.out.cp
    go_simp
    clear hc hf
    refine hK.out _ _ ?s11 (fun hNew => ?r11)
    case s11 => exact hHeld
    clear hK K hHeld
    have hHeld := hNew
    clear hNew
    try simp only [Act.put, List.setIfInBounds_toArray, List.set_cons_zero, List.set_cons_succ]
    refine wpAnyH_ready (rs := [11]) (by kernel_rfl) (by simp) ?_
    refine (AllReadyH.cons (o := { dst := some 83, op := Go.Op.call { callee := Go.Callee.value (Go.Operand.func 118), args := #[Go.Operand.tmp 79, Go.Operand.tmp 82], argTypes := #[22, 5] }, type := 107, pos := "calculate.go:105", after := #[{ on := 7, ground := Go.Ground.data }, { on := 10, ground := Go.Ground.data }], guard := none }) rfl (fun K hK => ?_) AllReadyH.nil)
    · skip
      go_simp
      rw [IntKind.wrap_u8 nn]
      go_wp2_with (go_at_call 118; (with_reducible refine (Alu.shift16_c y2.s.r.sp (nn % 256) spb.1 spb.2 (by omega) (by omega) _).mono ?_); rintro e u' ⟨rfl, rfl⟩)
      refine hK.out _ _ ?s12 (fun hNew => ?r12)
      case s12 => exact hHeld
      clear hK K hHeld
      have hHeld := hNew
      clear hNew
      refine wpAnyH_take (i := 12) (oi := { dst := some 71, op := Go.Op.move (Go.Operand.tmp 83), type := 107, pos := "calculate.go:105", after := #[{ on := 11, ground := Go.Ground.data }], guard := none }) (v := ?v13) rfl (by kernel_rfl) (by kernel_rfl) (by kernel_rfl) (fun _ _ _ h => h) (Or.inl ⟨by rfl, ?y13⟩) (by assumption) ?z13
      case y13 => (intro w hSw; (try dsimp only at hSw); go_simp) <;> with_reducible rfl
      try simp only [Act.put, List.setIfInBounds_toArray, List.set_cons_zero, List.set_cons_succ]
      refine wpAnyH_take (i := 13) (oi := { dst := some 84, op := Go.Op.extract (Go.Operand.tmp 71) 0, type := 22, pos := "calculate.go:105", after := #[{ on := 12, ground := Go.Ground.data }], guard := none }) (v := ?v14) rfl (by kernel_rfl) (by kernel_rfl) (by kernel_rfl) (fun _ _ _ h => h) (Or.inl ⟨by rfl, ?y14⟩) (by assumption) ?z14
      case y14 => (intro w hSw; (try dsimp only at hSw); go_simp) <;> with_reducible rfl
      try simp only [Act.put, List.setIfInBounds_toArray, List.set_cons_zero, List.set_cons_succ]
      refine wpAnyH_take (i := 14) (oi := { dst := some 85, op := Go.Op.extract (Go.Operand.tmp 71) 1, type := 5, pos := "calculate.go:105", after := #[{ on := 12, ground := Go.Ground.data }, { on := 19, ground := Go.Ground.gcOnly Go.Departure.lateStores }], guard := none }) (v := ?v15) rfl (by kernel_rfl) (by kernel_rfl) (by kernel_rfl) (fun _ _ _ h => h) (Or.inl ⟨by rfl, ?y15⟩) (by assumption) ?z15
      case y15 => (intro w hSw; (try dsimp only at hSw); go_simp) <;> with_reducible rfl
      try simp only [Act.put, List.setIfInBounds_toArray, List.set_cons_zero, List.set_cons_succ]
      refine wpAnyH_take (i := 15) (oi := { dst := some 86, op := Go.Op.nilCheck (Go.Operand.tmp 72), type := 0, pos := "calculate.go:105", after := #[{ on := 0, ground := Go.Ground.data }, { on := 0, ground := Go.Ground.phase }, { on := 1, ground := Go.Ground.textOnly Go.Departure.lateStores }, { on := 2, ground := Go.Ground.phase }, { on := 3, ground := Go.Ground.phase }, { on := 4, ground := Go.Ground.phase }, { on := 5, ground := Go.Ground.phase }, { on := 6, ground := Go.Ground.phase }, { on := 7, ground := Go.Ground.phase }, { on := 8, ground := Go.Ground.phase }, { on := 9, ground := Go.Ground.phase }, { on := 10, ground := Go.Ground.phase }, { on := 11, ground := Go.Ground.phase }, { on := 12, ground := Go.Ground.phase }, { on := 13, ground := Go.Ground.phase }, { on := 14, ground := Go.Ground.textOnly Go.Departure.lateStores }], guard := none }) (v := ?v16) rfl (by kernel_rfl) (by kernel_rfl) (by kernel_rfl) (fun _ _ _ h => h) (Or.inl ⟨by rfl, ?y16⟩) (by assumption) ?z16
      case y16 => (intro w hSw; (try dsimp only at hSw); go_simp) <;> with_reducible rfl
      try simp only [Act.put, List.setIfInBounds_toArray, List.set_cons_zero, List.set_cons_succ]
      refine wpAnyH_take (i := 16) (oi := { dst := some 87, op := Go.Op.fieldAddr 85 (Go.Operand.tmp 86) 0, type := 0, pos := "calculate.go:105", after := #[{ on := 15, ground := Go.Ground.data }, { on := 0, ground := Go.Ground.phase }, { on := 1, ground := Go.Ground.textOnly Go.Departure.lateStores }, { on := 2, ground := Go.Ground.phase }, { on := 3, ground := Go.Ground.phase }, { on := 4, ground := Go.Ground.phase }, { on := 5, ground := Go.Ground.phase }, { on := 6, ground := Go.Ground.phase }, { on := 7, ground := Go.Ground.phase }, { on := 8, ground := Go.Ground.phase }, { on := 9, ground := Go.Ground.phase }, { on := 10, ground := Go.Ground.phase }, { on := 11, ground := Go.Ground.phase }, { on := 12, ground := Go.Ground.phase }, { on := 13, ground := Go.Ground.phase }, { on := 14, ground := Go.Ground.textOnly Go.Departure.lateStores }], guard := none }) (v := ?v17) rfl (by kernel_rfl) (by kernel_rfl) (by kernel_rfl) (fun _ _ _ h => h) (Or.inl ⟨by rfl, ?y17⟩) (by assumption) ?z17
      case y17 => (intro w hSw; (try dsimp only at hSw); go_simp) <;> with_reducible rfl
      try simp only [Act.put, List.setIfInBounds_toArray, List.set_cons_zero, List.set_cons_succ]
      refine wpAnyH_take (i := 17) (oi := { dst := some 88, op := Go.Op.fieldAddr 41 (Go.Operand.tmp 87) 0, type := 0, pos := "calculate.go:105", after := #[{ on := 16, ground := Go.Ground.data }, { on := 0, ground := Go.Ground.phase }, { on := 1, ground := Go.Ground.textOnly Go.Departure.lateStores }, { on := 2, ground := Go.Ground.phase }, { on := 3, ground := Go.Ground.phase }, { on := 4, ground := Go.Ground.phase }, { on := 5, ground := Go.Ground.phase }, { on := 6, ground := Go.Ground.phase }, { on := 7, ground := Go.Ground.phase }, { on := 8, ground := Go.Ground.phase }, { on := 9, ground := Go.Ground.phase }, { on := 10, ground := Go.Ground.phase }, { on := 11, ground := Go.Ground.phase }, { on := 12, ground := Go.Ground.phase }, { on := 13, ground := Go.Ground.phase }, { on := 14, ground := Go.Ground.textOnly Go.Departure.lateStores }], guard := none }) (v := ?v18) rfl (by kernel_rfl) (by kernel_rfl) (by kernel_rfl) (fun _ _ _ h => h) (Or.inl ⟨by rfl, ?y18⟩) (by assumption) ?z18
      case y18 => (intro w hSw; (try dsimp only at hSw); go_simp) <;> with_reducible rfl
      try simp only [Act.put, List.setIfInBounds_toArray, List.set_cons_zero, List.set_cons_succ]
      refine wpAnyH_take (i := 18) (oi := { dst := some 89, op := Go.Op.fieldAddr 39 (Go.Operand.tmp 88) 8, type := 0, pos := "calculate.go:105", after := #[{ on := 17, ground := Go.Ground.data }, { on := 0, ground := Go.Ground.phase }, { on := 1, ground := Go.Ground.textOnly Go.Departure.lateStores }, { on := 2, ground := Go.Ground.phase }, { on := 3, ground := Go.Ground.phase }, { on := 4, ground := Go.Ground.phase }, { on := 5, ground := Go.Ground.phase }, { on := 6, ground := Go.Ground.phase }, { on := 7, ground := Go.Ground.phase }, { on := 8, ground := Go.Ground.phase }, { on := 9, ground := Go.Ground.phase }, { on := 10, ground := Go.Ground.phase }, { on := 11, ground := Go.Ground.phase }, { on := 12, ground := Go.Ground.phase }, { on := 13, ground := Go.Ground.phase }, { on := 14, ground := Go.Ground.textOnly Go.Departure.lateStores }], guard := none }) (v := ?v19) rfl (by kernel_rfl) (by kernel_rfl) (by kernel_rfl) (fun _ _ _ h => h) (Or.inl ⟨by rfl, ?y19⟩) (by assumption) ?z19
      case y19 => (intro w hSw; (try dsimp only at hSw); go_simp) <;> with_reducible rfl
      try simp only [Act.put, List.setIfInBounds_toArray, List.set_cons_zero, List.set_cons_succ]
      refine wpAnyH_ready (rs := [19]) (by kernel_rfl) (by simp) ?_
      refine (AllReadyH.cons (o := { dst := none, op := Go.Op.store 22 (Go.Operand.tmp 89) (Go.Operand.tmp 84), type := 0, pos := "calculate.go:105", after := #[{ on := 18, ground := Go.Ground.data }, { on := 13, ground := Go.Ground.data }, { on := 11, ground := Go.Ground.chain }, { on := 0, ground := Go.Ground.phase }, { on := 1, ground := Go.Ground.textOnly Go.Departure.lateStores }, { on := 2, ground := Go.Ground.phase }, { on := 3, ground := Go.Ground.phase }, { on := 4, ground := Go.Ground.phase }, { on := 5, ground := Go.Ground.phase }, { on := 6, ground := Go.Ground.phase }, { on := 7, ground := Go.Ground.phase }, { on := 8, ground := Go.Ground.phase }, { on := 9, ground := Go.Ground.phase }, { on := 10, ground := Go.Ground.phase }, { on := 11, ground := Go.Ground.phase }, { on := 12, ground := Go.Ground.phase }, { on := 13, ground := Go.Ground.phase }, { on := 14, ground := Go.Ground.textOnly Go.Departure.lateStores }], guard := none }) rfl (fun K hK => ?_) AllReadyH.nil)
      · skip
        obtain ⟨hc, hf⟩ := S2.out.cp
        go_simp
        clear hc hf
        have q := S2.out.stSP (Alu.shiftR y2.s.r.sp (nn % 256)) (shiftR_b _ _).1 (shiftR_b _ _).2
        have s' := q.1
        have m' := q.2
        clear q
        have HO' := Lib.hid (m'.has HO.out NO.out)
        have NO' := Lib.hid (m'.far HO.out.1 NO.out)
        clear HO NO
        have HO := HO'
        have NO := NO'
        clear HO' NO'
        refine hK.out _ _ ?s20 (fun hNew => ?r20)
        case s20 => exact ⟨HO.out.2.1, trivial⟩
        clear hK K hHeld
        have hHeld := hNew
        clear hNew
        generalize World.setCell u2 ⟨P, 8, none⟩ (.int .u16 (Alu.shiftR y2.s.r.sp (nn % 256))) = w3 at hHeld s' m' HO ⊢
        have M3 := Lib.hid (M2.out.trans m')
        obtain ⟨y3, hy⟩ : ∃ q_, q_ = setSP (Alu.shiftR y2.s.r.sp (nn % 256)) y2 := ⟨_, rfl⟩
        rw [← hy] at s'
        have Y3 := Lib.hid hy
        have S3 := Lib.hid s'
        clear s' m' hy
        refine wpAnyH_take (i := 20) (oi := { dst := some 90, op := Go.Op.nilCheck (Go.Operand.tmp 73), type := 0, pos := "calculate.go:105", after := #[{ on := 1, ground := Go.Ground.data }, { on := 0, ground := Go.Ground.phase }, { on := 1, ground := Go.Ground.phase }, { on := 2, ground := Go.Ground.phase }, { on := 3, ground := Go.Ground.phase }, { on := 4, ground := Go.Ground.phase }, { on := 5, ground := Go.Ground.phase }, { on := 6, ground := Go.Ground.phase }, { on := 7, ground := Go.Ground.phase }, { on := 8, ground := Go.Ground.phase }, { on := 9, ground := Go.Ground.phase }, { on := 10, ground := Go.Ground.phase }, { on := 11, ground := Go.Ground.phase }, { on := 12, ground := Go.Ground.phase }, { on := 13, ground := Go.Ground.phase }, { on := 14, ground := Go.Ground.phase }, { on := 15, ground := Go.Ground.phase }, { on := 16, ground := Go.Ground.phase }, { on := 17, ground := Go.Ground.phase }, { on := 18, ground := Go.Ground.phase }, { on := 19, ground := Go.Ground.phase }], guard := none }) (v := ?v21) rfl (by kernel_rfl) (by kernel_rfl) (by kernel_rfl) (fun _ _ _ h => h) (Or.inl ⟨by rfl, ?y21⟩) (by assumption) ?z21
        case y21 => (intro w hSw; (try dsimp only at hSw); go_simp) <;> with_reducible rfl
        try simp only [Act.put, List.setIfInBounds_toArray, List.set_cons_zero, List.set_cons_succ]
        refine wpAnyH_take (i := 21) (oi := { dst := some 91, op := Go.Op.fieldAddr 85 (Go.Operand.tmp 90) 0, type := 0, pos := "calculate.go:105", after := #[{ on := 20, ground := Go.Ground.data }, { on := 0, ground := Go.Ground.phase }, { on := 1, ground := Go.Ground.phase }, { on := 2, ground := Go.Ground.phase }, { on := 3, ground := Go.Ground.phase }, { on := 4, ground := Go.Ground.phase }, { on := 5, ground := Go.Ground.phase }, { on := 6, ground := Go.Ground.phase }, { on := 7, ground := Go.Ground.phase }, { on := 8, ground := Go.Ground.phase }, { on := 9, ground := Go.Ground.phase }, { on := 10, ground := Go.Ground.phase }, { on := 11, ground := Go.Ground.phase }, { on := 12, ground := Go.Ground.phase }, { on := 13, ground := Go.Ground.phase }, { on := 14, ground := Go.Ground.phase }, { on := 15, ground := Go.Ground.phase }, { on := 16, ground := Go.Ground.phase }, { on := 17, ground := Go.Ground.phase }, { on := 18, ground := Go.Ground.phase }, { on := 19, ground := Go.Ground.phase }], guard := none }) (v := ?v22) rfl (by kernel_rfl) (by kernel_rfl) (by kernel_rfl) (fun _ _ _ h => h) (Or.inl ⟨by rfl, ?y22⟩) (by assumption) ?z22
        case y22 => (intro w hSw; (try dsimp only at hSw); go_simp) <;> with_reducible rfl
        try simp only [Act.put, List.setIfInBounds_toArray, List.set_cons_zero, List.set_cons_succ]
        refine wpAnyH_take (i := 22) (oi := { dst := some 92, op := Go.Op.fieldAddr 41 (Go.Operand.tmp 91) 0, type := 0, pos := "calculate.go:105", after := #[{ on := 21, ground := Go.Ground.data }, { on := 0, ground := Go.Ground.phase }, { on := 1, ground := Go.Ground.phase }, { on := 2, ground := Go.Ground.phase }, { on := 3, ground := Go.Ground.phase }, { on := 4, ground := Go.Ground.phase }, { on := 5, ground := Go.Ground.phase }, { on := 6, ground := Go.Ground.phase }, { on := 7, ground := Go.Ground.phase }, { on := 8, ground := Go.Ground.phase }, { on := 9, ground := Go.Ground.phase }, { on := 10, ground := Go.Ground.phase }, { on := 11, ground := Go.Ground.phase }, { on := 12, ground := Go.Ground.phase }, { on := 13, ground := Go.Ground.phase }, { on := 14, ground := Go.Ground.phase }, { on := 15, ground := Go.Ground.phase }, { on := 16, ground := Go.Ground.phase }, { on := 17, ground := Go.Ground.phase }, { on := 18, ground := Go.Ground.phase }, { on := 19, ground := Go.Ground.phase }], guard := none }) (v := ?v23) rfl (by kernel_rfl) (by kernel_rfl) (by kernel_rfl) (fun _ _ _ h => h) (Or.inl ⟨by rfl, ?y23⟩) (by assumption) ?z23
        case y23 => (intro w hSw; (try dsimp only at hSw); go_simp) <;> with_reducible rfl
        try simp only [Act.put, List.setIfInBounds_toArray, List.set_cons_zero, List.set_cons_succ]
        refine wpAnyH_take (i := 23) (oi := { dst := some 93, op := Go.Op.fieldAddr 39 (Go.Operand.tmp 92) 1, type := 0, pos := "calculate.go:105", after := #[{ on := 22, ground := Go.Ground.data }, { on := 0, ground := Go.Ground.phase }, { on := 1, ground := Go.Ground.phase }, { on := 2, ground := Go.Ground.phase }, { on := 3, ground := Go.Ground.phase }, { on := 4, ground := Go.Ground.phase }, { on := 5, ground := Go.Ground.phase }, { on := 6, ground := Go.Ground.phase }, { on := 7, ground := Go.Ground.phase }, { on := 8, ground := Go.Ground.phase }, { on := 9, ground := Go.Ground.phase }, { on := 10, ground := Go.Ground.phase }, { on := 11, ground := Go.Ground.phase }, { on := 12, ground := Go.Ground.phase }, { on := 13, ground := Go.Ground.phase }, { on := 14, ground := Go.Ground.phase }, { on := 15, ground := Go.Ground.phase }, { on := 16, ground := Go.Ground.phase }, { on := 17, ground := Go.Ground.phase }, { on := 18, ground := Go.Ground.phase }, { on := 19, ground := Go.Ground.phase }], guard := none }) (v := ?v24) rfl (by kernel_rfl) (by kernel_rfl) (by kernel_rfl) (fun _ _ _ h => h) (Or.inl ⟨by rfl, ?y24⟩) (by assumption) ?z24
        case y24 => (intro w hSw; (try dsimp only at hSw); go_simp) <;> with_reducible rfl
        try simp only [Act.put, List.setIfInBounds_toArray, List.set_cons_zero, List.set_cons_succ]
        refine wpAnyH_ready (rs := [24]) (by kernel_rfl) (by simp) ?_
        refine (AllReadyH.cons (o := { dst := none, op := Go.Op.store 5 (Go.Operand.tmp 93) (Go.Operand.tmp 85), type := 0, pos := "calculate.go:105", after := #[{ on := 23, ground := Go.Ground.data }, { on := 14, ground := Go.Ground.data }, { on := 19, ground := Go.Ground.chain }, { on := 0, ground := Go.Ground.phase }, { on := 1, ground := Go.Ground.phase }, { on := 2, ground := Go.Ground.phase }, { on := 3, ground := Go.Ground.phase }, { on := 4, ground := Go.Ground.phase }, { on := 5, ground := Go.Ground.phase }, { on := 6, ground := Go.Ground.phase }, { on := 7, ground := Go.Ground.phase }, { on := 8, ground := Go.Ground.phase }, { on := 9, ground := Go.Ground.phase }, { on := 10, ground := Go.Ground.phase }, { on := 11, ground := Go.Ground.phase }, { on := 12, ground := Go.Ground.phase }, { on := 13, ground := Go.Ground.phase }, { on := 14, ground := Go.Ground.phase }, { on := 15, ground := Go.Ground.phase }, { on := 16, ground := Go.Ground.phase }, { on := 17, ground := Go.Ground.phase }, { on := 18, ground := Go.Ground.phase }, { on := 19, ground := Go.Ground.phase }], guard := none }) rfl (fun K hK => ?_) AllReadyH.nil)
        · skip
          obtain ⟨hc, hf⟩ := S3.out.cp
          go_simp
          clear hc hf
          have q := S3.out.stF (Alu.shiftF y2.s.r.sp (nn % 256)) (Alu.FL_b _ _ _ _).1 (Alu.FL_b _ _ _ _).2
          have s' := q.1
          have m' := q.2
          clear q
          have HO' := Lib.hid (m'.has HO.out NO.out)
          have NO' := Lib.hid (m'.far HO.out.1 NO.out)
          clear HO NO
          have HO := HO'
          have NO := NO'
          clear HO' NO'
          refine hK.out _ _ ?s25 (fun hNew => ?r25)
          case s25 => exact ⟨HO.out.2.1, trivial⟩
          clear hK K hHeld
          have hHeld := hNew
          clear hNew
          generalize World.setCell w3 ⟨P, 1, none⟩ (.int .u8 (Alu.shiftF y2.s.r.sp (nn % 256))) = w4 at hHeld s' m' HO ⊢
          have M4 := Lib.hid (M3.out.trans m')
          obtain ⟨y4, hy⟩ : ∃ q_, q_ = setF (Alu.shiftF y2.s.r.sp (nn % 256)) y3 := ⟨_, rfl⟩
          rw [← hy] at s'
          have Y4 := Lib.hid hy
          have S4 := Lib.hid s'
          clear s' m' hy
          refine wpAnyH_done (by kernel_rfl) ?_ _
          obtain ⟨hc, hf⟩ := S4.out.cp
          have ho := HO.out.2.1
          go_wp2
          go_end0
          refine ⟨rfl, v2, ?_, M4.out⟩
          have q := S4.out
          have e := Y4.out.symm
          subst e
          have e := Y3.out.symm
          subst e
          have e := Y2.out.symm
          subst e
          have e := Y1.out.symm
          subst e
          exact Sys.mono (n' := n + 2) q (by omega)
set_option maxHeartbeats 2000000 in
theorem words_42 (h0 : Sys procD ramC w P R M tb v y n) (hn : n < 970000) (x z s nn : Int) : Calls Tryz.prog 96 #[.pointer (some ⟨P, 0, none⟩), .agg #[.int .i64 42, .int .i64 x, .int .i64 z, .int .i64 s, .int .u16 nn]] w (PE procD ramC P R M tb v w (.tuple #[]) (setF (Alu.shiftF y.s.r.sp (nn % 256)) (pairS 2 (Alu.shiftR y.s.r.sp (nn % 256)) (idle y))) (n + 1)) := by
  have hm := mI ⟨R, 0, none⟩
  have S0 := Lib.hid (h0.below (own1 w (.cells #[.int .i64 42, .int .i64 x, .int .i64 z, .int .i64 s, .int .u16 nn] 44)))
  have M0 := Lib.hid (show PM P R M tb v w v (w.alloc (.cells #[.int .i64 42, .int .i64 x, .int .i64 z, .int .i64 s, .int .u16 nn] 44)) from PM.of (own1 w (.cells #[.int .i64 42, .int .i64 x, .int .i64 z, .int .i64 s, .int .u16 nn] 44)))
  have HO := Lib.hid (Has.new w #[.int .i64 42, .int .i64 x, .int .i64 z, .int .i64 s, .int .u16 nn] 44)
  have NO := Lib.hid (h0.new (Nat.le_refl w.heap.size))
  obtain ⟨hc, hf⟩ := S0.out.cp
  clear h0
  go_enter Tryz.func96, Tryz.ntmps96
  go_wp2_with fail
  generalize w.alloc (.cells #[.int .i64 42, .int .i64 x, .int .i64 z, .int .i64 s, .int .u16 nn] 44) = w0 at S0 M0 HO hc hf ⊢
  generalize w.heap.size = ob at HO NO ⊢
  have ho := HO.out.2.1
  with_reducible refine (idle_p S0.out (by omega)).mono ?_
  rintro e w1 ⟨rfl, v1, s', m'⟩
  have HO' := Lib.hid (m'.has HO.out NO.out)
  have NO' := Lib.hid (m'.far HO.out.1 NO.out)
  clear ho HO NO
  have HO := HO'
  have NO := NO'
  clear HO' NO'
  have ho := HO.out.2.1
  have M1 := Lib.hid (M0.out.trans m')
  obtain ⟨y1, hy⟩ : ∃ q_, q_ = idle y := ⟨_, rfl⟩
  rw [← hy] at s'
  have Y1 := Lib.hid hy
  clear hc hf
  obtain ⟨hc, hf⟩ := s'.cp
  have S1 := Lib.hid s'
  clear s' m' hy
  have spb := S1.out.spb
  go_wp2
  have S1' := Lib.hid S1.out.drew
  have M1' := Lib.hid (M1.out.trans (PM.drew P R M tb v1 w1))
  have HO' := Lib.hid HO.out.drew
  clear ho HO
  have HO := HO'
  clear HO'
  clear hc hf
  refine wp_region_held_drew (S := (fun w' => (∀ j, w'.cell? ⟨ob, j, none⟩ = #[Value.int .i64 42, .int .i64 x, .int .i64 z, .int .i64 s, .int .u16 nn][j]?) ∧ (w'.cell? ⟨P, 8, none⟩ = some (.int .u16 y1.s.r.sp)) ∧ True)) (by kernel_rfl) ⟨HO.out.2.1, S1'.out.cp.1 8, trivial⟩ (fun hHeld => ?_)
  generalize World.drew w1 = u1 at hHeld S1' M1' HO ⊢
  clear S1 M1
  have S1 := S1'
  have M1 := M1'
  clear S1' M1'
  refine wpAnyH_take (i := 0) (oi := { dst := some 97, op := Go.Op.move (Go.Operand.tmp 0), type := 94, pos := "calculate.go:107", after := #[], guard := none }) (v := ?v1) rfl (by kernel_rfl) (by kernel_rfl) (by kernel_rfl) (fun _ _ _ h => h) (Or.inl ⟨by rfl, ?y1⟩) (by assumption) ?z1
  case y1 => (intro w hSw; (try dsimp only at hSw); go_simp) <;> with_reducible rfl
  try simp only [Act.put, List.setIfInBounds_toArray, List.set_cons_zero, List.set_cons_succ]
  refine wpAnyH_take (i := 1) (oi := { dst := some 98, op := Go.Op.nilCheck (Go.Operand.tmp 97), type := 0, pos := "calculate.go:107", after := #[{ on := 0, ground := Go.Ground.data }], guard := none }) (v := ?v2) rfl (by kernel_rfl) (by kernel_rfl) (by kernel_rfl) (fun _ _ _ h => h) (Or.inl ⟨by rfl, ?y2⟩) (by assumption) ?z2
  case y2 => (intro w hSw; (try dsimp only at hSw); go_simp) <;> with_reducible rfl
  try simp only [Act.put, List.setIfInBounds_toArray, List.set_cons_zero, List.set_cons_succ]
  refine wpAnyH_take (i := 2) (oi := { dst := some 99, op := Go.Op.fieldAddr 85 (Go.Operand.tmp 98) 0, type := 0, pos := "calculate.go:107", after := #[{ on := 1, ground := Go.Ground.data }], guard := none }) (v := ?v3) rfl (by kernel_rfl) (by kernel_rfl) (by kernel_rfl) (fun _ _ _ h => h) (Or.inl ⟨by rfl, ?y3⟩) (by assumption) ?z3
  case y3 => (intro w hSw; (try dsimp only at hSw); go_simp) <;> with_reducible rfl
  try simp only [Act.put, List.setIfInBounds_toArray, List.set_cons_zero, List.set_cons_succ]
  refine wpAnyH_take (i := 3) (oi := { dst := some 100, op := Go.Op.fieldAddr 41 (Go.Operand.tmp 99) 0, type := 0, pos := "calculate.go:107", after := #[{ on := 2, ground := Go.Ground.data }], guard := none }) (v := ?v4) rfl (by kernel_rfl) (by kernel_rfl) (by kernel_rfl) (fun _ _ _ h => h) (Or.inl ⟨by rfl, ?y4⟩) (by assumption) ?z4
  case y4 => (intro w hSw; (try dsimp only at hSw); go_simp) <;> with_reducible rfl
  try simp only [Act.put, List.setIfInBounds_toArray, List.set_cons_zero, List.set_cons_succ]
  refine wpAnyH_take (i := 4) (oi := { dst := some 101, op := Go.Op.fieldAddr 39 (Go.Operand.tmp 100) 8, type := 0, pos := "calculate.go:107", after := #[{ on := 3, ground := Go.Ground.data }], guard := none }) (v := ?v5) rfl (by kernel_rfl) (by kernel_rfl) (by kernel_rfl) (fun _ _ _ h => h) (Or.inl ⟨by rfl, ?y5⟩) (by assumption) ?z5
  case y5 => (intro w hSw; (try dsimp only at hSw); go_simp) <;> with_reducible rfl
  try simp only [Act.put, List.setIfInBounds_toArray, List.set_cons_zero, List.set_cons_succ]
  refine wpAnyH_take (i := 5) (oi := { dst := some 102, op := Go.Op.load 22 (Go.Operand.tmp 101), type := 22, pos := "calculate.go:107", after := #[{ on := 4, ground := Go.Ground.data }], guard := none }) (v := ?v6) rfl (by kernel_rfl) (by kernel_rfl) (by kernel_rfl) (fun _ _ _ h => h) (Or.inl ⟨by rfl, ?y6⟩) (by assumption) ?z6
  case y6 => (intro w hSw; (try dsimp only at hSw); go_simp) <;> with_reducible rfl
  try simp only [Act.put, List.setIfInBounds_toArray, List.set_cons_zero, List.set_cons_succ]
  refine wpAnyH_take (i := 6) (oi := { dst := some 103, op := Go.Op.fieldAddr 44 (Go.Operand.tmp 3) 4, type := 0, pos := "calculate.go:107", after := #[], guard := none }) (v := ?v7) rfl (by kernel_rfl) (by kernel_rfl) (by kernel_rfl) (fun _ _ _ h => h) (Or.inl ⟨by rfl, ?y7⟩) (by assumption) ?z7
  case y7 => (intro w hSw; (try dsimp only at hSw); go_simp) <;> with_reducible rfl
  try simp only [Act.put, List.setIfInBounds_toArray, List.set_cons_zero, List.set_cons_succ]
  refine wpAnyH_take (i := 7) (oi := { dst := some 104, op := Go.Op.load 22 (Go.Operand.tmp 103), type := 22, pos := "calculate.go:107", after := #[{ on := 6, ground := Go.Ground.data }], guard := none }) (v := ?v8) rfl (by kernel_rfl) (by kernel_rfl) (by kernel_rfl) (fun _ _ _ h => h) (Or.inl ⟨by rfl, ?y8⟩) (by assumption) ?z8
  case y8 => (intro w hSw; (try dsimp only at hSw); go_simp) <;> with_reducible rfl
  try simp only [Act.put, List.setIfInBounds_toArray, List.set_cons_zero, List.set_cons_succ]
  refine wpAnyH_take (i := 8) (oi := { dst := some 105, op := Go.Op.convert 22 5 (Go.Operand.tmp 104), type := 5, pos := "calculate.go:107", after := #[{ on := 7, ground := Go.Ground.data }], guard := none }) (v := ?v9) rfl (by kernel_rfl) (by kernel_rfl) (by kernel_rfl) (fun _ _ _ h => h) (Or.inl ⟨by rfl, ?y9⟩) (by assumption) ?z9
  case y9 => (intro w hSw; (try dsimp only at hSw); go_simp) <;> with_reducible rfl
  try simp only [Act.put, List.setIfInBounds_toArray, List.set_cons_zero, List.set_cons_succ]
  refine wpAnyH_ready (rs := [9]) (by kernel_rfl) (by simp) ?_
  refine (AllReadyH.cons (o := { dst := some 106, op := Go.Op.call { callee := Go.Callee.value (Go.Operand.func 118), args := #[Go.Operand.tmp 102, Go.Operand.tmp 105], argTypes := #[22, 5] }, type := 107, pos := "calculate.go:107", after := #[{ on := 5, ground := Go.Ground.data }, { on := 8, ground := Go.Ground.data }], guard := none }) rfl (fun K hK => ?_) AllReadyH.nil)
  · skip
    go_simp
    rw [IntKind.wrap_u8 nn]
    go_wp2_with (go_at_call 118; (with_reducible refine (Alu.shift16_c y1.s.r.sp (nn % 256) spb.1 spb.2 (by omega) (by omega) _).mono ?_); rintro e u' ⟨rfl, rfl⟩)
    refine hK.out _ _ ?s10 (fun hNew => ?r10)
    case s10 => exact hHeld
    clear hK K hHeld
    have hHeld := hNew
    clear hNew
    refine wpAnyH_take (i := 10) (oi := { dst := some 96, op := Go.Op.move (Go.Operand.tmp 106), type := 107, pos := "calculate.go:107", after := #[{ on := 9, ground := Go.Ground.data }], guard := none }) (v := ?v11) rfl (by kernel_rfl) (by kernel_rfl) (by kernel_rfl) (fun _ _ _ h => h) (Or.inl ⟨by rfl, ?y11⟩) (by assumption) ?z11
    case y11 => (intro w hSw; (try dsimp only at hSw); go_simp) <;> with_reducible rfl
    try simp only [Act.put, List.setIfInBounds_toArray, List.set_cons_zero, List.set_cons_succ]
    refine wpAnyH_take (i := 11) (oi := { dst := some 107, op := Go.Op.extract (Go.Operand.tmp 96) 0, type := 22, pos := "calculate.go:107", after := #[{ on := 10, ground := Go.Ground.data }], guard := none }) (v := ?v12) rfl (by kernel_rfl) (by kernel_rfl) (by kernel_rfl) (fun _ _ _ h => h) (Or.inl ⟨by rfl, ?y12⟩) (by assumption) ?z12
    case y12 => (intro w hSw; (try dsimp only at hSw); go_simp) <;> with_reducible rfl
    try simp only [Act.put, List.setIfInBounds_toArray, List.set_cons_zero, List.set_cons_succ]
    refine wpAnyH_take (i := 12) (oi := { dst := some 108, op := Go.Op.extract (Go.Operand.tmp 96) 1, type := 5, pos := "calculate.go:107", after := #[{ on := 10, ground := Go.Ground.data }, { on := 13, ground := Go.Ground.gcOnly Go.Departure.lateStores }], guard := none }) (v := ?v13) rfl (by kernel_rfl) (by kernel_rfl) (by kernel_rfl) (fun _ _ _ h => h) (Or.inl ⟨by rfl, ?y13⟩) (by assumption) ?z13
    case y13 => (intro w hSw; (try dsimp only at hSw); go_simp) <;> with_reducible rfl
    try simp only [Act.put, List.setIfInBounds_toArray, List.set_cons_zero, List.set_cons_succ]
    refine wpAnyH_take (i := 13) (oi := { dst := some 6, op := Go.Op.assign (Go.Operand.tmp 107), type := 22, pos := "calculate.go:107", after := #[{ on := 11, ground := Go.Ground.data }, { on := 9, ground := Go.Ground.chain }, { on := 0, ground := Go.Ground.phase }, { on := 1, ground := Go.Ground.phase }, { on := 2, ground := Go.Ground.phase }, { on := 3, ground := Go.Ground.phase }, { on := 4, ground := Go.Ground.phase }, { on := 5, ground := Go.Ground.phase }, { on := 6, ground := Go.Ground.phase }, { on := 7, ground := Go.Ground.phase }, { on := 8, ground := Go.Ground.phase }, { on := 9, ground := Go.Ground.phase }, { on := 10, ground := Go.Ground.phase }, { on := 11, ground := Go.Ground.phase }, { on := 12, ground := Go.Ground.textOnly Go.Departure.lateStores }], guard := none }) (v := ?v14) rfl (by kernel_rfl) (by kernel_rfl) (by kernel_rfl) (fun _ _ _ h => h) (Or.inl ⟨by rfl, ?y14⟩) (by assumption) ?z14
    case y14 => (intro w hSw; (try dsimp only at hSw); go_simp) <;> with_reducible rfl
    try simp only [Act.put, List.setIfInBounds_toArray, List.set_cons_zero, List.set_cons_succ]
    refine wpAnyH_take (i := 14) (oi := { dst := some 7, op := Go.Op.assign (Go.Operand.tmp 108), type := 5, pos := "calculate.go:107", after := #[{ on := 12, ground := Go.Ground.data }, { on := 13, ground := Go.Ground.chain }, { on := 0, ground := Go.Ground.phase }, { on := 1, ground := Go.Ground.phase }, { on := 2, ground := Go.Ground.phase }, { on := 3, ground := Go.Ground.phase }, { on := 4, ground := Go.Ground.phase }, { on := 5, ground := Go.Ground.phase }, { on := 6, ground := Go.Ground.phase }, { on := 7, ground := Go.Ground.phase }, { on := 8, ground := Go.Ground.phase }, { on := 9, ground := Go.Ground.phase }, { on := 10, ground := Go.Ground.phase }, { on := 11, ground := Go.Ground.phase }, { on := 12, ground := Go.Ground.phase }, { on := 13, ground := Go.Ground.phase }], guard := none }) (v := ?v15) rfl (by kernel_rfl) (by kernel_rfl) (by kernel_rfl) (fun _ _ _ h => h) (Or.inl ⟨by rfl, ?y15⟩) (by assumption) ?z15
    case y15 => (intro w hSw; (try dsimp only at hSw); go_simp) <;> with_reducible rfl
    try simp only [Act.put, List.setIfInBounds_toArray, List.set_cons_zero, List.set_cons_succ]
    refine wpAnyH_done (by kernel_rfl) ?_ _
    obtain ⟨hc, hf⟩ := S1.out.cp
    have ho := HO.out.2.1
    go_wp2_with fail
    with_reducible refine (setPair_p S1.out (by omega) 2 (Alu.shiftR y1.s.r.sp (nn % 256)) (shiftR_b _ _).1 (shiftR_b _ _).2).mono ?_
    rintro e w2 ⟨rfl, v2, s', m'⟩
    have HO' := Lib.hid (m'.has HO.out NO.out)
    have NO' := Lib.hid (m'.far HO.out.1 NO.out)
    clear ho HO NO
    have HO := HO'
    have NO := NO'
    clear HO' NO'
    have ho := HO.out.2.1
    have M2 := Lib.hid (M1.out.trans m')
    obtain ⟨y2, hy⟩ : ∃ q_, q_ = pairS 2 (Alu.shiftR y1.s.r.sp (nn % 256)) y1 := ⟨_, rfl⟩
    rw [← hy] at s'
    have Y2 := Lib.hid hy
    clear hc hf
    obtain ⟨hc, hf⟩ := s'.cp
    have S2 := Lib.hid s'
    clear s' m' hy
    have Q := Lib.hid (S2.out.stF (Alu.shiftF y1.s.r.sp (nn % 256)) (Alu.FL_b _ _ _ _).1 (Alu.FL_b _ _ _ _).2)
    go_wp2
    go_end0
    refine ⟨rfl, v2, ?_, M2.out.trans Q.out.2⟩
    have q := Q.out.1
    have e1 : setF (Alu.shiftF y.s.r.sp (nn % 256)) (pairS 2 (Alu.shiftR y.s.r.sp (nn % 256)) (idle y)) = setF (Alu.shiftF y1.s.r.sp (nn % 256)) y2 := by rw [Y2.out, Y1.out]; rfl
    rw [e1]
    exact Sys.mono (n' := n + 1) q (by omega)
end
end Go.Proofs.YtngdogldgcgnjaaGreat
