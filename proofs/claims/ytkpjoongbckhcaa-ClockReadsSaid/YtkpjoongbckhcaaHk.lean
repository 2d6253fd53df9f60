/-
  Hold of the program and of the document, time of the document: for every clock; no condition but that it is one.
-/
import Derived.Test.YtkpjoongbckhcaaVia
import Derived.Deep.Cut
import Derived.LoopN
import Derived.Deep.LoopGhost
namespace Go.Proofs.Ytkpjoongbckhcaa
open Go.ChangeShapes Go.WideShapes Go.ChangeAt Go.RowKit
set_option linter.unusedVariables false
set_option linter.unusedSimpArgs false
set_option maxRecDepth 100000
set_option maxHeartbeats 2000000 in
theorem hold_f (s m h day sub : Int) (halt carry : Bool) (a b c d e : Int) (x y : Int) (hd : 0 ≤ day) (hd2 : day < 512) (hy : day % 256 = y) (C1 : ∀ W, Calls Try.prog 22 #[.agg #[.int .u8 s, .int .u8 m, .int .u8 h, .int .i64 day, .int .i64 sub, .bool halt, .bool carry, .int .u8 a, .int .u8 b, .int .u8 c, .int .u8 d, .int .u8 e]] W fun q_ w' => q_ = .returned (.int .u8 x) ∧ Below W.heap.size W w') (w : World) : Calls Try.prog 16 #[.agg #[.int .u8 s, .int .u8 m, .int .u8 h, .int .i64 day, .int .i64 sub, .bool halt, .bool carry, .int .u8 a, .int .u8 b, .int .u8 c, .int .u8 d, .int .u8 e]] w fun q_ w' => q_ = .returned (.agg #[.int .u8 s, .int .u8 m, .int .u8 h, .int .i64 day, .int .i64 sub, .bool halt, .bool carry, .int .u8 s, .int .u8 m, .int .u8 h, .int .u8 y, .int .u8 x]) ∧ Below w.heap.size w w' := by
  suffices hall : ∀ (n_ : Nat) (W0 : World), n_ ≤ W0.heap.size → Below n_ W0 w → Calls Try.prog 16 #[.agg #[.int .u8 s, .int .u8 m, .int .u8 h, .int .i64 day, .int .i64 sub, .bool halt, .bool carry, .int .u8 a, .int .u8 b, .int .u8 c, .int .u8 d, .int .u8 e]] w fun q_ w' => q_ = .returned (.agg #[.int .u8 s, .int .u8 m, .int .u8 h, .int .i64 day, .int .i64 sub, .bool halt, .bool carry, .int .u8 s, .int .u8 m, .int .u8 h, .int .u8 y, .int .u8 x]) ∧ Below n_ W0 w' from hall _ _ (Nat.le_refl _) (Below.refl _ _)
  intro n_ W0 hn hB
  have HN := Lib.hid hn
  have BB := Lib.hid hB
  clear hn hB
  have ey : IntKind.u8.wrap day = y := by rw [← hy, IntKind.wrap_u8]
  have H1 := Lib.hid C1
  clear C1
  go_enter Try.func16, Try.ntmps16
  have Q_ := own2 w (.cells #[.int .u8 s, .int .u8 m, .int .u8 h, .int .i64 day, .int .i64 sub, .bool halt, .bool carry, .int .u8 a, .int .u8 b, .int .u8 c, .int .u8 d, .int .u8 e] 26) (.cells #[.int .u8 0, .int .u8 0, .int .u8 0, .int .i64 0, .int .i64 0, .bool false, .bool false, .int .u8 0, .int .u8 0, .int .u8 0, .int .u8 0, .int .u8 0] 26)
  have B0 := Lib.hid (vian HN.out BB.out Q_)
  have P0 := Lib.hid ((Has.new w #[.int .u8 s, .int .u8 m, .int .u8 h, .int .i64 day, .int .i64 sub, .bool halt, .bool carry, .int .u8 a, .int .u8 b, .int .u8 c, .int .u8 d, .int .u8 e] 26).alloc (.cells #[.int .u8 0, .int .u8 0, .int .u8 0, .int .i64 0, .int .i64 0, .bool false, .bool false, .int .u8 0, .int .u8 0, .int .u8 0, .int .u8 0, .int .u8 0] 26))
  have R0 := Lib.hid (show Has ((w.alloc (.cells #[.int .u8 s, .int .u8 m, .int .u8 h, .int .i64 day, .int .i64 sub, .bool halt, .bool carry, .int .u8 a, .int .u8 b, .int .u8 c, .int .u8 d, .int .u8 e] 26)).alloc (.cells #[.int .u8 0, .int .u8 0, .int .u8 0, .int .i64 0, .int .i64 0, .bool false, .bool false, .int .u8 0, .int .u8 0, .int .u8 0, .int .u8 0, .int .u8 0] 26)) (w.heap.size + 1) #[.int .u8 0, .int .u8 0, .int .u8 0, .int .i64 0, .int .i64 0, .bool false, .bool false, .int .u8 0, .int .u8 0, .int .u8 0, .int .u8 0, .int .u8 0] by simpa using Has.new (w.alloc (.cells #[.int .u8 s, .int .u8 m, .int .u8 h, .int .i64 day, .int .i64 sub, .bool halt, .bool carry, .int .u8 a, .int .u8 b, .int .u8 c, .int .u8 d, .int .u8 e] 26)) #[.int .u8 0, .int .u8 0, .int .u8 0, .int .i64 0, .int .i64 0, .bool false, .bool false, .int .u8 0, .int .u8 0, .int .u8 0, .int .u8 0, .int .u8 0] 26)
  have LP := Lib.hid (Nat.le_trans HN.out BB.out.size)
  have LR := Lib.hid (show n_ ≤ w.heap.size + 1 from Nat.le_succ_of_le (Nat.le_trans HN.out BB.out.size))
  have NE := Lib.hid (show w.heap.size ≠ w.heap.size + 1 by omega)
  clear Q_
  go_upto_region 1 with (fail)
  generalize (w.alloc (.cells #[.int .u8 s, .int .u8 m, .int .u8 h, .int .i64 day, .int .i64 sub, .bool halt, .bool carry, .int .u8 a, .int .u8 b, .int .u8 c, .int .u8 d, .int .u8 e] 26)).alloc (.cells #[.int .u8 0, .int .u8 0, .int .u8 0, .int .i64 0, .int .i64 0, .bool false, .bool false, .int .u8 0, .int .u8 0, .int .u8 0, .int .u8 0, .int .u8 0] 26) = w0 at B0 P0 R0 ⊢
  generalize w.heap.size + 1 = rb at R0 LR NE ⊢
  generalize w.heap.size = pb at P0 LP NE ⊢
  have B0 := Lib.hid B0.out.drew
  have P0 := Lib.hid P0.out.drew
  have R0 := Lib.hid R0.out.drew
  refine wp_region_held_drew (S := (fun w' => (w'.cell? ⟨pb, 0, none⟩ = some (.int .u8 s)) ∧ (w'.cell? ⟨pb, 1, none⟩ = some (.int .u8 m)) ∧ (w'.cell? ⟨pb, 2, none⟩ = some (.int .u8 h)) ∧ (w'.cell? ⟨pb, 3, none⟩ = some (.int .i64 day)))) (by kernel_rfl) ⟨P0.out.2.1 0, P0.out.2.1 1, P0.out.2.1 2, P0.out.2.1 3⟩ (fun hHeld => ?_)
  generalize World.drew w0 = u0 at hHeld B0 P0 R0 ⊢
  refine wpAnyH_take (i := 0) (oi := { dst := some 3, op := Go.Op.fieldAddr 26 (Go.Operand.tmp 1) 0, type := 0, pos := "clock.go:131", after := #[], guard := none }) (v := ?v1) rfl (by kernel_rfl) (by kernel_rfl) (by kernel_rfl) (fun _ _ _ h => h) (Or.inl ⟨by rfl, ?y1⟩) (by assumption) ?z1
  case y1 => (intro w hSw; (try dsimp only at hSw); go_simp) <;> with_reducible rfl
  try simp only [Act.put, List.setIfInBounds_toArray, List.set_cons_zero, List.set_cons_succ]
  refine wpAnyH_take (i := 1) (oi := { dst := some 4, op := Go.Op.load 5 (Go.Operand.tmp 3), type := 5, pos := "clock.go:131", after := #[{ on := 0, ground := Go.Ground.data }], guard := none }) (v := ?v2) rfl (by kernel_rfl) (by kernel_rfl) (by kernel_rfl) (fun _ _ _ h => h) (Or.inl ⟨by rfl, ?y2⟩) (by assumption) ?z2
  case y2 => (intro w hSw; (try dsimp only at hSw); go_simp) <;> with_reducible rfl
  try simp only [Act.put, List.setIfInBounds_toArray, List.set_cons_zero, List.set_cons_succ]
  refine wpAnyH_take (i := 2) (oi := { dst := some 5, op := Go.Op.fieldAddr 26 (Go.Operand.tmp 1) 1, type := 0, pos := "clock.go:131", after := #[], guard := none }) (v := ?v3) rfl (by kernel_rfl) (by kernel_rfl) (by kernel_rfl) (fun _ _ _ h => h) (Or.inl ⟨by rfl, ?y3⟩) (by assumption) ?z3
  case y3 => (intro w hSw; (try dsimp only at hSw); go_simp) <;> with_reducible rfl
  try simp only [Act.put, List.setIfInBounds_toArray, List.set_cons_zero, List.set_cons_succ]
  refine wpAnyH_take (i := 3) (oi := { dst := some 6, op := Go.Op.load 5 (Go.Operand.tmp 5), type := 5, pos := "clock.go:131", after := #[{ on := 2, ground := Go.Ground.data }], guard := none }) (v := ?v4) rfl (by kernel_rfl) (by kernel_rfl) (by kernel_rfl) (fun _ _ _ h => h) (Or.inl ⟨by rfl, ?y4⟩) (by assumption) ?z4
  case y4 => (intro w hSw; (try dsimp only at hSw); go_simp) <;> with_reducible rfl
  try simp only [Act.put, List.setIfInBounds_toArray, List.set_cons_zero, List.set_cons_succ]
  refine wpAnyH_take (i := 4) (oi := { dst := some 7, op := Go.Op.fieldAddr 26 (Go.Operand.tmp 1) 2, type := 0, pos := "clock.go:131", after := #[], guard := none }) (v := ?v5) rfl (by kernel_rfl) (by kernel_rfl) (by kernel_rfl) (fun _ _ _ h => h) (Or.inl ⟨by rfl, ?y5⟩) (by assumption) ?z5
  case y5 => (intro w hSw; (try dsimp only at hSw); go_simp) <;> with_reducible rfl
  try simp only [Act.put, List.setIfInBounds_toArray, List.set_cons_zero, List.set_cons_succ]
  refine wpAnyH_take (i := 5) (oi := { dst := some 8, op := Go.Op.load 5 (Go.Operand.tmp 7), type := 5, pos := "clock.go:131", after := #[{ on := 4, ground := Go.Ground.data }], guard := none }) (v := ?v6) rfl (by kernel_rfl) (by kernel_rfl) (by kernel_rfl) (fun _ _ _ h => h) (Or.inl ⟨by rfl, ?y6⟩) (by assumption) ?z6
  case y6 => (intro w hSw; (try dsimp only at hSw); go_simp) <;> with_reducible rfl
  try simp only [Act.put, List.setIfInBounds_toArray, List.set_cons_zero, List.set_cons_succ]
  refine wpAnyH_take (i := 6) (oi := { dst := some 9, op := Go.Op.fieldAddr 26 (Go.Operand.tmp 1) 3, type := 0, pos := "clock.go:131", after := #[], guard := none }) (v := ?v7) rfl (by kernel_rfl) (by kernel_rfl) (by kernel_rfl) (fun _ _ _ h => h) (Or.inl ⟨by rfl, ?y7⟩) (by assumption) ?z7
  case y7 => (intro w hSw; (try dsimp only at hSw); go_simp) <;> with_reducible rfl
  try simp only [Act.put, List.setIfInBounds_toArray, List.set_cons_zero, List.set_cons_succ]
  refine wpAnyH_take (i := 7) (oi := { dst := some 10, op := Go.Op.load 3 (Go.Operand.tmp 9), type := 3, pos := "clock.go:131", after := #[{ on := 6, ground := Go.Ground.data }], guard := none }) (v := ?v8) rfl (by kernel_rfl) (by kernel_rfl) (by kernel_rfl) (fun _ _ _ h => h) (Or.inl ⟨by rfl, ?y8⟩) (by assumption) ?z8
  case y8 => (intro w hSw; (try dsimp only at hSw); go_simp) <;> with_reducible rfl
  try simp only [Act.put, List.setIfInBounds_toArray, List.set_cons_zero, List.set_cons_succ]
  refine wpAnyH_take (i := 8) (oi := { dst := some 11, op := Go.Op.convert 3 5 (Go.Operand.tmp 10), type := 5, pos := "clock.go:131", after := #[{ on := 7, ground := Go.Ground.data }], guard := none }) (v := ?v9) rfl (by kernel_rfl) (by kernel_rfl) (by kernel_rfl) (fun _ _ _ h => h) (Or.inl ⟨by rfl, ?y9⟩) (by assumption) ?z9
  case y9 => (intro w hSw; (try dsimp only at hSw); go_simp) <;> with_reducible rfl
  try simp only [Act.put, List.setIfInBounds_toArray, List.set_cons_zero, List.set_cons_succ]
  refine wpAnyH_ready (rs := [9]) (by kernel_rfl) (by simp) ?_
  refine (AllReadyH.cons (o := { dst := some 12, op := Go.Op.load 26 (Go.Operand.tmp 1), type := 26, pos := "clock.go:131", after := #[], guard := none }) rfl (fun K hK => ?_) AllReadyH.nil)
  · skip
    obtain ⟨hc, hfz⟩ := P0.out.out
    go_simp
    clear hc hfz
    refine hK.out _ _ ?s10 (fun hNew => ?r10)
    case s10 => exact ⟨P0.out.2.1 0, P0.out.2.1 1, P0.out.2.1 2, P0.out.2.1 3⟩
    clear hK K hHeld
    have hHeld := hNew
    clear hNew
    refine wpAnyH_ready (rs := [10]) (by kernel_rfl) (by simp) ?_
    refine (AllReadyH.cons (o := { dst := some 13, op := Go.Op.call { callee := Go.Callee.value (Go.Operand.func 22), args := #[Go.Operand.tmp 12], argTypes := #[26] }, type := 5, pos := "clock.go:136", after := #[{ on := 9, ground := Go.Ground.data }], guard := none }) rfl (fun K hK => ?_) AllReadyH.nil)
    · skip
      go_simp
      with_reducible refine (H1.out _).mono ?_
      rintro q_ u1 ⟨rfl, hb⟩
      have B1 := Lib.hid (vian HN.out B0.out hb)
      have P1 := Lib.hid (P0.out.below hb)
      have R1 := Lib.hid (R0.out.below hb)
      clear hb B0 P0 R0
      refine hK.out _ _ ?s11 (fun hNew => ?r11)
      case s11 => exact ⟨P1.out.2.1 0, P1.out.2.1 1, P1.out.2.1 2, P1.out.2.1 3⟩
      clear hK K hHeld
      have hHeld := hNew
      clear hNew
      refine wpAnyH_take (i := 11) (oi := { dst := some 14, op := Go.Op.build 24 #[(0, Go.Operand.tmp 4), (1, Go.Operand.tmp 6), (2, Go.Operand.tmp 8), (3, Go.Operand.tmp 11), (4, Go.Operand.tmp 13)], type := 24, pos := "clock.go:131", after := #[{ on := 1, ground := Go.Ground.data }, { on := 3, ground := Go.Ground.data }, { on := 5, ground := Go.Ground.data }, { on := 8, ground := Go.Ground.data }, { on := 10, ground := Go.Ground.data }], guard := none }) (v := ?v12) rfl (by kernel_rfl) (by kernel_rfl) (by kernel_rfl) (fun _ _ _ h => h) (Or.inl ⟨by rfl, ?y12⟩) (by assumption) ?z12
      case y12 => (intro w hSw; (try dsimp only at hSw); go_simp) <;> with_reducible rfl
      try simp only [Act.put, List.setIfInBounds_toArray, List.set_cons_zero, List.set_cons_succ]
      refine wpAnyH_take (i := 12) (oi := { dst := some 15, op := Go.Op.fieldAddr 26 (Go.Operand.tmp 1) 7, type := 0, pos := "clock.go:131", after := #[{ on := 0, ground := Go.Ground.phase }, { on := 1, ground := Go.Ground.phase }, { on := 2, ground := Go.Ground.phase }, { on := 3, ground := Go.Ground.phase }, { on := 4, ground := Go.Ground.phase }, { on := 5, ground := Go.Ground.phase }, { on := 6, ground := Go.Ground.phase }, { on := 7, ground := Go.Ground.phase }, { on := 8, ground := Go.Ground.phase }, { on := 9, ground := Go.Ground.phase }, { on := 10, ground := Go.Ground.phase }, { on := 11, ground := Go.Ground.phase }], guard := none }) (v := ?v13) rfl (by kernel_rfl) (by kernel_rfl) (by kernel_rfl) (fun _ _ _ h => h) (Or.inl ⟨by rfl, ?y13⟩) (by assumption) ?z13
      case y13 => (intro w hSw; (try dsimp only at hSw); go_simp) <;> with_reducible rfl
      try simp only [Act.put, List.setIfInBounds_toArray, List.set_cons_zero, List.set_cons_succ]
      refine wpAnyH_ready (rs := [13]) (by kernel_rfl) (by simp) ?_
      refine (AllReadyH.cons (o := { dst := none, op := Go.Op.store 24 (Go.Operand.tmp 15) (Go.Operand.tmp 14), type := 0, pos := "clock.go:131", after := #[{ on := 12, ground := Go.Ground.data }, { on := 11, ground := Go.Ground.data }, { on := 10, ground := Go.Ground.chain }, { on := 0, ground := Go.Ground.phase }, { on := 1, ground := Go.Ground.phase }, { on := 2, ground := Go.Ground.phase }, { on := 3, ground := Go.Ground.phase }, { on := 4, ground := Go.Ground.phase }, { on := 5, ground := Go.Ground.phase }, { on := 6, ground := Go.Ground.phase }, { on := 7, ground := Go.Ground.phase }, { on := 8, ground := Go.Ground.phase }, { on := 9, ground := Go.Ground.phase }, { on := 10, ground := Go.Ground.phase }, { on := 11, ground := Go.Ground.phase }], guard := none }) rfl (fun K hK => ?_) AllReadyH.nil)
      · skip
        obtain ⟨hc, hfz⟩ := P1.out.out
        go_simp
        clear hc hfz
        have P2 := Lib.hid (P1.out.put5 (.int .u8 s) (.int .u8 m) (.int .u8 h) (.int .u8 y) (.int .u8 x))
        have R2 := Lib.hid (R1.out.far5 NE.out.symm (.int .u8 s) (.int .u8 m) (.int .u8 h) (.int .u8 y) (.int .u8 x))
        have B2 := Lib.hid (set5 B1.out pb LP.out (.int .u8 s) (.int .u8 m) (.int .u8 h) (.int .u8 y) (.int .u8 x))
        refine hK.out _ _ ?s14 (fun hNew => ?r14)
        case s14 => exact ⟨P2.out.2.1 0, P2.out.2.1 1, P2.out.2.1 2, P2.out.2.1 3⟩
        clear hK K hHeld
        have hHeld := hNew
        clear hNew
        generalize (World.setCell (World.setCell (World.setCell (World.setCell (World.setCell u1 ⟨pb, 7, none⟩ (.int .u8 s)) ⟨pb, 8, none⟩ (.int .u8 m)) ⟨pb, 9, none⟩ (.int .u8 h)) ⟨pb, 10, none⟩ (.int .u8 y)) ⟨pb, 11, none⟩ (.int .u8 x)) = u2 at hHeld P2 R2 B2 ⊢
        clear hHeld
        refine wpAnyH_done (by kernel_rfl) ?_ _
        obtain ⟨hc, hf⟩ := P2.out.out
        obtain ⟨hc2, hf2⟩ := R2.out.out
        go_wp2
        refine bodyPost_ret (v := .agg #[.int .u8 s, .int .u8 m, .int .u8 h, .int .i64 day, .int .i64 sub, .bool halt, .bool carry, .int .u8 s, .int .u8 m, .int .u8 h, .int .u8 y, .int .u8 x]) ?_ rfl ⟨rfl, ?_⟩
        · simp [results, Try.results16, go_sem, hc2]
        · exact set12 B2.out rb LR.out _ _ _ _ _ _ _ _ _ _ _ _
theorem hold_c (c R : CV) (hc : c.ok) (hR : holdV c = R) (w : World) : Calls Try.prog 16 #[.agg #[.int .u8 c.s, .int .u8 c.m, .int .u8 c.h, .int .i64 c.day, .int .i64 c.sub, .bool c.halt, .bool c.carry, .int .u8 c.a, .int .u8 c.b, .int .u8 c.c, .int .u8 c.d, .int .u8 c.e]] w fun e w' => e = .returned (.agg #[.int .u8 R.s, .int .u8 R.m, .int .u8 R.h, .int .i64 R.day, .int .i64 R.sub, .bool R.halt, .bool R.carry, .int .u8 R.a, .int .u8 R.b, .int .u8 R.c, .int .u8 R.d, .int .u8 R.e]) ∧ Below w.heap.size w w' := by
  subst hR
  exact hold_f c.s c.m c.h c.day c.sub c.halt c.carry c.a c.b c.c c.d c.e _ _ hc.2.2.2.1.1 hc.2.2.2.1.2 rfl (fun W => bits_c c _ hc.2.2.2.1.1 hc.2.2.2.1.2 rfl W) w
set_option maxHeartbeats 4000000 in
theorem rhold_f (s m h day sub : Int) (halt carry : Bool) (a b c d e : Int) (x y : Int) (C0 : ∀ W, Calls Try.prog 24 #[.agg #[.int .u8 s, .int .u8 m, .int .u8 h, .int .i64 day, .int .i64 sub, .bool halt, .bool carry, .int .u8 a, .int .u8 b, .int .u8 c, .int .u8 d, .int .u8 e], .int .i64 0] W fun q_ w' => q_ = .returned (.int .u8 s) ∧ Below W.heap.size W w') (C1 : ∀ W, Calls Try.prog 24 #[.agg #[.int .u8 s, .int .u8 m, .int .u8 h, .int .i64 day, .int .i64 sub, .bool halt, .bool carry, .int .u8 s, .int .u8 b, .int .u8 c, .int .u8 d, .int .u8 e], .int .i64 1] W fun q_ w' => q_ = .returned (.int .u8 m) ∧ Below W.heap.size W w') (C2 : ∀ W, Calls Try.prog 24 #[.agg #[.int .u8 s, .int .u8 m, .int .u8 h, .int .i64 day, .int .i64 sub, .bool halt, .bool carry, .int .u8 s, .int .u8 m, .int .u8 c, .int .u8 d, .int .u8 e], .int .i64 2] W fun q_ w' => q_ = .returned (.int .u8 h) ∧ Below W.heap.size W w') (C3 : ∀ W, Calls Try.prog 24 #[.agg #[.int .u8 s, .int .u8 m, .int .u8 h, .int .i64 day, .int .i64 sub, .bool halt, .bool carry, .int .u8 s, .int .u8 m, .int .u8 h, .int .u8 d, .int .u8 e], .int .i64 3] W fun q_ w' => q_ = .returned (.int .u8 y) ∧ Below W.heap.size W w') (C4 : ∀ W, Calls Try.prog 24 #[.agg #[.int .u8 s, .int .u8 m, .int .u8 h, .int .i64 day, .int .i64 sub, .bool halt, .bool carry, .int .u8 s, .int .u8 m, .int .u8 h, .int .u8 y, .int .u8 e], .int .i64 4] W fun q_ w' => q_ = .returned (.int .u8 x) ∧ Below W.heap.size W w') (w : World) : Calls Try.prog 19 #[.agg #[.int .u8 s, .int .u8 m, .int .u8 h, .int .i64 day, .int .i64 sub, .bool halt, .bool carry, .int .u8 a, .int .u8 b, .int .u8 c, .int .u8 d, .int .u8 e]] w fun q_ w' => q_ = .returned (.agg #[.int .u8 s, .int .u8 m, .int .u8 h, .int .i64 day, .int .i64 sub, .bool halt, .bool carry, .int .u8 s, .int .u8 m, .int .u8 h, .int .u8 y, .int .u8 x]) ∧ Below w.heap.size w w' := by
  suffices hall : ∀ (n_ : Nat) (W0 : World), n_ ≤ W0.heap.size → Below n_ W0 w → Calls Try.prog 19 #[.agg #[.int .u8 s, .int .u8 m, .int .u8 h, .int .i64 day, .int .i64 sub, .bool halt, .bool carry, .int .u8 a, .int .u8 b, .int .u8 c, .int .u8 d, .int .u8 e]] w fun q_ w' => q_ = .returned (.agg #[.int .u8 s, .int .u8 m, .int .u8 h, .int .i64 day, .int .i64 sub, .bool halt, .bool carry, .int .u8 s, .int .u8 m, .int .u8 h, .int .u8 y, .int .u8 x]) ∧ Below n_ W0 w' from hall _ _ (Nat.le_refl _) (Below.refl _ _)
  intro n_ W0 hn hB
  have HN := Lib.hid hn
  have BB := Lib.hid hB
  clear hn hB
  have H0 := Lib.hid C0
  have H1 := Lib.hid C1
  have H2 := Lib.hid C2
  have H3 := Lib.hid C3
  have H4 := Lib.hid C4
  clear C0 C1 C2 C3 C4
  go_enter Try.func19, Try.ntmps19
  have Q_ := own2 w (.cells #[.int .u8 s, .int .u8 m, .int .u8 h, .int .i64 day, .int .i64 sub, .bool halt, .bool carry, .int .u8 a, .int .u8 b, .int .u8 c, .int .u8 d, .int .u8 e] 27) (.cells #[.int .u8 0, .int .u8 0, .int .u8 0, .int .i64 0, .int .i64 0, .bool false, .bool false, .int .u8 0, .int .u8 0, .int .u8 0, .int .u8 0, .int .u8 0] 27)
  have B0 := Lib.hid (vian HN.out BB.out Q_)
  have P0 := Lib.hid ((Has.new w #[.int .u8 s, .int .u8 m, .int .u8 h, .int .i64 day, .int .i64 sub, .bool halt, .bool carry, .int .u8 a, .int .u8 b, .int .u8 c, .int .u8 d, .int .u8 e] 27).alloc (.cells #[.int .u8 0, .int .u8 0, .int .u8 0, .int .i64 0, .int .i64 0, .bool false, .bool false, .int .u8 0, .int .u8 0, .int .u8 0, .int .u8 0, .int .u8 0] 27))
  have R0 := Lib.hid (show Has ((w.alloc (.cells #[.int .u8 s, .int .u8 m, .int .u8 h, .int .i64 day, .int .i64 sub, .bool halt, .bool carry, .int .u8 a, .int .u8 b, .int .u8 c, .int .u8 d, .int .u8 e] 27)).alloc (.cells #[.int .u8 0, .int .u8 0, .int .u8 0, .int .i64 0, .int .i64 0, .bool false, .bool false, .int .u8 0, .int .u8 0, .int .u8 0, .int .u8 0, .int .u8 0] 27)) (w.heap.size + 1) #[.int .u8 0, .int .u8 0, .int .u8 0, .int .i64 0, .int .i64 0, .bool false, .bool false, .int .u8 0, .int .u8 0, .int .u8 0, .int .u8 0, .int .u8 0] by simpa using Has.new (w.alloc (.cells #[.int .u8 s, .int .u8 m, .int .u8 h, .int .i64 day, .int .i64 sub, .bool halt, .bool carry, .int .u8 a, .int .u8 b, .int .u8 c, .int .u8 d, .int .u8 e] 27)) #[.int .u8 0, .int .u8 0, .int .u8 0, .int .i64 0, .int .i64 0, .bool false, .bool false, .int .u8 0, .int .u8 0, .int .u8 0, .int .u8 0, .int .u8 0] 27)
  have LP := Lib.hid (Nat.le_trans HN.out BB.out.size)
  have LR := Lib.hid (show n_ ≤ w.heap.size + 1 from Nat.le_succ_of_le (Nat.le_trans HN.out BB.out.size))
  have NE := Lib.hid (show w.heap.size ≠ w.heap.size + 1 by omega)
  clear Q_
  go_upto_region 1 with (fail)
  generalize (w.alloc (.cells #[.int .u8 s, .int .u8 m, .int .u8 h, .int .i64 day, .int .i64 sub, .bool halt, .bool carry, .int .u8 a, .int .u8 b, .int .u8 c, .int .u8 d, .int .u8 e] 27)).alloc (.cells #[.int .u8 0, .int .u8 0, .int .u8 0, .int .i64 0, .int .i64 0, .bool false, .bool false, .int .u8 0, .int .u8 0, .int .u8 0, .int .u8 0, .int .u8 0] 27) = w0 at B0 P0 R0 ⊢
  generalize w.heap.size + 1 = rb at R0 LR NE ⊢
  generalize w.heap.size = pb at P0 LP NE ⊢
  obtain ⟨hc, hf⟩ := P0.out.out
  go_wp2_with fail
  refine wp_loop_rounds 6 ?_
  rw [rounds_succ]
  go_wp2_with fail
  with_reducible refine (H0.out _).mono ?_
  rintro q_ w1 ⟨rfl, hb⟩
  clear hc hf
  have B1 := Lib.hid (vian HN.out B0.out hb)
  have P1 := Lib.hid (P0.out.below hb)
  have R1 := Lib.hid (R0.out.below hb)
  clear hb B0 P0 R0
  have P2 := Lib.hid (show Has (w1.setCell ⟨pb, 7, none⟩ (.int .u8 s)) pb #[.int .u8 s, .int .u8 m, .int .u8 h, .int .i64 day, .int .i64 sub, .bool halt, .bool carry, .int .u8 s, .int .u8 b, .int .u8 c, .int .u8 d, .int .u8 e] by simpa using P1.out.set 7 (.int .u8 s) (by simp))
  have R2 := Lib.hid (R1.out.far ⟨pb, 7, none⟩ (.int .u8 s) NE.out)
  have B2 := Lib.hid (store1 B1.out LP.out 7 (.int .u8 s))
  obtain ⟨hc, hf⟩ := P1.out.out
  go_wp2_with fail
  generalize w1.setCell ⟨pb, 7, none⟩ (.int .u8 s) = w2 at P2 R2 B2 ⊢
  clear hc hf P1 R1 B1
  obtain ⟨hc, hf⟩ := P2.out.out
  rw [rounds_succ]
  go_wp2_with fail
  with_reducible refine (H1.out _).mono ?_
  rintro q_ w3 ⟨rfl, hb⟩
  clear hc hf
  have B3 := Lib.hid (vian HN.out B2.out hb)
  have P3 := Lib.hid (P2.out.below hb)
  have R3 := Lib.hid (R2.out.below hb)
  clear hb B2 P2 R2
  have P4 := Lib.hid (show Has (w3.setCell ⟨pb, 8, none⟩ (.int .u8 m)) pb #[.int .u8 s, .int .u8 m, .int .u8 h, .int .i64 day, .int .i64 sub, .bool halt, .bool carry, .int .u8 s, .int .u8 m, .int .u8 c, .int .u8 d, .int .u8 e] by simpa using P3.out.set 8 (.int .u8 m) (by simp))
  have R4 := Lib.hid (R3.out.far ⟨pb, 8, none⟩ (.int .u8 m) NE.out)
  have B4 := Lib.hid (store1 B3.out LP.out 8 (.int .u8 m))
  obtain ⟨hc, hf⟩ := P3.out.out
  go_wp2_with fail
  generalize w3.setCell ⟨pb, 8, none⟩ (.int .u8 m) = w4 at P4 R4 B4 ⊢
  clear hc hf P3 R3 B3
  obtain ⟨hc, hf⟩ := P4.out.out
  rw [rounds_succ]
  go_wp2_with fail
  with_reducible refine (H2.out _).mono ?_
  rintro q_ w5 ⟨rfl, hb⟩
  clear hc hf
  have B5 := Lib.hid (vian HN.out B4.out hb)
  have P5 := Lib.hid (P4.out.below hb)
  have R5 := Lib.hid (R4.out.below hb)
  clear hb B4 P4 R4
  have P6 := Lib.hid (show Has (w5.setCell ⟨pb, 9, none⟩ (.int .u8 h)) pb #[.int .u8 s, .int .u8 m, .int .u8 h, .int .i64 day, .int .i64 sub, .bool halt, .bool carry, .int .u8 s, .int .u8 m, .int .u8 h, .int .u8 d, .int .u8 e] by simpa using P5.out.set 9 (.int .u8 h) (by simp))
  have R6 := Lib.hid (R5.out.far ⟨pb, 9, none⟩ (.int .u8 h) NE.out)
  have B6 := Lib.hid (store1 B5.out LP.out 9 (.int .u8 h))
  obtain ⟨hc, hf⟩ := P5.out.out
  go_wp2_with fail
  generalize w5.setCell ⟨pb, 9, none⟩ (.int .u8 h) = w6 at P6 R6 B6 ⊢
  clear hc hf P5 R5 B5
  obtain ⟨hc, hf⟩ := P6.out.out
  rw [rounds_succ]
  go_wp2_with fail
  with_reducible refine (H3.out _).mono ?_
  rintro q_ w7 ⟨rfl, hb⟩
  clear hc hf
  have B7 := Lib.hid (vian HN.out B6.out hb)
  have P7 := Lib.hid (P6.out.below hb)
  have R7 := Lib.hid (R6.out.below hb)
  clear hb B6 P6 R6
  have P8 := Lib.hid (show Has (w7.setCell ⟨pb, 10, none⟩ (.int .u8 y)) pb #[.int .u8 s, .int .u8 m, .int .u8 h, .int .i64 day, .int .i64 sub, .bool halt, .bool carry, .int .u8 s, .int .u8 m, .int .u8 h, .int .u8 y, .int .u8 e] by simpa using P7.out.set 10 (.int .u8 y) (by simp))
  have R8 := Lib.hid (R7.out.far ⟨pb, 10, none⟩ (.int .u8 y) NE.out)
  have B8 := Lib.hid (store1 B7.out LP.out 10 (.int .u8 y))
  obtain ⟨hc, hf⟩ := P7.out.out
  go_wp2_with fail
  generalize w7.setCell ⟨pb, 10, none⟩ (.int .u8 y) = w8 at P8 R8 B8 ⊢
  clear hc hf P7 R7 B7
  obtain ⟨hc, hf⟩ := P8.out.out
  rw [rounds_succ]
  go_wp2_with fail
  with_reducible refine (H4.out _).mono ?_
  rintro q_ w9 ⟨rfl, hb⟩
  clear hc hf
  have B9 := Lib.hid (vian HN.out B8.out hb)
  have P9 := Lib.hid (P8.out.below hb)
  have R9 := Lib.hid (R8.out.below hb)
  clear hb B8 P8 R8
  have P10 := Lib.hid (show Has (w9.setCell ⟨pb, 11, none⟩ (.int .u8 x)) pb #[.int .u8 s, .int .u8 m, .int .u8 h, .int .i64 day, .int .i64 sub, .bool halt, .bool carry, .int .u8 s, .int .u8 m, .int .u8 h, .int .u8 y, .int .u8 x] by simpa using P9.out.set 11 (.int .u8 x) (by simp))
  have R10 := Lib.hid (R9.out.far ⟨pb, 11, none⟩ (.int .u8 x) NE.out)
  have B10 := Lib.hid (store1 B9.out LP.out 11 (.int .u8 x))
  obtain ⟨hc, hf⟩ := P9.out.out
  go_wp2_with fail
  generalize w9.setCell ⟨pb, 11, none⟩ (.int .u8 x) = w10 at P10 R10 B10 ⊢
  clear hc hf P9 R9 B9
  obtain ⟨hc, hf⟩ := P10.out.out
  rw [rounds_succ]
  obtain ⟨hc2, hf2⟩ := R10.out.out
  go_wp2
  refine bodyPost_ret (v := .agg #[.int .u8 s, .int .u8 m, .int .u8 h, .int .i64 day, .int .i64 sub, .bool halt, .bool carry, .int .u8 s, .int .u8 m, .int .u8 h, .int .u8 y, .int .u8 x]) ?_ rfl ⟨rfl, ?_⟩
  · simp [results, Try.results19, go_sem, hc2]
  · exact set12 B10.out rb LR.out _ _ _ _ _ _ _ _ _ _ _ _
theorem rhold_c (c R : CV) (hc : c.ok) (hR : holdV c = R) (w : World) : Calls Try.prog 19 #[.agg #[.int .u8 c.s, .int .u8 c.m, .int .u8 c.h, .int .i64 c.day, .int .i64 c.sub, .bool c.halt, .bool c.carry, .int .u8 c.a, .int .u8 c.b, .int .u8 c.c, .int .u8 c.d, .int .u8 c.e]] w fun e w' => e = .returned (.agg #[.int .u8 R.s, .int .u8 R.m, .int .u8 R.h, .int .i64 R.day, .int .i64 R.sub, .bool R.halt, .bool R.carry, .int .u8 R.a, .int .u8 R.b, .int .u8 R.c, .int .u8 R.d, .int .u8 R.e]) ∧ Below w.heap.size w w' := by
  subst hR
  exact rhold_f c.s c.m c.h c.day c.sub c.halt c.carry c.a c.b c.c c.d c.e _ _ (fun W => part_c ⟨c.s, c.m, c.h, c.day, c.sub, c.halt, c.carry, c.a, c.b, c.c, c.d, c.e⟩ 0 _ hc (by decide) rfl W) (fun W => part_c ⟨c.s, c.m, c.h, c.day, c.sub, c.halt, c.carry, c.s, c.b, c.c, c.d, c.e⟩ 1 _ hc (by decide) rfl W) (fun W => part_c ⟨c.s, c.m, c.h, c.day, c.sub, c.halt, c.carry, c.s, c.m, c.c, c.d, c.e⟩ 2 _ hc (by decide) rfl W) (fun W => part_c ⟨c.s, c.m, c.h, c.day, c.sub, c.halt, c.carry, c.s, c.m, c.h, c.d, c.e⟩ 3 _ hc (by decide) rfl W) (fun W => part_c ⟨c.s, c.m, c.h, c.day, c.sub, c.halt, c.carry, c.s, c.m, c.h, c.day % 256, c.e⟩ 4 _ hc (by decide) rfl W) w
set_option maxHeartbeats 2000000 in
theorem rtick_0 (s m h day sub : Int) (carry : Bool) (a b c d e : Int) (n : Int) (w : World) : Calls Try.prog 17 #[.agg #[.int .u8 s, .int .u8 m, .int .u8 h, .int .i64 day, .int .i64 sub, .bool true, .bool carry, .int .u8 a, .int .u8 b, .int .u8 c, .int .u8 d, .int .u8 e], .int .i64 n] w fun q_ w' => q_ = .returned (.agg #[.int .u8 s, .int .u8 m, .int .u8 h, .int .i64 day, .int .i64 sub, .bool true, .bool carry, .int .u8 a, .int .u8 b, .int .u8 c, .int .u8 d, .int .u8 e]) ∧ Below w.heap.size w w' := by
  suffices hall : ∀ (n_ : Nat) (W0 : World), n_ ≤ W0.heap.size → Below n_ W0 w → Calls Try.prog 17 #[.agg #[.int .u8 s, .int .u8 m, .int .u8 h, .int .i64 day, .int .i64 sub, .bool true, .bool carry, .int .u8 a, .int .u8 b, .int .u8 c, .int .u8 d, .int .u8 e], .int .i64 n] w fun q_ w' => q_ = .returned (.agg #[.int .u8 s, .int .u8 m, .int .u8 h, .int .i64 day, .int .i64 sub, .bool true, .bool carry, .int .u8 a, .int .u8 b, .int .u8 c, .int .u8 d, .int .u8 e]) ∧ Below n_ W0 w' from hall _ _ (Nat.le_refl _) (Below.refl _ _)
  intro n_ W0 hn hB
  have HN := Lib.hid hn
  have BB := Lib.hid hB
  clear hn hB
  go_enter Try.func17, Try.ntmps17
  go_wp2
  exact bodyPost_ret (v := .agg #[.int .u8 s, .int .u8 m, .int .u8 h, .int .i64 day, .int .i64 sub, .bool true, .bool carry, .int .u8 a, .int .u8 b, .int .u8 c, .int .u8 d, .int .u8 e]) (by simp [results, Try.results17, go_sem]) rfl ⟨rfl, vian HN.out BB.out (own2 _ _ _)⟩
set_option maxHeartbeats 2000000 in
theorem rtick_1 (s m h day sub : Int) (carry : Bool) (a b c d e : Int) (n : Int) (hn1 : n < 1) (w : World) : Calls Try.prog 17 #[.agg #[.int .u8 s, .int .u8 m, .int .u8 h, .int .i64 day, .int .i64 sub, .bool false, .bool carry, .int .u8 a, .int .u8 b, .int .u8 c, .int .u8 d, .int .u8 e], .int .i64 n] w fun q_ w' => q_ = .returned (.agg #[.int .u8 s, .int .u8 m, .int .u8 h, .int .i64 day, .int .i64 sub, .bool false, .bool carry, .int .u8 a, .int .u8 b, .int .u8 c, .int .u8 d, .int .u8 e]) ∧ Below w.heap.size w w' := by
  suffices hall : ∀ (n_ : Nat) (W0 : World), n_ ≤ W0.heap.size → Below n_ W0 w → Calls Try.prog 17 #[.agg #[.int .u8 s, .int .u8 m, .int .u8 h, .int .i64 day, .int .i64 sub, .bool false, .bool carry, .int .u8 a, .int .u8 b, .int .u8 c, .int .u8 d, .int .u8 e], .int .i64 n] w fun q_ w' => q_ = .returned (.agg #[.int .u8 s, .int .u8 m, .int .u8 h, .int .i64 day, .int .i64 sub, .bool false, .bool carry, .int .u8 a, .int .u8 b, .int .u8 c, .int .u8 d, .int .u8 e]) ∧ Below n_ W0 w' from hall _ _ (Nat.le_refl _) (Below.refl _ _)
  intro n_ W0 hn hB
  have HN := Lib.hid hn
  have BB := Lib.hid hB
  clear hn hB
  go_enter Try.func17, Try.ntmps17
  go_wp2
  exact bodyPost_ret (v := .agg #[.int .u8 s, .int .u8 m, .int .u8 h, .int .i64 day, .int .i64 sub, .bool false, .bool carry, .int .u8 a, .int .u8 b, .int .u8 c, .int .u8 d, .int .u8 e]) (by simp [results, Try.results17, go_sem]) rfl ⟨rfl, vian HN.out BB.out (own2 _ _ _)⟩
set_option maxHeartbeats 4000000 in
theorem rtick_2 (s m h day sub : Int) (carry : Bool) (a b c d e : Int) (R : CV) (n p tot : Int) (K : Nat) (hc0 : CV.ok (⟨s, m, h, day, sub, false, carry, a, b, c, d, e⟩ : CV)) (hn1 : ¬ n < 1) (hp : (if 1073741824 < n then 1073741824 else n) = p) (hp1 : 1 ≤ p) (hp2 : p ≤ 1073741824) (ht : sub + p = tot) (hK : (K : Int) = tot / 1048576) (hR : { itV K (⟨s, m, h, day, sub, false, carry, a, b, c, d, e⟩ : CV) with sub := tot % 1048576 } = R) (w : World) : Calls Try.prog 17 #[.agg #[.int .u8 s, .int .u8 m, .int .u8 h, .int .i64 day, .int .i64 sub, .bool false, .bool carry, .int .u8 a, .int .u8 b, .int .u8 c, .int .u8 d, .int .u8 e], .int .i64 n] w fun q_ w' => q_ = .returned (.agg #[.int .u8 R.s, .int .u8 R.m, .int .u8 R.h, .int .i64 R.day, .int .i64 R.sub, .bool R.halt, .bool R.carry, .int .u8 R.a, .int .u8 R.b, .int .u8 R.c, .int .u8 R.d, .int .u8 R.e]) ∧ Below w.heap.size w w' := by
  suffices hall : ∀ (n_ : Nat) (W0 : World), n_ ≤ W0.heap.size → Below n_ W0 w → Calls Try.prog 17 #[.agg #[.int .u8 s, .int .u8 m, .int .u8 h, .int .i64 day, .int .i64 sub, .bool false, .bool carry, .int .u8 a, .int .u8 b, .int .u8 c, .int .u8 d, .int .u8 e], .int .i64 n] w fun q_ w' => q_ = .returned (.agg #[.int .u8 R.s, .int .u8 R.m, .int .u8 R.h, .int .i64 R.day, .int .i64 R.sub, .bool R.halt, .bool R.carry, .int .u8 R.a, .int .u8 R.b, .int .u8 R.c, .int .u8 R.d, .int .u8 R.e]) ∧ Below n_ W0 w' from hall _ _ (Nat.le_refl _) (Below.refl _ _)
  intro n_ W0 hn hB
  have HN := Lib.hid hn
  have BB := Lib.hid hB
  clear hn hB
  have hs0 : 0 ≤ sub := hc0.2.2.2.2.1
  have hs1 : sub ≤ 1048576 := hc0.2.2.2.2.2
  have OK := Lib.hid hc0
  have HK := Lib.hid hK
  have HR := Lib.hid hR
  clear hc0 hK hR
  go_enter Try.func17, Try.ntmps17
  have Q_ := own2 w (.cells #[.int .u8 s, .int .u8 m, .int .u8 h, .int .i64 day, .int .i64 sub, .bool false, .bool carry, .int .u8 a, .int .u8 b, .int .u8 c, .int .u8 d, .int .u8 e] 27) (.cells #[.int .u8 0, .int .u8 0, .int .u8 0, .int .i64 0, .int .i64 0, .bool false, .bool false, .int .u8 0, .int .u8 0, .int .u8 0, .int .u8 0, .int .u8 0] 27)
  have B0 := Lib.hid (vian HN.out BB.out Q_)
  have P0 := Lib.hid ((Has.new w #[.int .u8 s, .int .u8 m, .int .u8 h, .int .i64 day, .int .i64 sub, .bool false, .bool carry, .int .u8 a, .int .u8 b, .int .u8 c, .int .u8 d, .int .u8 e] 27).alloc (.cells #[.int .u8 0, .int .u8 0, .int .u8 0, .int .i64 0, .int .i64 0, .bool false, .bool false, .int .u8 0, .int .u8 0, .int .u8 0, .int .u8 0, .int .u8 0] 27))
  have R0 := Lib.hid (show Has ((w.alloc (.cells #[.int .u8 s, .int .u8 m, .int .u8 h, .int .i64 day, .int .i64 sub, .bool false, .bool carry, .int .u8 a, .int .u8 b, .int .u8 c, .int .u8 d, .int .u8 e] 27)).alloc (.cells #[.int .u8 0, .int .u8 0, .int .u8 0, .int .i64 0, .int .i64 0, .bool false, .bool false, .int .u8 0, .int .u8 0, .int .u8 0, .int .u8 0, .int .u8 0] 27)) (w.heap.size + 1) #[.int .u8 0, .int .u8 0, .int .u8 0, .int .i64 0, .int .i64 0, .bool false, .bool false, .int .u8 0, .int .u8 0, .int .u8 0, .int .u8 0, .int .u8 0] by simpa using Has.new (w.alloc (.cells #[.int .u8 s, .int .u8 m, .int .u8 h, .int .i64 day, .int .i64 sub, .bool false, .bool carry, .int .u8 a, .int .u8 b, .int .u8 c, .int .u8 d, .int .u8 e] 27)) #[.int .u8 0, .int .u8 0, .int .u8 0, .int .i64 0, .int .i64 0, .bool false, .bool false, .int .u8 0, .int .u8 0, .int .u8 0, .int .u8 0, .int .u8 0] 27)
  have LP := Lib.hid (Nat.le_trans HN.out BB.out.size)
  have LR := Lib.hid (show n_ ≤ w.heap.size + 1 from Nat.le_succ_of_le (Nat.le_trans HN.out BB.out.size))
  have NE := Lib.hid (show w.heap.size ≠ w.heap.size + 1 by omega)
  clear Q_
  go_upto_region 1 with (fail)
  generalize (w.alloc (.cells #[.int .u8 s, .int .u8 m, .int .u8 h, .int .i64 day, .int .i64 sub, .bool false, .bool carry, .int .u8 a, .int .u8 b, .int .u8 c, .int .u8 d, .int .u8 e] 27)).alloc (.cells #[.int .u8 0, .int .u8 0, .int .u8 0, .int .i64 0, .int .i64 0, .bool false, .bool false, .int .u8 0, .int .u8 0, .int .u8 0, .int .u8 0, .int .u8 0] 27) = w0 at B0 P0 R0 ⊢
  generalize w.heap.size + 1 = rb at R0 LR NE ⊢
  generalize w.heap.size = pb at P0 LP NE ⊢
  have P1 := Lib.hid (show Has (w0.setCell ⟨pb, 4, none⟩ (.int .i64 tot)) pb #[.int .u8 s, .int .u8 m, .int .u8 h, .int .i64 day, .int .i64 tot, .bool false, .bool carry, .int .u8 a, .int .u8 b, .int .u8 c, .int .u8 d, .int .u8 e] by simpa using P0.out.set 4 (.int .i64 tot) (by simp))
  have R1 := Lib.hid (R0.out.far ⟨pb, 4, none⟩ (.int .i64 tot) NE.out)
  have B1 := Lib.hid (store1 B0.out LP.out 4 (.int .i64 tot))
  obtain ⟨hc, hf⟩ := P0.out.out
  go_wp2
  generalize w0.setCell ⟨pb, 4, none⟩ (.int .i64 tot) = w1 at P1 R1 B1 ⊢
  clear hc hf P0 R0 B0
  have T0 := Lib.hid (show 0 ≤ tot ∧ tot ≤ 1074790400 by omega)
  clear ht hp hp1 hp2 hn1
  go_loopg [] K (fun g' wr => ∃ (t : Nat) (z : CV), t ≤ K ∧ g' + t = K ∧ z = { itV t (⟨s, m, h, day, sub, false, carry, a, b, c, d, e⟩ : CV) with sub := tot - 1048576 * t } ∧ Below n_ W0 wr ∧ Has wr pb #[.int .u8 z.s, .int .u8 z.m, .int .u8 z.h, .int .i64 z.day, .int .i64 z.sub, .bool z.halt, .bool z.carry, .int .u8 z.a, .int .u8 z.b, .int .u8 z.c, .int .u8 z.d, .int .u8 z.e] ∧ Has wr rb #[.int .u8 0, .int .u8 0, .int .u8 0, .int .i64 0, .int .i64 0, .bool false, .bool false, .int .u8 0, .int .u8 0, .int .u8 0, .int .u8 0, .int .u8 0])
  case atStart => exact ⟨0, (⟨s, m, h, day, tot, false, carry, a, b, c, d, e⟩ : CV), by omega, by omega, by simp [itV], B1.out, P1.out, R1.out⟩
  case round =>
    obtain ⟨t, z, ht, hg, hm, hB, hP, hR⟩ := hrel
    have TG := Lib.hid hg
    have HM := Lib.hid hm
    have TB := Lib.hid hB
    have TP := Lib.hid hP
    have TR := Lib.hid hR
    have tb := T0.out
    have kk := HK.out
    have ms : z.sub = tot - 1048576 * t := by rw [hm]
    have mo : CV.ok { z with sub := 0 } := by rw [hm]; exact ⟨(itV_ok OK.out t).1, (itV_ok OK.out t).2.1, (itV_ok OK.out t).2.2.1, (itV_ok OK.out t).2.2.2.1, by dsimp only; omega⟩
    have MO := Lib.hid mo
    have MS := Lib.hid ms
    clear hg hm hB hP hR B1 P1 R1 mo
    by_cases hlt : t < K
    · have l1 : 1048576 ≤ z.sub := by omega
      have l2 : z.sub ≤ 1074790400 := by omega
      obtain ⟨sb, hsb⟩ : ∃ q_, z.sub - 1048576 = q_ := ⟨_, rfl⟩
      obtain ⟨z', hm'⟩ : ∃ q_, secV { z with sub := sb } = q_ := ⟨_, rfl⟩
      have SC := Lib.hid (show ∀ W, Calls Try.prog 23 #[.agg #[.int .u8 z.s, .int .u8 z.m, .int .u8 z.h, .int .i64 z.day, .int .i64 sb, .bool z.halt, .bool z.carry, .int .u8 z.a, .int .u8 z.b, .int .u8 z.c, .int .u8 z.d, .int .u8 z.e]] W fun q_ w' => q_ = .returned (.agg #[.int .u8 z'.s, .int .u8 z'.m, .int .u8 z'.h, .int .i64 z'.day, .int .i64 z'.sub, .bool z'.halt, .bool z'.carry, .int .u8 z'.a, .int .u8 z'.b, .int .u8 z'.c, .int .u8 z'.d, .int .u8 z'.e]) ∧ Below W.heap.size W w' from fun W => sec_c { z with sub := sb } z' MO.out hm' W)
      have HM' := Lib.hid hm'
      have HS := Lib.hid hsb
      clear hm' ms tb kk
      have P1 := Lib.hid (show Has (wr.setCell ⟨pb, 4, none⟩ (.int .i64 sb)) pb #[.int .u8 z.s, .int .u8 z.m, .int .u8 z.h, .int .i64 z.day, .int .i64 sb, .bool z.halt, .bool z.carry, .int .u8 z.a, .int .u8 z.b, .int .u8 z.c, .int .u8 z.d, .int .u8 z.e] by simpa using TP.out.set 4 (.int .i64 sb) (by simp))
      have R1 := Lib.hid (TR.out.far ⟨pb, 4, none⟩ (.int .i64 sb) NE.out)
      have B1 := Lib.hid (store1 TB.out LP.out 4 (.int .i64 sb))
      obtain ⟨hc, hf⟩ := TP.out.out
      go_wp2_with fail
      generalize wr.setCell ⟨pb, 4, none⟩ (.int .i64 sb) = w1 at P1 R1 B1 ⊢
      clear hc hf
      with_reducible refine (SC.out _).mono ?_
      rintro q_ w2 ⟨rfl, hb⟩
      have B2 := Lib.hid (vian HN.out B1.out hb)
      have P2 := Lib.hid (P1.out.below hb)
      have R2 := Lib.hid (R1.out.below hb)
      clear hb B1 P1 R1
      have P3 := Lib.hid (P2.out.put12 (.int .u8 z'.s) (.int .u8 z'.m) (.int .u8 z'.h) (.int .i64 z'.day) (.int .i64 z'.sub) (.bool z'.halt) (.bool z'.carry) (.int .u8 z'.a) (.int .u8 z'.b) (.int .u8 z'.c) (.int .u8 z'.d) (.int .u8 z'.e))
      have R3 := Lib.hid (R2.out.far12 NE.out.symm (.int .u8 z'.s) (.int .u8 z'.m) (.int .u8 z'.h) (.int .i64 z'.day) (.int .i64 z'.sub) (.bool z'.halt) (.bool z'.carry) (.int .u8 z'.a) (.int .u8 z'.b) (.int .u8 z'.c) (.int .u8 z'.d) (.int .u8 z'.e))
      have B3 := Lib.hid (set12 B2.out pb LP.out (.int .u8 z'.s) (.int .u8 z'.m) (.int .u8 z'.h) (.int .i64 z'.day) (.int .i64 z'.sub) (.bool z'.halt) (.bool z'.carry) (.int .u8 z'.a) (.int .u8 z'.b) (.int .u8 z'.c) (.int .u8 z'.d) (.int .u8 z'.e))
      obtain ⟨hc, hf⟩ := P2.out.out
      go_wp2
      go_roundg (gk - 1)
      exact ⟨t + 1, z', by omega, by have := TG.out; omega, by rw [← HM'.out, HM.out]; show secV { itV t (⟨s, m, h, day, sub, false, carry, a, b, c, d, e⟩ : CV) with sub := sb } = _; rw [secV_sub, show tot - 1048576 * ((t + 1 : Nat) : Int) = sb by have := HS.out; have := MS.out; omega]; rfl, B3.out, P3.out, R3.out⟩
      case measure => have := TG.out; omega
    · have et : t = K := by omega
      have l1 : z.sub < 1048576 := by omega
      have q : tot - 1048576 * (K : Int) = tot % 1048576 := by omega
      obtain rfl : z = R := by rw [← HR.out, HM.out, et, q]
      clear ms tb kk
      obtain ⟨hc, hf⟩ := TP.out.out
      obtain ⟨hc2, hf2⟩ := TR.out.out
      go_wp2
      refine bodyPost_ret (v := .agg #[.int .u8 z.s, .int .u8 z.m, .int .u8 z.h, .int .i64 z.day, .int .i64 z.sub, .bool z.halt, .bool z.carry, .int .u8 z.a, .int .u8 z.b, .int .u8 z.c, .int .u8 z.d, .int .u8 z.e]) ?_ rfl ⟨rfl, ?_⟩
      · simp [results, Try.results17, go_sem, hc2]
      · exact set12 TB.out rb LR.out _ _ _ _ _ _ _ _ _ _ _ _
theorem rtick_c (c R : CV) (n : Int) (hc : c.ok) (hR : tickV c n = R) (w : World) : Calls Try.prog 17 #[.agg #[.int .u8 c.s, .int .u8 c.m, .int .u8 c.h, .int .i64 c.day, .int .i64 c.sub, .bool c.halt, .bool c.carry, .int .u8 c.a, .int .u8 c.b, .int .u8 c.c, .int .u8 c.d, .int .u8 c.e], .int .i64 n] w fun e w' => e = .returned (.agg #[.int .u8 R.s, .int .u8 R.m, .int .u8 R.h, .int .i64 R.day, .int .i64 R.sub, .bool R.halt, .bool R.carry, .int .u8 R.a, .int .u8 R.b, .int .u8 R.c, .int .u8 R.d, .int .u8 R.e]) ∧ Below w.heap.size w w' := by
  obtain ⟨s, m, h, day, sub, halt, carry, a, b, c, d, e⟩ := c
  cases halt
  · by_cases a0 : n < 1
    · have e1 : tickV (⟨s, m, h, day, sub, false, carry, a, b, c, d, e⟩ : CV) n = (⟨s, m, h, day, sub, false, carry, a, b, c, d, e⟩ : CV) := by unfold tickV; rw [if_neg (by simp), if_pos a0]
      rw [e1] at hR
      subst hR
      exact rtick_1 s m h day sub carry a b c d e n a0 w
    · have cb := cap_bd n (by omega)
      have h5 : 0 ≤ sub ∧ sub ≤ 1048576 := hc.2.2.2.2
      have hk : (((sub + capV n) / 1048576).toNat : Int) = (sub + capV n) / 1048576 := Int.toNat_of_nonneg (by omega)
      have hr := (tick_it _ hc n rfl (by omega) _ hk).symm.trans hR
      have hcap : (if 1073741824 < n then 1073741824 else n) = capV n := rfl
      dsimp only at hr
      generalize capV n = p at cb hk hr hcap
      generalize ((sub + p) / 1048576).toNat = K at hk hr
      exact rtick_2 s m h day sub carry a b c d e R n p (sub + p) K hc a0 hcap cb.1 cb.2 rfl hk hr w
  · have e1 : tickV (⟨s, m, h, day, sub, true, carry, a, b, c, d, e⟩ : CV) n = (⟨s, m, h, day, sub, true, carry, a, b, c, d, e⟩ : CV) := by unfold tickV; rw [if_pos rfl]
    rw [e1] at hR
    subst hR
    exact rtick_0 s m h day sub carry a b c d e n w
end Go.Proofs.Ytkpjoongbckhcaa
