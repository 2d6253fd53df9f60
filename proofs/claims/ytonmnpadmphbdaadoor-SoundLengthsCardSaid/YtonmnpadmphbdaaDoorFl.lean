/-
  The functions load, slide and changeLevel, with their drawn regions: for every board; no condition but that each number fits.
-/
import Derived.Test.YtonmnpadmphbdaaDoorFm
import Derived.Deep.Cut
import Derived.BigQuiet
import Derived.WalkSmall
namespace Go.Proofs.YtonmnpadmphbdaaDoor
open Go.ChangeShapes Go.WideShapes Go.ChangeAt Go.RowKit
set_option linter.unusedVariables false
set_option linter.unusedSimpArgs false
set_option maxRecDepth 100000
set_option maxHeartbeats 2000000 in
theorem load_2 (b : Nat) (m : M) (x : Int) (g0 : 0 ≤ x) (g1 : x < 256) (hx : m 11 = x) (w : World) (h : Has w b (enc m)) : Calls Tryd.prog 21 #[.pointer (some ⟨b, 0, none⟩), .int .i64 2] w fun q_ w' => q_ = .returned (.tuple #[]) ∧ Has w' b (enc (upd m (60) (256 - x))) ∧ Keeps b w w' := by
  suffices hall : ∀ w0 : World, Keeps b w0 w → Calls Tryd.prog 21 #[.pointer (some ⟨b, 0, none⟩), .int .i64 2] w fun q_ w' => q_ = .returned (.tuple #[]) ∧ Has w' b (enc (upd m (60) (256 - x))) ∧ Keeps b w0 w' from hall w (Keeps.refl b w)
  intro w0 hK
  have P0 := Lib.hid h
  have K0 := Lib.hid hK
  clear h hK
  have HX := Lib.hid hx
  clear hx
  have w1 : IntKind.i64.wrap x = x := by rw [IntKind.wrap_i64]; omega
  have w2 : IntKind.i64.wrap (256 - x) = 256 - x := by rw [IntKind.wrap_i64]; omega
  go_enter Tryd.func21, Tryd.ntmps21
  go_wp2_with fail
  with_reducible refine (register_c b m 2 1 2 1 (11) rfl rfl rfl (by omega) x HX.out _ P0.out).mono ?_
  rintro q_ w' ⟨rfl, rfl⟩
  go_upto_region 3 with (fail)
  have P1 := Lib.hid P0.out.drew
  have K1 := Lib.hid K0.out.drew
  clear P0 K0
  refine wp_region_held_drew (S := (fun w' => True)) (by kernel_rfl) (trivial) (fun hHeld => ?_)
  generalize World.drew _ = u1 at hHeld P1 K1 ⊢
  refine wpAnyH_take (i := 0) (oi := { dst := some 12, op := Go.Op.move (Go.Operand.tmp 0), type := 51, pos := "sound.go:164", after := #[], guard := none }) (v := ?v1) rfl (by kernel_rfl) (by kernel_rfl) (by kernel_rfl) (fun _ _ _ h => h) (Or.inl ⟨by rfl, ?y1⟩) (by assumption) ?z1
  case y1 => (intro w hSw; (try dsimp only at hSw); go_simp) <;> with_reducible rfl
  try simp only [Act.put, List.setIfInBounds_toArray, List.set_cons_zero, List.set_cons_succ]
  refine wpAnyH_take (i := 1) (oi := { dst := some 13, op := Go.Op.move (Go.Operand.tmp 1), type := 3, pos := "sound.go:164", after := #[], guard := none }) (v := ?v2) rfl (by kernel_rfl) (by kernel_rfl) (by kernel_rfl) (fun _ _ _ h => h) (Or.inl ⟨by rfl, ?y2⟩) (by assumption) ?z2
  case y2 => (intro w hSw; (try dsimp only at hSw); go_simp) <;> with_reducible rfl
  try simp only [Act.put, List.setIfInBounds_toArray, List.set_cons_zero, List.set_cons_succ]
  refine wpAnyH_take (i := 2) (oi := { dst := some 14, op := Go.Op.move (Go.Operand.tmp 1), type := 3, pos := "sound.go:164", after := #[], guard := none }) (v := ?v3) rfl (by kernel_rfl) (by kernel_rfl) (by kernel_rfl) (fun _ _ _ h => h) (Or.inl ⟨by rfl, ?y3⟩) (by assumption) ?z3
  case y3 => (intro w hSw; (try dsimp only at hSw); go_simp) <;> with_reducible rfl
  try simp only [Act.put, List.setIfInBounds_toArray, List.set_cons_zero, List.set_cons_succ]
  refine wpAnyH_take (i := 4) (oi := { dst := some 16, op := Go.Op.move (Go.Operand.tmp 4), type := 5, pos := "sound.go:164", after := #[], guard := none }) (v := ?v4) rfl (by kernel_rfl) (by kernel_rfl) (by kernel_rfl) (fun _ _ _ h => h) (Or.inl ⟨by rfl, ?y4⟩) (by assumption) ?z4
  case y4 => (intro w hSw; (try dsimp only at hSw); go_simp) <;> with_reducible rfl
  try simp only [Act.put, List.setIfInBounds_toArray, List.set_cons_zero, List.set_cons_succ]
  refine wpAnyH_take (i := 5) (oi := { dst := some 17, op := Go.Op.convert 5 3 (Go.Operand.tmp 16), type := 3, pos := "sound.go:164", after := #[{ on := 4, ground := Go.Ground.data }], guard := none }) (v := ?v5) rfl (by kernel_rfl) (by kernel_rfl) (by kernel_rfl) (fun _ _ _ h => h) (Or.inl ⟨by rfl, ?y5⟩) (by assumption) ?z5
  case y5 => (intro w hSw; (try dsimp only at hSw); go_simp) <;> with_reducible rfl
  try simp only [Act.put, List.setIfInBounds_toArray, List.set_cons_zero, List.set_cons_succ]
  refine wpAnyH_take (i := 7) (oi := { dst := some 19, op := Go.Op.nilCheck (Go.Operand.tmp 12), type := 0, pos := "sound.go:164", after := #[{ on := 0, ground := Go.Ground.data }], guard := none }) (v := ?v6) rfl (by kernel_rfl) (by kernel_rfl) (by kernel_rfl) (fun _ _ _ h => h) (Or.inl ⟨by rfl, ?y6⟩) (by assumption) ?z6
  case y6 => (intro w hSw; (try dsimp only at hSw); go_simp) <;> with_reducible rfl
  try simp only [Act.put, List.setIfInBounds_toArray, List.set_cons_zero, List.set_cons_succ]
  refine wpAnyH_take (i := 8) (oi := { dst := some 20, op := Go.Op.fieldAddr 29 (Go.Operand.tmp 19) 4, type := 0, pos := "sound.go:164", after := #[{ on := 7, ground := Go.Ground.data }], guard := none }) (v := ?v7) rfl (by kernel_rfl) (by kernel_rfl) (by kernel_rfl) (fun _ _ _ h => h) (Or.inl ⟨by rfl, ?y7⟩) (by assumption) ?z7
  case y7 => (intro w hSw; (try dsimp only at hSw); go_simp) <;> with_reducible rfl
  try simp only [Act.put, List.setIfInBounds_toArray, List.set_cons_zero, List.set_cons_succ]
  refine wpAnyH_ready (rs := [3]) (by kernel_rfl) (by simp) ?_
  refine (AllReadyH.cons (o := { dst := some 15, op := Go.Op.call { callee := Go.Callee.value (Go.Operand.func 28), args := #[Go.Operand.tmp 14], argTypes := #[3] }, type := 3, pos := "sound.go:164", after := #[{ on := 2, ground := Go.Ground.data }], guard := none }) rfl (fun K hK => ?_) AllReadyH.nil)
  · skip
    go_simp
    with_reducible refine (maxlen_2 _).mono ?_
    rintro q_ u2 ⟨rfl, hb⟩
    subst hb
    have P2 := P1
    have K2 := K1
    clear P1 K1
    refine hK.out _ _ ?s8 (fun hNew => ?r8)
    case s8 => exact (trivial)
    clear hK K hHeld
    have hHeld := hNew
    clear hNew
    refine wpAnyH_take (i := 6) (oi := { dst := some 18, op := Go.Op.binOp Go.BinOp.sub 3 (Go.Operand.tmp 15) (Go.Operand.tmp 17) 3, type := 3, pos := "sound.go:164", after := #[{ on := 3, ground := Go.Ground.data }, { on := 5, ground := Go.Ground.data }], guard := none }) (v := ?v9) rfl (by kernel_rfl) (by kernel_rfl) (by kernel_rfl) (fun _ _ _ h => h) (Or.inl ⟨by rfl, ?y9⟩) (by assumption) ?z9
    case y9 => (intro w hSw; (try dsimp only at hSw); go_simp) <;> with_reducible rfl
    try simp only [Act.put, List.setIfInBounds_toArray, List.set_cons_zero, List.set_cons_succ]
    refine wpAnyH_take (i := 9) (oi := { dst := some 21, op := Go.Op.indexAddr 27 (Go.Operand.tmp 20) (Go.Operand.tmp 13), type := 0, pos := "sound.go:164", after := #[{ on := 8, ground := Go.Ground.data }, { on := 1, ground := Go.Ground.data }, { on := 0, ground := Go.Ground.phase }, { on := 1, ground := Go.Ground.phase }, { on := 2, ground := Go.Ground.phase }, { on := 3, ground := Go.Ground.phase }, { on := 4, ground := Go.Ground.phase }, { on := 5, ground := Go.Ground.phase }, { on := 6, ground := Go.Ground.phase }], guard := none }) (v := ?v10) rfl (by kernel_rfl) (by kernel_rfl) (by kernel_rfl) (fun _ _ _ h => h) (Or.inl ⟨by rfl, ?y10⟩) (by assumption) ?z10
    case y10 => (intro w hSw; (try dsimp only at hSw); go_simp) <;> with_reducible rfl
    try simp only [Act.put, List.setIfInBounds_toArray, List.set_cons_zero, List.set_cons_succ]
    refine wpAnyH_take (i := 10) (oi := { dst := some 22, op := Go.Op.fieldAddr 26 (Go.Operand.tmp 21) 1, type := 0, pos := "sound.go:164", after := #[{ on := 9, ground := Go.Ground.data }, { on := 0, ground := Go.Ground.phase }, { on := 1, ground := Go.Ground.phase }, { on := 2, ground := Go.Ground.phase }, { on := 3, ground := Go.Ground.phase }, { on := 4, ground := Go.Ground.phase }, { on := 5, ground := Go.Ground.phase }, { on := 6, ground := Go.Ground.phase }], guard := none }) (v := ?v11) rfl (by kernel_rfl) (by kernel_rfl) (by kernel_rfl) (fun _ _ _ h => h) (Or.inl ⟨by rfl, ?y11⟩) (by assumption) ?z11
    case y11 => (intro w hSw; (try dsimp only at hSw); go_simp) <;> with_reducible rfl
    try simp only [Act.put, List.setIfInBounds_toArray, List.set_cons_zero, List.set_cons_succ]
    refine wpAnyH_ready (rs := [11]) (by kernel_rfl) (by simp) ?_
    refine (AllReadyH.cons (o := { dst := none, op := Go.Op.store 3 (Go.Operand.tmp 22) (Go.Operand.tmp 18), type := 0, pos := "sound.go:164", after := #[{ on := 10, ground := Go.Ground.data }, { on := 6, ground := Go.Ground.data }, { on := 3, ground := Go.Ground.chain }, { on := 0, ground := Go.Ground.phase }, { on := 1, ground := Go.Ground.phase }, { on := 2, ground := Go.Ground.phase }, { on := 3, ground := Go.Ground.phase }, { on := 4, ground := Go.Ground.phase }, { on := 5, ground := Go.Ground.phase }, { on := 6, ground := Go.Ground.phase }], guard := none }) rfl (fun K hK => ?_) AllReadyH.nil)
    · skip
      have e9 := enc_i (m) 60 (by first | rfl | exact isB_no _ _ (by omega) (by omega) (by omega)) (by omega) (by omega)
      obtain ⟨hc, hfz⟩ := P2.out.out
      go_simp
      clear hc hfz e9
      have P3 := Lib.hid (P2.out.seti 60 (256 - x) (by first | rfl | exact isB_no _ _ (by omega) (by omega) (by omega)) (by omega) (by omega))
      have K3 := Lib.hid (K2.out.setCell 60 (.int .i64 (256 - x)))
      clear P2 K2
      refine hK.out _ _ ?s12 (fun hNew => ?r12)
      case s12 => exact (trivial)
      clear hK K hHeld
      have hHeld := hNew
      clear hNew
      generalize World.setCell _ _ _ = u3 at hHeld P3 K3 ⊢
      refine wpAnyH_done (by kernel_rfl) ?_ _
      clear hHeld
      go_wp2
      all_goals first | exact bodyPost_ret (v := .tuple #[]) (by simp [results, Tryd.results21, go_sem]) rfl ⟨rfl, P3.out, K3.out⟩ | exact bodyPost_end (v := .tuple #[]) (by simp [results, Tryd.results21, go_sem]) rfl ⟨rfl, P3.out, K3.out⟩
set_option maxHeartbeats 2000000 in
theorem load_n (b : Nat) (m : M) (v : Int) (vn : Nat) (hv : v = vn) (h4 : vn < 4) (h2 : ¬ v = 2) (x : Int) (g0 : 0 ≤ x) (g1 : x < 256) (hx : m (vn * 5 + 1) = x) (w : World) (h : Has w b (enc m)) : Calls Tryd.prog 21 #[.pointer (some ⟨b, 0, none⟩), .int .i64 v] w fun q_ w' => q_ = .returned (.tuple #[]) ∧ Has w' b (enc (upd m (51 + vn * 4 + 1) (64 - x % 64))) ∧ Keeps b w w' := by
  suffices hall : ∀ w0 : World, Keeps b w0 w → Calls Tryd.prog 21 #[.pointer (some ⟨b, 0, none⟩), .int .i64 v] w fun q_ w' => q_ = .returned (.tuple #[]) ∧ Has w' b (enc (upd m (51 + vn * 4 + 1) (64 - x % 64))) ∧ Keeps b w0 w' from hall w (Keeps.refl b w)
  intro w0 hK
  have P0 := Lib.hid h
  have K0 := Lib.hid hK
  clear h hK
  subst hv
  have h3 : ¬ (vn : Int) = 2 := by omega
  have h4i : (vn : Int) < 4 := by omega
  have HX := Lib.hid hx
  clear hx
  have w1 : IntKind.i64.wrap (x % 64) = (x % 64) := by rw [IntKind.wrap_i64]; omega
  have w2 : IntKind.i64.wrap (64 - x % 64) = 64 - x % 64 := by rw [IntKind.wrap_i64]; omega
  go_enter Tryd.func21, Tryd.ntmps21
  go_wp2_with fail
  with_reducible refine (register_c b m _ 1 vn 1 (vn * 5 + 1) rfl rfl rfl (by omega) x HX.out _ P0.out).mono ?_
  rintro q_ w' ⟨rfl, rfl⟩
  go_upto_region 3 with (fail)
  have P1 := Lib.hid P0.out.drew
  have K1 := Lib.hid K0.out.drew
  clear P0 K0
  refine wp_region_held_drew (S := (fun w' => True)) (by kernel_rfl) (trivial) (fun hHeld => ?_)
  generalize World.drew _ = u1 at hHeld P1 K1 ⊢
  refine wpAnyH_take (i := 0) (oi := { dst := some 12, op := Go.Op.move (Go.Operand.tmp 0), type := 51, pos := "sound.go:164", after := #[], guard := none }) (v := ?v13) rfl (by kernel_rfl) (by kernel_rfl) (by kernel_rfl) (fun _ _ _ h => h) (Or.inl ⟨by rfl, ?y13⟩) (by assumption) ?z13
  case y13 => (intro w hSw; (try dsimp only at hSw); go_simp) <;> with_reducible rfl
  try simp only [Act.put, List.setIfInBounds_toArray, List.set_cons_zero, List.set_cons_succ]
  refine wpAnyH_take (i := 1) (oi := { dst := some 13, op := Go.Op.move (Go.Operand.tmp 1), type := 3, pos := "sound.go:164", after := #[], guard := none }) (v := ?v14) rfl (by kernel_rfl) (by kernel_rfl) (by kernel_rfl) (fun _ _ _ h => h) (Or.inl ⟨by rfl, ?y14⟩) (by assumption) ?z14
  case y14 => (intro w hSw; (try dsimp only at hSw); go_simp) <;> with_reducible rfl
  try simp only [Act.put, List.setIfInBounds_toArray, List.set_cons_zero, List.set_cons_succ]
  refine wpAnyH_take (i := 2) (oi := { dst := some 14, op := Go.Op.move (Go.Operand.tmp 1), type := 3, pos := "sound.go:164", after := #[], guard := none }) (v := ?v15) rfl (by kernel_rfl) (by kernel_rfl) (by kernel_rfl) (fun _ _ _ h => h) (Or.inl ⟨by rfl, ?y15⟩) (by assumption) ?z15
  case y15 => (intro w hSw; (try dsimp only at hSw); go_simp) <;> with_reducible rfl
  try simp only [Act.put, List.setIfInBounds_toArray, List.set_cons_zero, List.set_cons_succ]
  refine wpAnyH_take (i := 4) (oi := { dst := some 16, op := Go.Op.move (Go.Operand.tmp 4), type := 5, pos := "sound.go:164", after := #[], guard := none }) (v := ?v16) rfl (by kernel_rfl) (by kernel_rfl) (by kernel_rfl) (fun _ _ _ h => h) (Or.inl ⟨by rfl, ?y16⟩) (by assumption) ?z16
  case y16 => (intro w hSw; (try dsimp only at hSw); go_simp) <;> with_reducible rfl
  try simp only [Act.put, List.setIfInBounds_toArray, List.set_cons_zero, List.set_cons_succ]
  refine wpAnyH_take (i := 5) (oi := { dst := some 17, op := Go.Op.convert 5 3 (Go.Operand.tmp 16), type := 3, pos := "sound.go:164", after := #[{ on := 4, ground := Go.Ground.data }], guard := none }) (v := ?v17) rfl (by kernel_rfl) (by kernel_rfl) (by kernel_rfl) (fun _ _ _ h => h) (Or.inl ⟨by rfl, ?y17⟩) (by assumption) ?z17
  case y17 => (intro w hSw; (try dsimp only at hSw); go_simp) <;> with_reducible rfl
  try simp only [Act.put, List.setIfInBounds_toArray, List.set_cons_zero, List.set_cons_succ]
  refine wpAnyH_take (i := 7) (oi := { dst := some 19, op := Go.Op.nilCheck (Go.Operand.tmp 12), type := 0, pos := "sound.go:164", after := #[{ on := 0, ground := Go.Ground.data }], guard := none }) (v := ?v18) rfl (by kernel_rfl) (by kernel_rfl) (by kernel_rfl) (fun _ _ _ h => h) (Or.inl ⟨by rfl, ?y18⟩) (by assumption) ?z18
  case y18 => (intro w hSw; (try dsimp only at hSw); go_simp) <;> with_reducible rfl
  try simp only [Act.put, List.setIfInBounds_toArray, List.set_cons_zero, List.set_cons_succ]
  refine wpAnyH_take (i := 8) (oi := { dst := some 20, op := Go.Op.fieldAddr 29 (Go.Operand.tmp 19) 4, type := 0, pos := "sound.go:164", after := #[{ on := 7, ground := Go.Ground.data }], guard := none }) (v := ?v19) rfl (by kernel_rfl) (by kernel_rfl) (by kernel_rfl) (fun _ _ _ h => h) (Or.inl ⟨by rfl, ?y19⟩) (by assumption) ?z19
  case y19 => (intro w hSw; (try dsimp only at hSw); go_simp) <;> with_reducible rfl
  try simp only [Act.put, List.setIfInBounds_toArray, List.set_cons_zero, List.set_cons_succ]
  refine wpAnyH_ready (rs := [3]) (by kernel_rfl) (by simp) ?_
  refine (AllReadyH.cons (o := { dst := some 15, op := Go.Op.call { callee := Go.Callee.value (Go.Operand.func 28), args := #[Go.Operand.tmp 14], argTypes := #[3] }, type := 3, pos := "sound.go:164", after := #[{ on := 2, ground := Go.Ground.data }], guard := none }) rfl (fun K hK => ?_) AllReadyH.nil)
  · skip
    go_simp
    with_reducible refine (maxlen_n _ h3 _).mono ?_
    rintro q_ u2 ⟨rfl, hb⟩
    subst hb
    have P2 := P1
    have K2 := K1
    clear P1 K1
    refine hK.out _ _ ?s20 (fun hNew => ?r20)
    case s20 => exact (trivial)
    clear hK K hHeld
    have hHeld := hNew
    clear hNew
    refine wpAnyH_take (i := 6) (oi := { dst := some 18, op := Go.Op.binOp Go.BinOp.sub 3 (Go.Operand.tmp 15) (Go.Operand.tmp 17) 3, type := 3, pos := "sound.go:164", after := #[{ on := 3, ground := Go.Ground.data }, { on := 5, ground := Go.Ground.data }], guard := none }) (v := ?v21) rfl (by kernel_rfl) (by kernel_rfl) (by kernel_rfl) (fun _ _ _ h => h) (Or.inl ⟨by rfl, ?y21⟩) (by assumption) ?z21
    case y21 => (intro w hSw; (try dsimp only at hSw); go_simp) <;> with_reducible rfl
    try simp only [Act.put, List.setIfInBounds_toArray, List.set_cons_zero, List.set_cons_succ]
    refine wpAnyH_take (i := 9) (oi := { dst := some 21, op := Go.Op.indexAddr 27 (Go.Operand.tmp 20) (Go.Operand.tmp 13), type := 0, pos := "sound.go:164", after := #[{ on := 8, ground := Go.Ground.data }, { on := 1, ground := Go.Ground.data }, { on := 0, ground := Go.Ground.phase }, { on := 1, ground := Go.Ground.phase }, { on := 2, ground := Go.Ground.phase }, { on := 3, ground := Go.Ground.phase }, { on := 4, ground := Go.Ground.phase }, { on := 5, ground := Go.Ground.phase }, { on := 6, ground := Go.Ground.phase }], guard := none }) (v := ?v22) rfl (by kernel_rfl) (by kernel_rfl) (by kernel_rfl) (fun _ _ _ h => h) (Or.inl ⟨by rfl, ?y22⟩) (by assumption) ?z22
    case y22 => (intro w hSw; (try dsimp only at hSw); go_simp) <;> with_reducible rfl
    try simp only [Act.put, List.setIfInBounds_toArray, List.set_cons_zero, List.set_cons_succ]
    refine wpAnyH_take (i := 10) (oi := { dst := some 22, op := Go.Op.fieldAddr 26 (Go.Operand.tmp 21) 1, type := 0, pos := "sound.go:164", after := #[{ on := 9, ground := Go.Ground.data }, { on := 0, ground := Go.Ground.phase }, { on := 1, ground := Go.Ground.phase }, { on := 2, ground := Go.Ground.phase }, { on := 3, ground := Go.Ground.phase }, { on := 4, ground := Go.Ground.phase }, { on := 5, ground := Go.Ground.phase }, { on := 6, ground := Go.Ground.phase }], guard := none }) (v := ?v23) rfl (by kernel_rfl) (by kernel_rfl) (by kernel_rfl) (fun _ _ _ h => h) (Or.inl ⟨by rfl, ?y23⟩) (by assumption) ?z23
    case y23 => (intro w hSw; (try dsimp only at hSw); go_simp) <;> with_reducible rfl
    try simp only [Act.put, List.setIfInBounds_toArray, List.set_cons_zero, List.set_cons_succ]
    refine wpAnyH_ready (rs := [11]) (by kernel_rfl) (by simp) ?_
    refine (AllReadyH.cons (o := { dst := none, op := Go.Op.store 3 (Go.Operand.tmp 22) (Go.Operand.tmp 18), type := 0, pos := "sound.go:164", after := #[{ on := 10, ground := Go.Ground.data }, { on := 6, ground := Go.Ground.data }, { on := 3, ground := Go.Ground.chain }, { on := 0, ground := Go.Ground.phase }, { on := 1, ground := Go.Ground.phase }, { on := 2, ground := Go.Ground.phase }, { on := 3, ground := Go.Ground.phase }, { on := 4, ground := Go.Ground.phase }, { on := 5, ground := Go.Ground.phase }, { on := 6, ground := Go.Ground.phase }], guard := none }) rfl (fun K hK => ?_) AllReadyH.nil)
    · skip
      have e9 := enc_i (m) (51 + vn * 4 + 1) (by first | rfl | exact isB_no _ _ (by omega) (by omega) (by omega)) (by omega) (by omega)
      obtain ⟨hc, hfz⟩ := P2.out.out
      go_simp
      clear hc hfz e9
      have P3 := Lib.hid (P2.out.seti (51 + vn * 4 + 1) (64 - x % 64) (by first | rfl | exact isB_no _ _ (by omega) (by omega) (by omega)) (by omega) (by omega))
      have K3 := Lib.hid (K2.out.setCell (51 + vn * 4 + 1) (.int .i64 (64 - x % 64)))
      clear P2 K2
      refine hK.out _ _ ?s24 (fun hNew => ?r24)
      case s24 => exact (trivial)
      clear hK K hHeld
      have hHeld := hNew
      clear hNew
      generalize World.setCell _ _ _ = u3 at hHeld P3 K3 ⊢
      refine wpAnyH_done (by kernel_rfl) ?_ _
      clear hHeld
      go_wp2
      all_goals first | exact bodyPost_ret (v := .tuple #[]) (by simp [results, Tryd.results21, go_sem]) rfl ⟨rfl, P3.out, K3.out⟩ | exact bodyPost_end (v := .tuple #[]) (by simp [results, Tryd.results21, go_sem]) rfl ⟨rfl, P3.out, K3.out⟩
set_option maxHeartbeats 2000000 in
theorem slide_0 (b : Nat) (m : M) (H : ∀ W, Has W b (enc (m)) → Calls Tryd.prog 35 #[.pointer (some ⟨b, 0, none⟩)] W fun q_ w' => q_ = .returned (.bool true) ∧ Has w' b (enc (upd m 51 0)) ∧ Keeps b W w') (w : World) (h : Has w b (enc m)) : Calls Tryd.prog 32 #[.pointer (some ⟨b, 0, none⟩)] w fun q_ w' => q_ = .returned (.tuple #[]) ∧ Has w' b (enc (upd m 51 0)) ∧ Keeps b w w' := by
  suffices hall : ∀ w0 : World, Keeps b w0 w → Calls Tryd.prog 32 #[.pointer (some ⟨b, 0, none⟩)] w fun q_ w' => q_ = .returned (.tuple #[]) ∧ Has w' b (enc (upd m 51 0)) ∧ Keeps b w0 w' from hall w (Keeps.refl b w)
  intro w0 hK
  have P0 := Lib.hid h
  have K0 := Lib.hid hK
  clear h hK
  have SH := Lib.hid H
  clear H
  go_enter Tryd.func32, Tryd.ntmps32
  go_wp2_with fail
  with_reducible refine (SH.out _ P0.out).mono ?_
  rintro q_ u1 ⟨rfl, hP, hk⟩
  have P1 := Lib.hid hP
  have K1 := Lib.hid (K0.out.trans hk)
  clear hP hk P0 K0
  go_wp2
  all_goals first | exact bodyPost_ret (v := .tuple #[]) (by simp [results, Tryd.results32, go_sem]) rfl ⟨rfl, P1.out, K1.out⟩ | exact bodyPost_end (v := .tuple #[]) (by simp [results, Tryd.results32, go_sem]) rfl ⟨rfl, P1.out, K1.out⟩
set_option maxHeartbeats 2000000 in
theorem slide_1 (b : Nat) (m : M) (x s : Int) (hx : m 0 = x) (g0 : 0 ≤ x) (g1 : x < 256) (hs : x % 8 = s) (h0 : s = 0) (H : ∀ W, Has W b (enc (m)) → Calls Tryd.prog 35 #[.pointer (some ⟨b, 0, none⟩)] W fun q_ w' => q_ = .returned (.bool false) ∧ Has w' b (enc (m)) ∧ Keeps b W w') (w : World) (h : Has w b (enc m)) : Calls Tryd.prog 32 #[.pointer (some ⟨b, 0, none⟩)] w fun q_ w' => q_ = .returned (.tuple #[]) ∧ Has w' b (enc (m)) ∧ Keeps b w w' := by
  suffices hall : ∀ w0 : World, Keeps b w0 w → Calls Tryd.prog 32 #[.pointer (some ⟨b, 0, none⟩)] w fun q_ w' => q_ = .returned (.tuple #[]) ∧ Has w' b (enc (m)) ∧ Keeps b w0 w' from hall w (Keeps.refl b w)
  intro w0 hK
  have P0 := Lib.hid h
  have K0 := Lib.hid hK
  clear h hK
  have SH := Lib.hid H
  clear H
  have HX := Lib.hid hx
  clear hx
  go_enter Tryd.func32, Tryd.ntmps32
  go_wp2_with fail
  with_reducible refine (SH.out _ P0.out).mono ?_
  rintro q_ u1 ⟨rfl, hP, hk⟩
  have P1 := Lib.hid hP
  have K1 := Lib.hid (K0.out.trans hk)
  clear hP hk P0 K0
  go_wp2_with fail
  with_reducible refine (shift_c b m x s HX.out g0 g1 hs _ P1.out).mono ?_
  rintro q_ w' ⟨rfl, rfl⟩
  go_wp2
  all_goals first | exact bodyPost_ret (v := .tuple #[]) (by simp [results, Tryd.results32, go_sem]) rfl ⟨rfl, P1.out, K1.out⟩ | exact bodyPost_end (v := .tuple #[]) (by simp [results, Tryd.results32, go_sem]) rfl ⟨rfl, P1.out, K1.out⟩
set_option maxHeartbeats 2000000 in
theorem slide_2 (b : Nat) (m : M) (x s : Int) (hx : m 0 = x) (g0 : 0 ≤ x) (g1 : x < 256) (hs : x % 8 = s) (h0 : ¬ s = 0) (r y : Int) (hr : 0 ≤ r ∧ r ≤ 2047) (hy : m 4 = y) (y0 : 0 ≤ y) (y1 : y < 256) (m9 : M) (z : Bool) (H : ∀ W, Has W b (enc (m)) → Calls Tryd.prog 35 #[.pointer (some ⟨b, 0, none⟩)] W fun q_ w' => q_ = .returned (.bool false) ∧ Has w' b (enc (m)) ∧ Keeps b W w') (H2 : ∀ W, Has W b (enc (m)) → Calls Tryd.prog 36 #[.pointer (some ⟨b, 0, none⟩)] W fun q_ w' => q_ = .returned (.int .i64 r) ∧ Below W.heap.size W w') (H3 : ∀ W, Has W b (enc (upd (upd (upd m 67 r) 3 (r % 256)) 4 (y / 8 * 8 + r / 256 % 8))) → Calls Tryd.prog 35 #[.pointer (some ⟨b, 0, none⟩)] W fun q_ w' => q_ = .returned (.bool z) ∧ Has w' b (enc (m9)) ∧ Keeps b W w') (w : World) (h : Has w b (enc m)) : Calls Tryd.prog 32 #[.pointer (some ⟨b, 0, none⟩)] w fun q_ w' => q_ = .returned (.tuple #[]) ∧ Has w' b (enc (m9)) ∧ Keeps b w w' := by
  suffices hall : ∀ w0 : World, Keeps b w0 w → Calls Tryd.prog 32 #[.pointer (some ⟨b, 0, none⟩)] w fun q_ w' => q_ = .returned (.tuple #[]) ∧ Has w' b (enc (m9)) ∧ Keeps b w0 w' from hall w (Keeps.refl b w)
  intro w0 hK
  have P0 := Lib.hid h
  have K0 := Lib.hid hK
  clear h hK
  have SH := Lib.hid H
  have SH2 := Lib.hid H2
  have SH3 := Lib.hid H3
  have HX := Lib.hid hx
  have HY := Lib.hid hy
  clear H H2 H3 hx hy
  have c1 : IntKind.u8.wrap r = r % 256 := by rw [IntKind.wrap_u8]
  have c2 : IntKind.u8.wrap (r / 256) = r / 256 := by rw [IntKind.wrap_u8]; omega
  have c3 : bits .andNot .u8 y 7 = y / 8 * 8 := bn7 y y0 y1
  have c4 : bits .and .u8 (r / 256) 7 = r / 256 % 8 := a7 (r / 256) (by omega) (by omega)
  have c5 : bits .or .u8 (y / 8 * 8) (r / 256 % 8) = y / 8 * 8 + r / 256 % 8 := or8 (y / 8) (r / 256 % 8) (by omega) (by omega) (by omega) (by omega)
  go_enter Tryd.func32, Tryd.ntmps32
  go_wp2_with fail
  with_reducible refine (SH.out _ P0.out).mono ?_
  rintro q_ u1 ⟨rfl, hP, hk⟩
  have P1 := Lib.hid hP
  have K1 := Lib.hid (K0.out.trans hk)
  clear hP hk P0 K0
  go_wp2_with fail
  with_reducible refine (shift_c b m x s HX.out g0 g1 hs _ P1.out).mono ?_
  rintro q_ w' ⟨rfl, rfl⟩
  go_wp2_with fail
  with_reducible refine (SH2.out _ P1.out).mono ?_
  rintro q_ u2 ⟨rfl, hb⟩
  have P2 := Lib.hid (P1.out.below hb)
  have K2 := Lib.hid (K1.out.trans (Keeps.of_below hb))
  clear hb P1 K1
  go_wp2_with (refine store_i P2.out rfl _ _ rfl _ rfl _ rfl (by rfl) (by omega) (by omega) ?_)
  intro u3 hP hk
  replace hP : Has u3 b (enc (upd m 67 r)) := hP
  have P3 := Lib.hid hP
  have K3 := Lib.hid (K2.out.trans hk)
  clear hP hk P2 K2
  try simp only [Act.put]
  have e67 : (enc (upd m 67 r))[67]? = some (.int .i64 r) := by rw [enc_i _ _ rfl (by omega) (by omega), upd_same]
  go_upto_region 2 with (fail)
  have P4 := Lib.hid P3.out.drew
  have K4 := Lib.hid K3.out.drew
  clear P3 K3
  refine wp_region_held_drew (S := (fun w' => w'.cell? ⟨b, 67, none⟩ = some (.int .i64 r))) (by kernel_rfl) ((P4.out.2.1 67).trans (by rw [enc_i _ _ rfl (by omega) (by omega)]; rfl)) (fun hHeld => ?_)
  generalize World.drew _ = u4 at hHeld P4 K4 ⊢
  refine wpAnyH_take (i := 0) (oi := { dst := some 14, op := Go.Op.move (Go.Operand.tmp 0), type := 51, pos := "steps.go:82", after := #[], guard := none }) (v := ?v25) rfl (by kernel_rfl) (by kernel_rfl) (by kernel_rfl) (fun _ _ _ h => h) (Or.inl ⟨by rfl, ?y25⟩) (by assumption) ?z25
  case y25 => (intro w hSw; (try dsimp only at hSw); go_simp) <;> with_reducible rfl
  try simp only [Act.put, List.setIfInBounds_toArray, List.set_cons_zero, List.set_cons_succ]
  refine wpAnyH_take (i := 1) (oi := { dst := some 15, op := Go.Op.move (Go.Operand.tmp 0), type := 51, pos := "steps.go:82", after := #[], guard := none }) (v := ?v26) rfl (by kernel_rfl) (by kernel_rfl) (by kernel_rfl) (fun _ _ _ h => h) (Or.inl ⟨by rfl, ?y26⟩) (by assumption) ?z26
  case y26 => (intro w hSw; (try dsimp only at hSw); go_simp) <;> with_reducible rfl
  try simp only [Act.put, List.setIfInBounds_toArray, List.set_cons_zero, List.set_cons_succ]
  refine wpAnyH_take (i := 2) (oi := { dst := some 16, op := Go.Op.nilCheck (Go.Operand.tmp 15), type := 0, pos := "steps.go:82", after := #[{ on := 1, ground := Go.Ground.data }], guard := none }) (v := ?v27) rfl (by kernel_rfl) (by kernel_rfl) (by kernel_rfl) (fun _ _ _ h => h) (Or.inl ⟨by rfl, ?y27⟩) (by assumption) ?z27
  case y27 => (intro w hSw; (try dsimp only at hSw); go_simp) <;> with_reducible rfl
  try simp only [Act.put, List.setIfInBounds_toArray, List.set_cons_zero, List.set_cons_succ]
  refine wpAnyH_take (i := 3) (oi := { dst := some 17, op := Go.Op.fieldAddr 29 (Go.Operand.tmp 16) 5, type := 0, pos := "steps.go:82", after := #[{ on := 2, ground := Go.Ground.data }], guard := none }) (v := ?v28) rfl (by kernel_rfl) (by kernel_rfl) (by kernel_rfl) (fun _ _ _ h => h) (Or.inl ⟨by rfl, ?y28⟩) (by assumption) ?z28
  case y28 => (intro w hSw; (try dsimp only at hSw); go_simp) <;> with_reducible rfl
  try simp only [Act.put, List.setIfInBounds_toArray, List.set_cons_zero, List.set_cons_succ]
  refine wpAnyH_take (i := 4) (oi := { dst := some 18, op := Go.Op.load 3 (Go.Operand.tmp 17), type := 3, pos := "steps.go:82", after := #[{ on := 3, ground := Go.Ground.data }], guard := none }) (v := ?v29) rfl (by kernel_rfl) (by kernel_rfl) (by kernel_rfl) (fun _ _ _ h => h) (Or.inl ⟨by rfl, ?y29⟩) (by assumption) ?z29
  case y29 => (intro w hSw; (try dsimp only at hSw); go_simp) <;> with_reducible rfl
  try simp only [Act.put, List.setIfInBounds_toArray, List.set_cons_zero, List.set_cons_succ]
  refine wpAnyH_take (i := 5) (oi := { dst := some 19, op := Go.Op.convert 3 5 (Go.Operand.tmp 18), type := 5, pos := "steps.go:82", after := #[{ on := 4, ground := Go.Ground.data }], guard := none }) (v := ?v30) rfl (by kernel_rfl) (by kernel_rfl) (by kernel_rfl) (fun _ _ _ h => h) (Or.inl ⟨by rfl, ?y30⟩) (by assumption) ?z30
  case y30 => (intro w hSw; (try dsimp only at hSw); go_simp) <;> with_reducible rfl
  try simp only [Act.put, List.setIfInBounds_toArray, List.set_cons_zero, List.set_cons_succ]
  refine wpAnyH_take (i := 6) (oi := { dst := some 20, op := Go.Op.nilCheck (Go.Operand.tmp 14), type := 0, pos := "steps.go:82", after := #[{ on := 0, ground := Go.Ground.data }], guard := none }) (v := ?v31) rfl (by kernel_rfl) (by kernel_rfl) (by kernel_rfl) (fun _ _ _ h => h) (Or.inl ⟨by rfl, ?y31⟩) (by assumption) ?z31
  case y31 => (intro w hSw; (try dsimp only at hSw); go_simp) <;> with_reducible rfl
  try simp only [Act.put, List.setIfInBounds_toArray, List.set_cons_zero, List.set_cons_succ]
  refine wpAnyH_take (i := 7) (oi := { dst := some 21, op := Go.Op.fieldAddr 29 (Go.Operand.tmp 20) 0, type := 0, pos := "steps.go:82", after := #[{ on := 6, ground := Go.Ground.data }], guard := none }) (v := ?v32) rfl (by kernel_rfl) (by kernel_rfl) (by kernel_rfl) (fun _ _ _ h => h) (Or.inl ⟨by rfl, ?y32⟩) (by assumption) ?z32
  case y32 => (intro w hSw; (try dsimp only at hSw); go_simp) <;> with_reducible rfl
  try simp only [Act.put, List.setIfInBounds_toArray, List.set_cons_zero, List.set_cons_succ]
  refine wpAnyH_take (i := 8) (oi := { dst := some 22, op := Go.Op.indexAddr 24 (Go.Operand.tmp 21) (Go.Operand.const (Go.Value.int Go.IntKind.i64 3)), type := 0, pos := "steps.go:82", after := #[{ on := 7, ground := Go.Ground.data }, { on := 0, ground := Go.Ground.phase }, { on := 1, ground := Go.Ground.phase }, { on := 2, ground := Go.Ground.phase }, { on := 3, ground := Go.Ground.phase }, { on := 4, ground := Go.Ground.phase }, { on := 5, ground := Go.Ground.phase }], guard := none }) (v := ?v33) rfl (by kernel_rfl) (by kernel_rfl) (by kernel_rfl) (fun _ _ _ h => h) (Or.inl ⟨by rfl, ?y33⟩) (by assumption) ?z33
  case y33 => (intro w hSw; (try dsimp only at hSw); go_simp) <;> with_reducible rfl
  try simp only [Act.put, List.setIfInBounds_toArray, List.set_cons_zero, List.set_cons_succ]
  refine wpAnyH_ready (rs := [9]) (by kernel_rfl) (by simp) ?_
  refine (AllReadyH.cons (o := { dst := none, op := Go.Op.store 5 (Go.Operand.tmp 22) (Go.Operand.tmp 19), type := 0, pos := "steps.go:82", after := #[{ on := 8, ground := Go.Ground.data }, { on := 5, ground := Go.Ground.data }, { on := 0, ground := Go.Ground.phase }, { on := 1, ground := Go.Ground.phase }, { on := 2, ground := Go.Ground.phase }, { on := 3, ground := Go.Ground.phase }, { on := 4, ground := Go.Ground.phase }, { on := 5, ground := Go.Ground.phase }], guard := none }) rfl (fun K hK => ?_) AllReadyH.nil)
  · skip
    have e9 := enc_u8 (upd m 67 r) 3 (by omega)
    obtain ⟨hc, hfz⟩ := P4.out.out
    go_simp
    clear hc hfz e9
    have P5 := Lib.hid (P4.out.setu 3 (r % 256) (by omega))
    have K5 := Lib.hid (K4.out.setCell 3 (.int .u8 (r % 256)))
    clear P4 K4
    refine hK.out _ _ ?s34 (fun hNew => ?r34)
    case s34 => exact ((P5.out.2.1 67).trans (by rw [enc_i _ _ rfl (by omega) (by omega)]; rfl))
    clear hK K hHeld
    have hHeld := hNew
    clear hNew
    generalize World.setCell _ _ _ = u5 at hHeld P5 K5 ⊢
    refine wpAnyH_done (by kernel_rfl) ?_ _
    clear hHeld
    clear e67
    have e67 : (enc (upd (upd m 67 r) 3 (r % 256)))[67]? = some (.int .i64 r) := by rw [enc_i _ _ rfl (by omega) (by omega)]; rfl
    have e4 : (enc (upd (upd m 67 r) 3 (r % 256)))[4]? = some (.int .u8 y) := by rw [enc_u8 _ _ (by omega)]; exact congrArg some (congrArg (Value.int .u8) HY.out)
    go_upto_region 3 with (fail)
    have P6 := Lib.hid P5.out.drew
    have K6 := Lib.hid K5.out.drew
    clear P5 K5
    refine wp_region_held_drew (S := (fun w' => w'.cell? ⟨b, 67, none⟩ = some (.int .i64 r))) (by kernel_rfl) ((P6.out.2.1 67).trans (by rw [enc_i _ _ rfl (by omega) (by omega)]; rfl)) (fun hHeld => ?_)
    generalize World.drew _ = u6 at hHeld P6 K6 ⊢
    refine wpAnyH_take (i := 0) (oi := { dst := some 23, op := Go.Op.move (Go.Operand.tmp 0), type := 51, pos := "steps.go:83", after := #[], guard := none }) (v := ?v35) rfl (by kernel_rfl) (by kernel_rfl) (by kernel_rfl) (fun _ _ _ h => h) (Or.inl ⟨by rfl, ?y35⟩) (by assumption) ?z35
    case y35 => (intro w hSw; (try dsimp only at hSw); go_simp) <;> with_reducible rfl
    try simp only [Act.put, List.setIfInBounds_toArray, List.set_cons_zero, List.set_cons_succ]
    refine wpAnyH_take (i := 1) (oi := { dst := some 24, op := Go.Op.move (Go.Operand.tmp 0), type := 51, pos := "steps.go:83", after := #[], guard := none }) (v := ?v36) rfl (by kernel_rfl) (by kernel_rfl) (by kernel_rfl) (fun _ _ _ h => h) (Or.inl ⟨by rfl, ?y36⟩) (by assumption) ?z36
    case y36 => (intro w hSw; (try dsimp only at hSw); go_simp) <;> with_reducible rfl
    try simp only [Act.put, List.setIfInBounds_toArray, List.set_cons_zero, List.set_cons_succ]
    refine wpAnyH_take (i := 2) (oi := { dst := some 25, op := Go.Op.nilCheck (Go.Operand.tmp 24), type := 0, pos := "steps.go:83", after := #[{ on := 1, ground := Go.Ground.data }], guard := none }) (v := ?v37) rfl (by kernel_rfl) (by kernel_rfl) (by kernel_rfl) (fun _ _ _ h => h) (Or.inl ⟨by rfl, ?y37⟩) (by assumption) ?z37
    case y37 => (intro w hSw; (try dsimp only at hSw); go_simp) <;> with_reducible rfl
    try simp only [Act.put, List.setIfInBounds_toArray, List.set_cons_zero, List.set_cons_succ]
    refine wpAnyH_take (i := 3) (oi := { dst := some 26, op := Go.Op.fieldAddr 29 (Go.Operand.tmp 25) 0, type := 0, pos := "steps.go:83", after := #[{ on := 2, ground := Go.Ground.data }], guard := none }) (v := ?v38) rfl (by kernel_rfl) (by kernel_rfl) (by kernel_rfl) (fun _ _ _ h => h) (Or.inl ⟨by rfl, ?y38⟩) (by assumption) ?z38
    case y38 => (intro w hSw; (try dsimp only at hSw); go_simp) <;> with_reducible rfl
    try simp only [Act.put, List.setIfInBounds_toArray, List.set_cons_zero, List.set_cons_succ]
    refine wpAnyH_take (i := 4) (oi := { dst := some 27, op := Go.Op.indexAddr 24 (Go.Operand.tmp 26) (Go.Operand.const (Go.Value.int Go.IntKind.i64 4)), type := 0, pos := "steps.go:83", after := #[{ on := 3, ground := Go.Ground.data }], guard := none }) (v := ?v39) rfl (by kernel_rfl) (by kernel_rfl) (by kernel_rfl) (fun _ _ _ h => h) (Or.inl ⟨by rfl, ?y39⟩) (by assumption) ?z39
    case y39 => (intro w hSw; (try dsimp only at hSw); go_simp) <;> with_reducible rfl
    try simp only [Act.put, List.setIfInBounds_toArray, List.set_cons_zero, List.set_cons_succ]
    refine wpAnyH_take (i := 7) (oi := { dst := some 30, op := Go.Op.move (Go.Operand.tmp 0), type := 51, pos := "steps.go:83", after := #[], guard := none }) (v := ?v40) rfl (by kernel_rfl) (by kernel_rfl) (by kernel_rfl) (fun _ _ _ h => h) (Or.inl ⟨by rfl, ?y40⟩) (by assumption) ?z40
    case y40 => (intro w hSw; (try dsimp only at hSw); go_simp) <;> with_reducible rfl
    try simp only [Act.put, List.setIfInBounds_toArray, List.set_cons_zero, List.set_cons_succ]
    refine wpAnyH_take (i := 8) (oi := { dst := some 31, op := Go.Op.nilCheck (Go.Operand.tmp 30), type := 0, pos := "steps.go:83", after := #[{ on := 7, ground := Go.Ground.data }], guard := none }) (v := ?v41) rfl (by kernel_rfl) (by kernel_rfl) (by kernel_rfl) (fun _ _ _ h => h) (Or.inl ⟨by rfl, ?y41⟩) (by assumption) ?z41
    case y41 => (intro w hSw; (try dsimp only at hSw); go_simp) <;> with_reducible rfl
    try simp only [Act.put, List.setIfInBounds_toArray, List.set_cons_zero, List.set_cons_succ]
    refine wpAnyH_take (i := 9) (oi := { dst := some 32, op := Go.Op.fieldAddr 29 (Go.Operand.tmp 31) 5, type := 0, pos := "steps.go:83", after := #[{ on := 8, ground := Go.Ground.data }], guard := none }) (v := ?v42) rfl (by kernel_rfl) (by kernel_rfl) (by kernel_rfl) (fun _ _ _ h => h) (Or.inl ⟨by rfl, ?y42⟩) (by assumption) ?z42
    case y42 => (intro w hSw; (try dsimp only at hSw); go_simp) <;> with_reducible rfl
    try simp only [Act.put, List.setIfInBounds_toArray, List.set_cons_zero, List.set_cons_succ]
    refine wpAnyH_take (i := 10) (oi := { dst := some 33, op := Go.Op.load 3 (Go.Operand.tmp 32), type := 3, pos := "steps.go:83", after := #[{ on := 9, ground := Go.Ground.data }], guard := none }) (v := ?v43) rfl (by kernel_rfl) (by kernel_rfl) (by kernel_rfl) (fun _ _ _ h => h) (Or.inl ⟨by rfl, ?y43⟩) (by assumption) ?z43
    case y43 => (intro w hSw; (try dsimp only at hSw); go_simp) <;> with_reducible rfl
    try simp only [Act.put, List.setIfInBounds_toArray, List.set_cons_zero, List.set_cons_succ]
    refine wpAnyH_take (i := 11) (oi := { dst := some 34, op := Go.Op.binOp Go.BinOp.shr 3 (Go.Operand.tmp 33) (Go.Operand.const (Go.Value.int Go.IntKind.u64 8)) 41, type := 3, pos := "steps.go:83", after := #[{ on := 10, ground := Go.Ground.data }], guard := none }) (v := ?v44) rfl (by kernel_rfl) (by kernel_rfl) (by kernel_rfl) (fun _ _ _ h => h) (Or.inl ⟨by rfl, ?y44⟩) (by assumption) ?z44
    case y44 => (intro w hSw; (try dsimp only at hSw); go_simp) <;> with_reducible rfl
    try simp only [Act.put, List.setIfInBounds_toArray, List.set_cons_zero, List.set_cons_succ]
    refine wpAnyH_take (i := 12) (oi := { dst := some 35, op := Go.Op.convert 3 5 (Go.Operand.tmp 34), type := 5, pos := "steps.go:83", after := #[{ on := 11, ground := Go.Ground.data }], guard := none }) (v := ?v45) rfl (by kernel_rfl) (by kernel_rfl) (by kernel_rfl) (fun _ _ _ h => h) (Or.inl ⟨by rfl, ?y45⟩) (by assumption) ?z45
    case y45 => (intro w hSw; (try dsimp only at hSw); go_simp) <;> with_reducible rfl
    try simp only [Act.put, List.setIfInBounds_toArray, List.set_cons_zero, List.set_cons_succ]
    refine wpAnyH_take (i := 13) (oi := { dst := some 36, op := Go.Op.binOp Go.BinOp.and 5 (Go.Operand.tmp 35) (Go.Operand.const (Go.Value.int Go.IntKind.u8 7)) 5, type := 5, pos := "steps.go:83", after := #[{ on := 12, ground := Go.Ground.data }], guard := none }) (v := ?v46) rfl (by kernel_rfl) (by kernel_rfl) (by kernel_rfl) (fun _ _ _ h => h) (Or.inl ⟨by rfl, ?y46⟩) (by assumption) ?z46
    case y46 => (intro w hSw; (try dsimp only at hSw); go_simp) <;> with_reducible rfl
    try simp only [Act.put, List.setIfInBounds_toArray, List.set_cons_zero, List.set_cons_succ]
    refine wpAnyH_take (i := 15) (oi := { dst := some 38, op := Go.Op.nilCheck (Go.Operand.tmp 23), type := 0, pos := "steps.go:83", after := #[{ on := 0, ground := Go.Ground.data }], guard := none }) (v := ?v47) rfl (by kernel_rfl) (by kernel_rfl) (by kernel_rfl) (fun _ _ _ h => h) (Or.inl ⟨by rfl, ?y47⟩) (by assumption) ?z47
    case y47 => (intro w hSw; (try dsimp only at hSw); go_simp) <;> with_reducible rfl
    try simp only [Act.put, List.setIfInBounds_toArray, List.set_cons_zero, List.set_cons_succ]
    refine wpAnyH_take (i := 16) (oi := { dst := some 39, op := Go.Op.fieldAddr 29 (Go.Operand.tmp 38) 0, type := 0, pos := "steps.go:83", after := #[{ on := 15, ground := Go.Ground.data }], guard := none }) (v := ?v48) rfl (by kernel_rfl) (by kernel_rfl) (by kernel_rfl) (fun _ _ _ h => h) (Or.inl ⟨by rfl, ?y48⟩) (by assumption) ?z48
    case y48 => (intro w hSw; (try dsimp only at hSw); go_simp) <;> with_reducible rfl
    try simp only [Act.put, List.setIfInBounds_toArray, List.set_cons_zero, List.set_cons_succ]
    refine wpAnyH_ready (rs := [5]) (by kernel_rfl) (by simp) ?_
    refine (AllReadyH.cons (o := { dst := some 28, op := Go.Op.load 5 (Go.Operand.tmp 27), type := 5, pos := "steps.go:83", after := #[{ on := 4, ground := Go.Ground.data }], guard := none }) rfl (fun K hK => ?_) AllReadyH.nil)
    · skip
      obtain ⟨hc, hfz⟩ := P6.out.out
      go_simp
      clear hc hfz
      have P7 := P6
      have K7 := K6
      clear P6 K6
      refine hK.out _ _ ?s49 (fun hNew => ?r49)
      case s49 => exact ((P7.out.2.1 67).trans (by rw [enc_i _ _ rfl (by omega) (by omega)]; rfl))
      clear hK K hHeld
      have hHeld := hNew
      clear hNew
      refine wpAnyH_take (i := 6) (oi := { dst := some 29, op := Go.Op.binOp Go.BinOp.andNot 5 (Go.Operand.tmp 28) (Go.Operand.const (Go.Value.int Go.IntKind.u8 7)) 5, type := 5, pos := "steps.go:83", after := #[{ on := 5, ground := Go.Ground.data }], guard := none }) (v := ?v50) rfl (by kernel_rfl) (by kernel_rfl) (by kernel_rfl) (fun _ _ _ h => h) (Or.inl ⟨by rfl, ?y50⟩) (by assumption) ?z50
      case y50 => (intro w hSw; (try dsimp only at hSw); go_simp) <;> with_reducible rfl
      try simp only [Act.put, List.setIfInBounds_toArray, List.set_cons_zero, List.set_cons_succ]
      refine wpAnyH_take (i := 14) (oi := { dst := some 37, op := Go.Op.binOp Go.BinOp.or 5 (Go.Operand.tmp 29) (Go.Operand.tmp 36) 5, type := 5, pos := "steps.go:83", after := #[{ on := 6, ground := Go.Ground.data }, { on := 13, ground := Go.Ground.data }], guard := none }) (v := ?v51) rfl (by kernel_rfl) (by kernel_rfl) (by kernel_rfl) (fun _ _ _ h => h) (Or.inl ⟨by rfl, ?y51⟩) (by assumption) ?z51
      case y51 => (intro w hSw; (try dsimp only at hSw); go_simp) <;> with_reducible rfl
      try simp only [Act.put, List.setIfInBounds_toArray, List.set_cons_zero, List.set_cons_succ]
      refine wpAnyH_take (i := 17) (oi := { dst := some 40, op := Go.Op.indexAddr 24 (Go.Operand.tmp 39) (Go.Operand.const (Go.Value.int Go.IntKind.i64 4)), type := 0, pos := "steps.go:83", after := #[{ on := 16, ground := Go.Ground.data }, { on := 0, ground := Go.Ground.phase }, { on := 1, ground := Go.Ground.phase }, { on := 2, ground := Go.Ground.phase }, { on := 3, ground := Go.Ground.phase }, { on := 4, ground := Go.Ground.phase }, { on := 5, ground := Go.Ground.phase }, { on := 6, ground := Go.Ground.phase }, { on := 7, ground := Go.Ground.phase }, { on := 8, ground := Go.Ground.phase }, { on := 9, ground := Go.Ground.phase }, { on := 10, ground := Go.Ground.phase }, { on := 11, ground := Go.Ground.phase }, { on := 12, ground := Go.Ground.phase }, { on := 13, ground := Go.Ground.phase }, { on := 14, ground := Go.Ground.phase }], guard := none }) (v := ?v52) rfl (by kernel_rfl) (by kernel_rfl) (by kernel_rfl) (fun _ _ _ h => h) (Or.inl ⟨by rfl, ?y52⟩) (by assumption) ?z52
      case y52 => (intro w hSw; (try dsimp only at hSw); go_simp) <;> with_reducible rfl
      try simp only [Act.put, List.setIfInBounds_toArray, List.set_cons_zero, List.set_cons_succ]
      refine wpAnyH_ready (rs := [18]) (by kernel_rfl) (by simp) ?_
      refine (AllReadyH.cons (o := { dst := none, op := Go.Op.store 5 (Go.Operand.tmp 40) (Go.Operand.tmp 37), type := 0, pos := "steps.go:83", after := #[{ on := 17, ground := Go.Ground.data }, { on := 14, ground := Go.Ground.data }, { on := 0, ground := Go.Ground.phase }, { on := 1, ground := Go.Ground.phase }, { on := 2, ground := Go.Ground.phase }, { on := 3, ground := Go.Ground.phase }, { on := 4, ground := Go.Ground.phase }, { on := 5, ground := Go.Ground.phase }, { on := 6, ground := Go.Ground.phase }, { on := 7, ground := Go.Ground.phase }, { on := 8, ground := Go.Ground.phase }, { on := 9, ground := Go.Ground.phase }, { on := 10, ground := Go.Ground.phase }, { on := 11, ground := Go.Ground.phase }, { on := 12, ground := Go.Ground.phase }, { on := 13, ground := Go.Ground.phase }, { on := 14, ground := Go.Ground.phase }], guard := none }) rfl (fun K hK => ?_) AllReadyH.nil)
      · skip
        have e9 := enc_u8 (upd (upd m 67 r) 3 (r % 256)) 4 (by omega)
        obtain ⟨hc, hfz⟩ := P7.out.out
        go_simp
        clear hc hfz e9
        have P8 := Lib.hid (P7.out.setu 4 (y / 8 * 8 + r / 256 % 8) (by omega))
        have K8 := Lib.hid (K7.out.setCell 4 (.int .u8 (y / 8 * 8 + r / 256 % 8)))
        clear P7 K7
        refine hK.out _ _ ?s53 (fun hNew => ?r53)
        case s53 => exact ((P8.out.2.1 67).trans (by rw [enc_i _ _ rfl (by omega) (by omega)]; rfl))
        clear hK K hHeld
        have hHeld := hNew
        clear hNew
        generalize World.setCell _ _ _ = u8 at hHeld P8 K8 ⊢
        refine wpAnyH_done (by kernel_rfl) ?_ _
        clear hHeld
        clear e67 e4
        go_wp2_with fail
        with_reducible refine (SH3.out _ P8.out).mono ?_
        rintro q_ u9 ⟨rfl, hP, hk⟩
        have P9 := Lib.hid hP
        have K9 := Lib.hid (K8.out.trans hk)
        clear hP hk P8 K8
        go_wp2
        all_goals first | exact bodyPost_ret (v := .tuple #[]) (by simp [results, Tryd.results32, go_sem]) rfl ⟨rfl, P9.out, K9.out⟩ | exact bodyPost_end (v := .tuple #[]) (by simp [results, Tryd.results32, go_sem]) rfl ⟨rfl, P9.out, K9.out⟩
end Go.Proofs.YtonmnpadmphbdaaDoor
