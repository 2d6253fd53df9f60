/-
  Read, Press and Write of the program: for every joypad; no condition but that each number is a byte.
-/
import Derived.Test.YtbpfeppgonhclaaFn
import Derived.Deep.Cut
import Derived.BigQuiet
namespace Go.Proofs.Ytbpfeppgonhclaa
open Go.ChangeShapes Go.WideShapes Go.ChangeAt Go.RowKit
set_option linter.unusedVariables false
set_option linter.unusedSimpArgs false
set_option maxRecDepth 100000
set_option maxHeartbeats 2000000 in
theorem read_c (s d : Int) (hs : 0 ≤ s) (hs2 : s < 256) (hd : 0 ≤ d) (hd2 : d < 256) (w : World) : Calls Try.prog 13 #[.agg #[.int .u8 s, .int .u8 d]] w fun q_ w' => q_ = .returned (.int .u8 (rdV s d)) ∧ Below w.heap.size w w' := by
  suffices hall : ∀ (n_ : Nat) (W0 : World), n_ ≤ W0.heap.size → Below n_ W0 w → Calls Try.prog 13 #[.agg #[.int .u8 s, .int .u8 d]] w fun q_ w' => q_ = .returned (.int .u8 (rdV s d)) ∧ Below n_ W0 w' from hall _ _ (Nat.le_refl _) (Below.refl _ _)
  intro n_ W0 hn hB
  have HN := Lib.hid hn
  have BB := Lib.hid hB
  clear hn hB
  have e1 := and48 s hs hs2
  have e2 := or_sel s hs hs2
  have e3 := rd_or s d hs hs2
  have LC := Lib.hid (fun W => lines_c s d hs hs2 hd hd2 W)
  go_enter Try.func13, Try.ntmps13
  have Q_ := own1 w (.cells #[.int .u8 s, .int .u8 d] 26)
  have B0 := Lib.hid (vian HN.out BB.out Q_)
  have P0 := Lib.hid (show Has (w.alloc (.cells #[.int .u8 s, .int .u8 d] 26)) w.heap.size #[.int .u8 s, .int .u8 d] by simpa using Has.new w #[.int .u8 s, .int .u8 d] 26)
  have LP := Lib.hid (show n_ ≤ w.heap.size + 0 from Nat.le_add_right_of_le (Nat.le_trans HN.out BB.out.size))
  simp only [Nat.add_zero] at LP
  clear Q_
  go_upto_region 1 with (fail)
  generalize (w.alloc (.cells #[.int .u8 s, .int .u8 d] 26)) = u0 at B0 P0 ⊢
  generalize w.heap.size = pb at P0 LP  ⊢
  have B1 := Lib.hid B0.out.drew
  have P1 := Lib.hid P0.out.drew
  clear B0 P0
  refine wp_region_held_drew (S := (fun w' => ∀ o, w'.cell? ⟨pb, o, none⟩ = #[.int .u8 s, .int .u8 d][o]?)) (by kernel_rfl) P1.out.2.1 (fun hHeld => ?_)
  generalize World.drew u0 = u1 at hHeld B1 P1 ⊢
  refine wpAnyH_take (i := 0) (oi := { dst := some 3, op := Go.Op.fieldAddr 26 (Go.Operand.tmp 1) 0, type := 0, pos := "joypad.go:22", after := #[], guard := none }) (v := ?v1) rfl (by kernel_rfl) (by kernel_rfl) (by kernel_rfl) (fun _ _ _ h => h) (Or.inl ⟨by rfl, ?y1⟩) (by assumption) ?z1
  case y1 => (intro w hSw; (try dsimp only at hSw); go_simp) <;> with_reducible rfl
  try simp only [Act.put, List.setIfInBounds_toArray, List.set_cons_zero, List.set_cons_succ]
  refine wpAnyH_take (i := 1) (oi := { dst := some 4, op := Go.Op.load 5 (Go.Operand.tmp 3), type := 5, pos := "joypad.go:22", after := #[{ on := 0, ground := Go.Ground.data }], guard := none }) (v := ?v2) rfl (by kernel_rfl) (by kernel_rfl) (by kernel_rfl) (fun _ _ _ h => h) (Or.inl ⟨by rfl, ?y2⟩) (by assumption) ?z2
  case y2 => (intro w hSw; (try dsimp only at hSw); go_simp) <;> with_reducible rfl
  try simp only [Act.put, List.setIfInBounds_toArray, List.set_cons_zero, List.set_cons_succ]
  refine wpAnyH_take (i := 2) (oi := { dst := some 5, op := Go.Op.binOp Go.BinOp.and 5 (Go.Operand.tmp 4) (Go.Operand.const (Go.Value.int Go.IntKind.u8 48)) 5, type := 5, pos := "joypad.go:22", after := #[{ on := 1, ground := Go.Ground.data }], guard := none }) (v := ?v3) rfl (by kernel_rfl) (by kernel_rfl) (by kernel_rfl) (fun _ _ _ h => h) (Or.inl ⟨by rfl, ?y3⟩) (by assumption) ?z3
  case y3 => (intro w hSw; (try dsimp only at hSw); go_simp) <;> with_reducible rfl
  try simp only [Act.put, List.setIfInBounds_toArray, List.set_cons_zero, List.set_cons_succ]
  refine wpAnyH_take (i := 3) (oi := { dst := some 6, op := Go.Op.binOp Go.BinOp.or 5 (Go.Operand.const (Go.Value.int Go.IntKind.u8 192)) (Go.Operand.tmp 5) 5, type := 5, pos := "joypad.go:22", after := #[{ on := 2, ground := Go.Ground.data }], guard := none }) (v := ?v4) rfl (by kernel_rfl) (by kernel_rfl) (by kernel_rfl) (fun _ _ _ h => h) (Or.inl ⟨by rfl, ?y4⟩) (by assumption) ?z4
  case y4 => (intro w hSw; (try dsimp only at hSw); go_simp) <;> with_reducible rfl
  try simp only [Act.put, List.setIfInBounds_toArray, List.set_cons_zero, List.set_cons_succ]
  refine wpAnyH_take (i := 4) (oi := { dst := some 7, op := Go.Op.load 26 (Go.Operand.tmp 1), type := 26, pos := "joypad.go:22", after := #[], guard := none }) (v := ?v5) rfl (by kernel_rfl) (by kernel_rfl) (by kernel_rfl) (fun _ _ _ h => h) (Or.inl ⟨by rfl, ?y5⟩) (by assumption) ?z5
  case y5 => (intro w hSw; (try dsimp only at hSw); go_simp) <;> with_reducible rfl
  try simp only [Act.put, List.setIfInBounds_toArray, List.set_cons_zero, List.set_cons_succ]
  refine wpAnyH_ready (rs := [5]) (by kernel_rfl) (by simp) ?_
  refine (AllReadyH.cons (o := { dst := some 8, op := Go.Op.call { callee := Go.Callee.value (Go.Operand.func 18), args := #[Go.Operand.tmp 7], argTypes := #[26] }, type := 5, pos := "joypad.go:22", after := #[{ on := 4, ground := Go.Ground.data }], guard := none }) rfl (fun K hK => ?_) AllReadyH.nil)
  · skip
    go_simp
    with_reducible refine (LC.out _).mono ?_
    rintro q_ u2 ⟨rfl, hb⟩
    have B2 := Lib.hid (vian HN.out B1.out hb)
    have P2 := Lib.hid (P1.out.below hb)
    clear hb
    clear B1 P1
    refine hK.out _ _ ?s6 (fun hNew => ?r6)
    case s6 => exact P2.out.2.1
    clear hK K hHeld
    have hHeld := hNew
    clear hNew
    refine wpAnyH_take (i := 6) (oi := { dst := some 9, op := Go.Op.binOp Go.BinOp.or 5 (Go.Operand.tmp 6) (Go.Operand.tmp 8) 5, type := 5, pos := "joypad.go:22", after := #[{ on := 3, ground := Go.Ground.data }, { on := 5, ground := Go.Ground.data }], guard := none }) (v := ?v7) rfl (by kernel_rfl) (by kernel_rfl) (by kernel_rfl) (fun _ _ _ h => h) (Or.inl ⟨by rfl, ?y7⟩) (by assumption) ?z7
    case y7 => (intro w hSw; (try dsimp only at hSw); go_simp) <;> with_reducible rfl
    try simp only [Act.put, List.setIfInBounds_toArray, List.set_cons_zero, List.set_cons_succ]
    refine wpAnyH_take (i := 7) (oi := { dst := some 2, op := Go.Op.assign (Go.Operand.tmp 9), type := 5, pos := "joypad.go:22", after := #[{ on := 6, ground := Go.Ground.data }, { on := 5, ground := Go.Ground.chain }, { on := 0, ground := Go.Ground.phase }, { on := 1, ground := Go.Ground.phase }, { on := 2, ground := Go.Ground.phase }, { on := 3, ground := Go.Ground.phase }, { on := 4, ground := Go.Ground.phase }, { on := 5, ground := Go.Ground.phase }, { on := 6, ground := Go.Ground.phase }], guard := none }) (v := ?v8) rfl (by kernel_rfl) (by kernel_rfl) (by kernel_rfl) (fun _ _ _ h => h) (Or.inl ⟨by rfl, ?y8⟩) (by assumption) ?z8
    case y8 => (intro w hSw; (try dsimp only at hSw); go_simp) <;> with_reducible rfl
    try simp only [Act.put, List.setIfInBounds_toArray, List.set_cons_zero, List.set_cons_succ]
    refine wpAnyH_done (by kernel_rfl) ?_ _
    clear hHeld
    go_wp2
    exact bodyPost_ret (v := .int .u8 (rdV s d)) (by simp [results, Try.results13, go_sem]) rfl ⟨rfl, B2.out⟩
set_option maxHeartbeats 2000000 in
theorem press_c (s d : Int) (hs : 0 ≤ s) (hs2 : s < 256) (hd : 0 ≤ d) (hd2 : d < 256) (x : Int) (hx : 0 ≤ x) (hx2 : x < 256) (w : World) : Calls Try.prog 10 #[.agg #[.int .u8 s, .int .u8 d], .int .u8 x] w fun q_ w' => q_ = .returned (.tuple #[.agg #[.int .u8 s, .int .u8 x], .bool (flB s d s x)]) ∧ Below w.heap.size w w' := by
  suffices hall : ∀ (n_ : Nat) (W0 : World), n_ ≤ W0.heap.size → Below n_ W0 w → Calls Try.prog 10 #[.agg #[.int .u8 s, .int .u8 d], .int .u8 x] w fun q_ w' => q_ = .returned (.tuple #[.agg #[.int .u8 s, .int .u8 x], .bool (flB s d s x)]) ∧ Below n_ W0 w' from hall _ _ (Nat.le_refl _) (Below.refl _ _)
  intro n_ W0 hn hB
  have HN := Lib.hid hn
  have BB := Lib.hid hB
  clear hn hB
  have L1 := Lib.hid (fun W => lines_c s d hs hs2 hd hd2 W)
  have L2 := Lib.hid (fun W => lines_c s x hs hs2 hx hx2 W)
  have F1 := Lib.hid (fun W => falls_c _ _ _ (fall_eq s d s x) W)
  go_enter Try.func10, Try.ntmps10
  have Q_ := own2 w (.cells #[.int .u8 s, .int .u8 d] 26) (.cells #[.int .u8 0, .int .u8 0] 26)
  have B0 := Lib.hid (vian HN.out BB.out Q_)
  have P0 := Lib.hid (show Has ((w.alloc (.cells #[.int .u8 s, .int .u8 d] 26)).alloc (.cells #[.int .u8 0, .int .u8 0] 26)) w.heap.size #[.int .u8 s, .int .u8 d] by simpa using (Has.new w #[.int .u8 s, .int .u8 d] 26).alloc (.cells #[.int .u8 0, .int .u8 0] 26))
  have LP := Lib.hid (show n_ ≤ w.heap.size + 0 from Nat.le_add_right_of_le (Nat.le_trans HN.out BB.out.size))
  have R0 := Lib.hid (show Has ((w.alloc (.cells #[.int .u8 s, .int .u8 d] 26)).alloc (.cells #[.int .u8 0, .int .u8 0] 26)) (w.heap.size + 1) #[.int .u8 0, .int .u8 0] by simpa using Has.new (w.alloc (.cells #[.int .u8 s, .int .u8 d] 26)) #[.int .u8 0, .int .u8 0] 26)
  have LR := Lib.hid (show n_ ≤ (w.heap.size + 1) from Nat.le_add_right_of_le (Nat.le_trans HN.out BB.out.size))
  have NPR := Lib.hid (show w.heap.size + 0 ≠ w.heap.size + 1 by omega)
  simp only [Nat.add_zero] at LP NPR
  clear Q_
  go_upto_region 1 with (fail)
  generalize ((w.alloc (.cells #[.int .u8 s, .int .u8 d] 26)).alloc (.cells #[.int .u8 0, .int .u8 0] 26)) = u0 at B0 P0 R0 ⊢
  generalize w.heap.size + 1 = rb at R0 LR NPR ⊢
  generalize w.heap.size = pb at P0 LP NPR ⊢
  obtain ⟨hc, hf⟩ := P0.out.out
  go_wp2_with fail
  with_reducible refine (L1.out _).mono ?_
  rintro q_ u1 ⟨rfl, hb⟩
  clear hc hf
  have B1 := Lib.hid (vian HN.out B0.out hb)
  have P1 := Lib.hid (P0.out.below hb)
  have R1 := Lib.hid (R0.out.below hb)
  clear hb B0 P0 R0
  have P2 := Lib.hid (show Has (u1.setCell ⟨pb, 1, none⟩ (.int .u8 x)) pb #[.int .u8 s, .int .u8 x] by simpa using P1.out.set 1 (.int .u8 x) (by simp)).drew
  have R2 := Lib.hid (R1.out.far ⟨pb, 1, none⟩ (.int .u8 x) NPR.out).drew
  have B2 := Lib.hid (store1 B1.out LP.out 1 (.int .u8 x)).drew
  obtain ⟨hc, hf⟩ := P1.out.out
  go_upto_region 3 with (fail)
  clear hc hf P1 R1 B1
  refine wp_region_held_drew (S := (fun w' => ∀ o, w'.cell? ⟨pb, o, none⟩ = #[.int .u8 s, .int .u8 x][o]?)) (by kernel_rfl) P2.out.2.1 (fun hHeld => ?_)
  generalize World.drew (u1.setCell ⟨pb, 1, none⟩ (.int .u8 x)) = u2 at hHeld B2 P2 R2 ⊢
  refine wpAnyH_take (i := 0) (oi := { dst := some 11, op := Go.Op.load 26 (Go.Operand.tmp 2), type := 26, pos := "joypad.go:38", after := #[], guard := none }) (v := ?v9) rfl (by kernel_rfl) (by kernel_rfl) (by kernel_rfl) (fun _ _ _ h => h) (Or.inl ⟨by rfl, ?y9⟩) (by assumption) ?z9
  case y9 => (intro w hSw; (try dsimp only at hSw); go_simp) <;> with_reducible rfl
  try simp only [Act.put, List.setIfInBounds_toArray, List.set_cons_zero, List.set_cons_succ]
  refine wpAnyH_take (i := 1) (oi := { dst := some 12, op := Go.Op.move (Go.Operand.tmp 6), type := 5, pos := "joypad.go:38", after := #[], guard := none }) (v := ?v10) rfl (by kernel_rfl) (by kernel_rfl) (by kernel_rfl) (fun _ _ _ h => h) (Or.inl ⟨by rfl, ?y10⟩) (by assumption) ?z10
  case y10 => (intro w hSw; (try dsimp only at hSw); go_simp) <;> with_reducible rfl
  try simp only [Act.put, List.setIfInBounds_toArray, List.set_cons_zero, List.set_cons_succ]
  refine wpAnyH_take (i := 2) (oi := { dst := some 13, op := Go.Op.load 26 (Go.Operand.tmp 2), type := 26, pos := "joypad.go:38", after := #[], guard := none }) (v := ?v11) rfl (by kernel_rfl) (by kernel_rfl) (by kernel_rfl) (fun _ _ _ h => h) (Or.inl ⟨by rfl, ?y11⟩) (by assumption) ?z11
  case y11 => (intro w hSw; (try dsimp only at hSw); go_simp) <;> with_reducible rfl
  try simp only [Act.put, List.setIfInBounds_toArray, List.set_cons_zero, List.set_cons_succ]
  refine wpAnyH_ready (rs := [3]) (by kernel_rfl) (by simp) ?_
  refine (AllReadyH.cons (o := { dst := some 14, op := Go.Op.call { callee := Go.Callee.value (Go.Operand.func 18), args := #[Go.Operand.tmp 13], argTypes := #[26] }, type := 5, pos := "joypad.go:38", after := #[{ on := 2, ground := Go.Ground.data }], guard := none }) rfl (fun K hK => ?_) AllReadyH.nil)
  · skip
    go_simp
    with_reducible refine (L2.out _).mono ?_
    rintro q_ u3 ⟨rfl, hb⟩
    have B3 := Lib.hid (vian HN.out B2.out hb)
    have P3 := Lib.hid (P2.out.below hb)
    have R3 := Lib.hid (R2.out.below hb)
    clear hb
    clear B2 P2 R2
    refine hK.out _ _ ?s12 (fun hNew => ?r12)
    case s12 => exact P3.out.2.1
    clear hK K hHeld
    have hHeld := hNew
    clear hNew
    refine wpAnyH_ready (rs := [4]) (by kernel_rfl) (by simp) ?_
    refine (AllReadyH.cons (o := { dst := some 15, op := Go.Op.call { callee := Go.Callee.value (Go.Operand.func 19), args := #[Go.Operand.tmp 12, Go.Operand.tmp 14], argTypes := #[5, 5] }, type := 4, pos := "joypad.go:38", after := #[{ on := 1, ground := Go.Ground.data }, { on := 3, ground := Go.Ground.data }, { on := 3, ground := Go.Ground.chain }], guard := none }) rfl (fun K hK => ?_) AllReadyH.nil)
    · skip
      go_simp
      with_reducible refine (F1.out _).mono ?_
      rintro q_ u4 ⟨rfl, hb⟩
      subst hb
      have B4 := B3
      have P4 := P3
      have R4 := R3
      clear B3 P3 R3
      refine hK.out _ _ ?s13 (fun hNew => ?r13)
      case s13 => exact P4.out.2.1
      clear hK K hHeld
      have hHeld := hNew
      clear hNew
      refine wpAnyH_ready (rs := [5]) (by kernel_rfl) (by simp) ?_
      refine (AllReadyH.cons (o := { dst := none, op := Go.Op.store 26 (Go.Operand.tmp 4) (Go.Operand.tmp 11), type := 0, pos := "joypad.go:38", after := #[{ on := 0, ground := Go.Ground.data }, { on := 4, ground := Go.Ground.chain }, { on := 0, ground := Go.Ground.phase }, { on := 1, ground := Go.Ground.textOnly Go.Departure.lateStores }, { on := 2, ground := Go.Ground.textOnly Go.Departure.lateStores }, { on := 3, ground := Go.Ground.textOnly Go.Departure.lateStoresUnsure }, { on := 4, ground := Go.Ground.textOnly Go.Departure.lateStoresUnsure }], guard := none }) rfl (fun K hK => ?_) AllReadyH.nil)
      · skip
        obtain ⟨hc, hfz⟩ := R4.out.out
        go_simp
        clear hc hfz
        have R5 := Lib.hid (R4.out.put2 (.int .u8 s) (.int .u8 x))
        have P5 := Lib.hid (P4.out.far2 NPR.out (.int .u8 s) (.int .u8 x))
        have B5 := Lib.hid (set2 B4.out rb LR.out (.int .u8 s) (.int .u8 x))
        clear B4 P4 R4
        refine hK.out _ _ ?s14 (fun hNew => ?r14)
        case s14 => exact P5.out.2.1
        clear hK K hHeld
        have hHeld := hNew
        clear hNew
        generalize (World.setCell (World.setCell _ ⟨rb, 0, none⟩ _) ⟨rb, 1, none⟩ _) = u5 at hHeld B5 P5 R5 ⊢
        refine wpAnyH_take (i := 6) (oi := { dst := some 5, op := Go.Op.assign (Go.Operand.tmp 15), type := 4, pos := "joypad.go:38", after := #[{ on := 4, ground := Go.Ground.data }, { on := 5, ground := Go.Ground.chain }, { on := 0, ground := Go.Ground.phase }, { on := 1, ground := Go.Ground.phase }, { on := 2, ground := Go.Ground.phase }, { on := 3, ground := Go.Ground.phase }, { on := 4, ground := Go.Ground.phase }, { on := 5, ground := Go.Ground.phase }], guard := none }) (v := ?v15) rfl (by kernel_rfl) (by kernel_rfl) (by kernel_rfl) (fun _ _ _ h => h) (Or.inl ⟨by rfl, ?y15⟩) (by assumption) ?z15
        case y15 => (intro w hSw; (try dsimp only at hSw); go_simp) <;> with_reducible rfl
        try simp only [Act.put, List.setIfInBounds_toArray, List.set_cons_zero, List.set_cons_succ]
        refine wpAnyH_done (by kernel_rfl) ?_ _
        clear hHeld
        obtain ⟨hc, hf⟩ := R5.out.out
        go_wp2
        refine bodyPost_ret (v := .tuple #[.agg #[.int .u8 s, .int .u8 x], .bool (flB s d s x)]) ?_ rfl ⟨rfl, B5.out⟩
        simp [results, Try.results10, go_sem, hc]
set_option maxHeartbeats 2000000 in
theorem write_c (s d : Int) (hs : 0 ≤ s) (hs2 : s < 256) (hd : 0 ≤ d) (hd2 : d < 256) (x : Int) (hx : 0 ≤ x) (hx2 : x < 256) (w : World) : Calls Try.prog 11 #[.agg #[.int .u8 s, .int .u8 d], .int .u8 x] w fun q_ w' => q_ = .returned (.tuple #[.agg #[.int .u8 (selV x), .int .u8 d], .bool (flB s d x d)]) ∧ Below w.heap.size w w' := by
  suffices hall : ∀ (n_ : Nat) (W0 : World), n_ ≤ W0.heap.size → Below n_ W0 w → Calls Try.prog 11 #[.agg #[.int .u8 s, .int .u8 d], .int .u8 x] w fun q_ w' => q_ = .returned (.tuple #[.agg #[.int .u8 (selV x), .int .u8 d], .bool (flB s d x d)]) ∧ Below n_ W0 w' from hall _ _ (Nat.le_refl _) (Below.refl _ _)
  intro n_ W0 hn hB
  have HN := Lib.hid hn
  have BB := Lib.hid hB
  clear hn hB
  have sb := sel_bd x
  have e1 := and48 x hx hx2
  have L1 := Lib.hid (fun W => lines_c s d hs hs2 hd hd2 W)
  have L2 := Lib.hid (fun W => lines_c (selV x) d sb.1 (by omega) hd hd2 W)
  have F1 := Lib.hid (fun W => falls_c _ _ _ ((fall_eq s d (selV x) d).trans (fl_selV s d x d)) W)
  go_enter Try.func11, Try.ntmps11
  have Q_ := own2 w (.cells #[.int .u8 s, .int .u8 d] 26) (.cells #[.int .u8 0, .int .u8 0] 26)
  have B0 := Lib.hid (vian HN.out BB.out Q_)
  have P0 := Lib.hid (show Has ((w.alloc (.cells #[.int .u8 s, .int .u8 d] 26)).alloc (.cells #[.int .u8 0, .int .u8 0] 26)) w.heap.size #[.int .u8 s, .int .u8 d] by simpa using (Has.new w #[.int .u8 s, .int .u8 d] 26).alloc (.cells #[.int .u8 0, .int .u8 0] 26))
  have LP := Lib.hid (show n_ ≤ w.heap.size + 0 from Nat.le_add_right_of_le (Nat.le_trans HN.out BB.out.size))
  have R0 := Lib.hid (show Has ((w.alloc (.cells #[.int .u8 s, .int .u8 d] 26)).alloc (.cells #[.int .u8 0, .int .u8 0] 26)) (w.heap.size + 1) #[.int .u8 0, .int .u8 0] by simpa using Has.new (w.alloc (.cells #[.int .u8 s, .int .u8 d] 26)) #[.int .u8 0, .int .u8 0] 26)
  have LR := Lib.hid (show n_ ≤ (w.heap.size + 1) from Nat.le_add_right_of_le (Nat.le_trans HN.out BB.out.size))
  have NPR := Lib.hid (show w.heap.size + 0 ≠ w.heap.size + 1 by omega)
  simp only [Nat.add_zero] at LP NPR
  clear Q_
  go_upto_region 1 with (fail)
  generalize ((w.alloc (.cells #[.int .u8 s, .int .u8 d] 26)).alloc (.cells #[.int .u8 0, .int .u8 0] 26)) = u0 at B0 P0 R0 ⊢
  generalize w.heap.size + 1 = rb at R0 LR NPR ⊢
  generalize w.heap.size = pb at P0 LP NPR ⊢
  obtain ⟨hc, hf⟩ := P0.out.out
  go_wp2_with fail
  with_reducible refine (L1.out _).mono ?_
  rintro q_ u1 ⟨rfl, hb⟩
  clear hc hf
  have B1 := Lib.hid (vian HN.out B0.out hb)
  have P1 := Lib.hid (P0.out.below hb)
  have R1 := Lib.hid (R0.out.below hb)
  clear hb B0 P0 R0
  have P2 := Lib.hid (show Has (u1.setCell ⟨pb, 0, none⟩ (.int .u8 (selV x))) pb #[.int .u8 (selV x), .int .u8 d] by simpa using P1.out.set 0 (.int .u8 (selV x)) (by simp)).drew
  have R2 := Lib.hid (R1.out.far ⟨pb, 0, none⟩ (.int .u8 (selV x)) NPR.out).drew
  have B2 := Lib.hid (store1 B1.out LP.out 0 (.int .u8 (selV x))).drew
  obtain ⟨hc, hf⟩ := P1.out.out
  go_upto_region 3 with (fail)
  clear hc hf P1 R1 B1
  refine wp_region_held_drew (S := (fun w' => ∀ o, w'.cell? ⟨pb, o, none⟩ = #[.int .u8 (selV x), .int .u8 d][o]?)) (by kernel_rfl) P2.out.2.1 (fun hHeld => ?_)
  generalize World.drew (u1.setCell ⟨pb, 0, none⟩ (.int .u8 (selV x))) = u2 at hHeld B2 P2 R2 ⊢
  refine wpAnyH_take (i := 0) (oi := { dst := some 12, op := Go.Op.load 26 (Go.Operand.tmp 2), type := 26, pos := "joypad.go:30", after := #[], guard := none }) (v := ?v16) rfl (by kernel_rfl) (by kernel_rfl) (by kernel_rfl) (fun _ _ _ h => h) (Or.inl ⟨by rfl, ?y16⟩) (by assumption) ?z16
  case y16 => (intro w hSw; (try dsimp only at hSw); go_simp) <;> with_reducible rfl
  try simp only [Act.put, List.setIfInBounds_toArray, List.set_cons_zero, List.set_cons_succ]
  refine wpAnyH_take (i := 1) (oi := { dst := some 13, op := Go.Op.move (Go.Operand.tmp 6), type := 5, pos := "joypad.go:30", after := #[], guard := none }) (v := ?v17) rfl (by kernel_rfl) (by kernel_rfl) (by kernel_rfl) (fun _ _ _ h => h) (Or.inl ⟨by rfl, ?y17⟩) (by assumption) ?z17
  case y17 => (intro w hSw; (try dsimp only at hSw); go_simp) <;> with_reducible rfl
  try simp only [Act.put, List.setIfInBounds_toArray, List.set_cons_zero, List.set_cons_succ]
  refine wpAnyH_take (i := 2) (oi := { dst := some 14, op := Go.Op.load 26 (Go.Operand.tmp 2), type := 26, pos := "joypad.go:30", after := #[], guard := none }) (v := ?v18) rfl (by kernel_rfl) (by kernel_rfl) (by kernel_rfl) (fun _ _ _ h => h) (Or.inl ⟨by rfl, ?y18⟩) (by assumption) ?z18
  case y18 => (intro w hSw; (try dsimp only at hSw); go_simp) <;> with_reducible rfl
  try simp only [Act.put, List.setIfInBounds_toArray, List.set_cons_zero, List.set_cons_succ]
  refine wpAnyH_ready (rs := [3]) (by kernel_rfl) (by simp) ?_
  refine (AllReadyH.cons (o := { dst := some 15, op := Go.Op.call { callee := Go.Callee.value (Go.Operand.func 18), args := #[Go.Operand.tmp 14], argTypes := #[26] }, type := 5, pos := "joypad.go:30", after := #[{ on := 2, ground := Go.Ground.data }], guard := none }) rfl (fun K hK => ?_) AllReadyH.nil)
  · skip
    go_simp
    with_reducible refine (L2.out _).mono ?_
    rintro q_ u3 ⟨rfl, hb⟩
    have B3 := Lib.hid (vian HN.out B2.out hb)
    have P3 := Lib.hid (P2.out.below hb)
    have R3 := Lib.hid (R2.out.below hb)
    clear hb
    clear B2 P2 R2
    refine hK.out _ _ ?s19 (fun hNew => ?r19)
    case s19 => exact P3.out.2.1
    clear hK K hHeld
    have hHeld := hNew
    clear hNew
    refine wpAnyH_ready (rs := [4]) (by kernel_rfl) (by simp) ?_
    refine (AllReadyH.cons (o := { dst := some 16, op := Go.Op.call { callee := Go.Callee.value (Go.Operand.func 19), args := #[Go.Operand.tmp 13, Go.Operand.tmp 15], argTypes := #[5, 5] }, type := 4, pos := "joypad.go:30", after := #[{ on := 1, ground := Go.Ground.data }, { on := 3, ground := Go.Ground.data }, { on := 3, ground := Go.Ground.chain }], guard := none }) rfl (fun K hK => ?_) AllReadyH.nil)
    · skip
      go_simp
      with_reducible refine (F1.out _).mono ?_
      rintro q_ u4 ⟨rfl, hb⟩
      subst hb
      have B4 := B3
      have P4 := P3
      have R4 := R3
      clear B3 P3 R3
      refine hK.out _ _ ?s20 (fun hNew => ?r20)
      case s20 => exact P4.out.2.1
      clear hK K hHeld
      have hHeld := hNew
      clear hNew
      refine wpAnyH_ready (rs := [5]) (by kernel_rfl) (by simp) ?_
      refine (AllReadyH.cons (o := { dst := none, op := Go.Op.store 26 (Go.Operand.tmp 4) (Go.Operand.tmp 12), type := 0, pos := "joypad.go:30", after := #[{ on := 0, ground := Go.Ground.data }, { on := 4, ground := Go.Ground.chain }, { on := 0, ground := Go.Ground.phase }, { on := 1, ground := Go.Ground.textOnly Go.Departure.lateStores }, { on := 2, ground := Go.Ground.textOnly Go.Departure.lateStores }, { on := 3, ground := Go.Ground.textOnly Go.Departure.lateStoresUnsure }, { on := 4, ground := Go.Ground.textOnly Go.Departure.lateStoresUnsure }], guard := none }) rfl (fun K hK => ?_) AllReadyH.nil)
      · skip
        obtain ⟨hc, hfz⟩ := R4.out.out
        go_simp
        clear hc hfz
        have R5 := Lib.hid (R4.out.put2 (.int .u8 (selV x)) (.int .u8 d))
        have P5 := Lib.hid (P4.out.far2 NPR.out (.int .u8 (selV x)) (.int .u8 d))
        have B5 := Lib.hid (set2 B4.out rb LR.out (.int .u8 (selV x)) (.int .u8 d))
        clear B4 P4 R4
        refine hK.out _ _ ?s21 (fun hNew => ?r21)
        case s21 => exact P5.out.2.1
        clear hK K hHeld
        have hHeld := hNew
        clear hNew
        generalize (World.setCell (World.setCell _ ⟨rb, 0, none⟩ _) ⟨rb, 1, none⟩ _) = u5 at hHeld B5 P5 R5 ⊢
        refine wpAnyH_take (i := 6) (oi := { dst := some 5, op := Go.Op.assign (Go.Operand.tmp 16), type := 4, pos := "joypad.go:30", after := #[{ on := 4, ground := Go.Ground.data }, { on := 5, ground := Go.Ground.chain }, { on := 0, ground := Go.Ground.phase }, { on := 1, ground := Go.Ground.phase }, { on := 2, ground := Go.Ground.phase }, { on := 3, ground := Go.Ground.phase }, { on := 4, ground := Go.Ground.phase }, { on := 5, ground := Go.Ground.phase }], guard := none }) (v := ?v22) rfl (by kernel_rfl) (by kernel_rfl) (by kernel_rfl) (fun _ _ _ h => h) (Or.inl ⟨by rfl, ?y22⟩) (by assumption) ?z22
        case y22 => (intro w hSw; (try dsimp only at hSw); go_simp) <;> with_reducible rfl
        try simp only [Act.put, List.setIfInBounds_toArray, List.set_cons_zero, List.set_cons_succ]
        refine wpAnyH_done (by kernel_rfl) ?_ _
        clear hHeld
        obtain ⟨hc, hf⟩ := R5.out.out
        go_wp2
        refine bodyPost_ret (v := .tuple #[.agg #[.int .u8 (selV x), .int .u8 d], .bool (flB s d x d)]) ?_ rfl ⟨rfl, B5.out⟩
        simp [results, Try.results11, go_sem, hc]
end Go.Proofs.Ytbpfeppgonhclaa
