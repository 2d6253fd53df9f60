/-
  The walk through JoypadFalls: for every joypad and bytes; no condition but that each number is a byte.
-/
import Derived.Test.YtbpfeppgonhclaaAwk
import Derived.Deep.Cut
import Derived.Laws.StructEq
namespace Go.Proofs.Ytbpfeppgonhclaa
open Go.ChangeShapes Go.WideShapes Go.ChangeAt Go.RowKit
set_option linter.unusedVariables false
set_option linter.unusedSimpArgs false
set_option maxRecDepth 100000
set_option maxHeartbeats 2000000 in
theorem falls_walk (s d x y : Int) (hs : 0 ≤ s) (hs2 : s < 256) (hd : 0 ≤ d) (hd2 : d < 256) (hx : 0 ≤ x) (hx2 : x < 256) (hy : 0 ≤ y) (hy2 : y < 256) (w : World) : Calls Try.prog 5 #[.agg #[.int .u8 s, .int .u8 d], .int .u8 x, .int .u8 y] w fun q_ w' => q_ = .returned (.bool true) ∧ Below w.heap.size w w' := by
  suffices hall : ∀ (n_ : Nat) (W0 : World), n_ ≤ W0.heap.size → Below n_ W0 w → Calls Try.prog 5 #[.agg #[.int .u8 s, .int .u8 d], .int .u8 x, .int .u8 y] w fun q_ w' => q_ = .returned (.bool true) ∧ Below n_ W0 w' from hall _ _ (Nat.le_refl _) (Below.refl _ _)
  intro n_ W0 hn hB
  have HN := Lib.hid hn
  have BB := Lib.hid hB
  clear hn hB
  have AW := Lib.hid awake_c
  have hnot : ∀ (x : Bool) (w : World), (Op.unary .not (.bool x)).run Try.prog w = .ok (.bool (!x)) w := fun _ _ => rfl
  have sb := sel_bd y
  have ab := and_bd d x hd hd2 hx hx2
  have K1 := Lib.hid (fun W => press_c s d hs hs2 hd hd2 x hx hx2 W)
  have K2 := Lib.hid (fun W => write_c s d hs hs2 hd hd2 y hy hy2 W)
  have K3 := Lib.hid (fun W => press_c s d hs hs2 hd hd2 _ ab.1 ab.2 W)
  have K4 := Lib.hid (fun W => read_c s d hs hs2 hd hd2 W)
  have K5 := Lib.hid (fun W => read_c s x hs hs2 hx hx2 W)
  have K6 := Lib.hid (fun W => read_c (selV y) d sb.1 (by omega) hd hd2 W)
  have e1 := fall_rd s d s x
  have e2 := (fall_rd s d (selV y) d).trans (fl_selV s d y d)
  rw [fl_and s d x hd hd2 hx hx2] at K3
  obtain ⟨k, hk⟩ : ∃ k, selV y = k := ⟨_, rfl⟩
  obtain ⟨g1, hg1⟩ : ∃ g, flB s d s x = g := ⟨_, rfl⟩
  obtain ⟨g2, hg2⟩ : ∃ g, flB s d y d = g := ⟨_, rfl⟩
  obtain ⟨z, hz⟩ : ∃ z, bits .and .u8 d x = z := ⟨_, rfl⟩
  rw [hg1] at K1 e1
  rw [hg2] at K2 e2
  rw [hk] at K2 K6 e2
  obtain ⟨r1, hr1⟩ : ∃ r, rdV s d = r := ⟨_, rfl⟩
  obtain ⟨r2, hr2⟩ : ∃ r, rdV s x = r := ⟨_, rfl⟩
  obtain ⟨r3, hr3⟩ : ∃ r, rdV k d = r := ⟨_, rfl⟩
  rw [hr1] at K4 e1 e2
  rw [hr2] at K5 e1
  rw [hr3] at K6 e2
  rw [hz] at K3
  clear sb ab hk hg1 hg2 hr1 hr2 hr3
  go_enter Try.func5, Try.ntmps5
  have Q_ := own1 w (.cells #[.int .u8 s, .int .u8 d] 23)
  have B0 := Lib.hid (vian HN.out BB.out Q_)
  have V0 := Lib.hid (show Has (w.alloc (.cells #[.int .u8 s, .int .u8 d] 23)) w.heap.size #[.int .u8 s, .int .u8 d] by simpa using Has.new w #[.int .u8 s, .int .u8 d] 23)
  have LV := Lib.hid (show n_ ≤ w.heap.size + 0 from Nat.le_add_right_of_le (Nat.le_trans HN.out BB.out.size))
  simp only [Nat.add_zero] at LV
  clear Q_
  go_upto_region 1 with (fail)
  generalize (w.alloc (.cells #[.int .u8 s, .int .u8 d] 23)) = w0 at B0 V0 ⊢
  generalize w.heap.size = vb at V0 LV  ⊢
  go_wp2_with fail
  with_reducible refine (AW.out _).mono ?_
  rintro q_ w1 ⟨rfl, hb⟩
  have B1 := Lib.hid (vian HN.out B0.out hb)
  have V1 := Lib.hid (V0.out.below hb)
  clear hb B0 V0
  obtain ⟨hcV1, hfV1⟩ := V1.out.out
  have Q_ := own1 w1 (.cells #[.int .u8 s, .int .u8 d] 26)
  have B2 := Lib.hid (vian HN.out B1.out Q_)
  have V2 := Lib.hid (V1.out.below Q_)
  have P2 := Lib.hid (Has.new w1 #[.int .u8 s, .int .u8 d] 26)
  have LP := Lib.hid (show n_ ≤ w1.heap.size from Nat.le_trans HN.out B1.out.size)
  clear Q_
  go_upto_region 4 with (fail)
  generalize w1.alloc (.cells #[.int .u8 s, .int .u8 d] 26) = w2 at B2 V2 P2 ⊢
  generalize w1.heap.size = pb at P2 LP ⊢
  clear B1 V1
  clear hcV1 hfV1
  obtain ⟨hc0, hf0⟩ := P2.out.out
  go_wp2_with fail
  with_reducible refine (K1.out _).mono ?_
  rintro q_ w3 ⟨rfl, hb⟩
  clear hc0 hf0
  have B3 := Lib.hid (vian HN.out B2.out hb)
  have P3 := Lib.hid (P2.out.below hb)
  have V3 := Lib.hid (V2.out.below hb)
  clear hb B2 P2 V2
  have Q_ := own1 w3 (.cells #[.int .u8 s, .int .u8 x] 26)
  have B4 := Lib.hid (vian HN.out B3.out Q_)
  have P4 := Lib.hid (P3.out.below Q_)
  have V4 := Lib.hid (V3.out.below Q_)
  have A4 := Lib.hid (Has.new w3 #[.int .u8 s, .int .u8 x] 26)
  have LA := Lib.hid (show n_ ≤ w3.heap.size from Nat.le_trans HN.out B3.out.size)
  clear Q_
  go_upto_region 5 with (fail)
  generalize w3.alloc (.cells #[.int .u8 s, .int .u8 x] 26) = w4 at B4 P4 V4 A4 ⊢
  generalize w3.heap.size = ab at A4 LA ⊢
  clear B3 P3 V3
  obtain ⟨hc0, hf0⟩ := P4.out.out
  go_wp2_with fail
  with_reducible refine (K2.out _).mono ?_
  rintro q_ w5 ⟨rfl, hb⟩
  clear hc0 hf0
  have B5 := Lib.hid (vian HN.out B4.out hb)
  have P5 := Lib.hid (P4.out.below hb)
  have V5 := Lib.hid (V4.out.below hb)
  have A5 := Lib.hid (A4.out.below hb)
  clear hb B4 P4 V4 A4
  have Q_ := own1 w5 (.cells #[.int .u8 k, .int .u8 d] 26)
  have B6 := Lib.hid (vian HN.out B5.out Q_)
  have P6 := Lib.hid (P5.out.below Q_)
  have V6 := Lib.hid (V5.out.below Q_)
  have A6 := Lib.hid (A5.out.below Q_)
  have Z6 := Lib.hid (Has.new w5 #[.int .u8 k, .int .u8 d] 26)
  have LZ := Lib.hid (show n_ ≤ w5.heap.size from Nat.le_trans HN.out B5.out.size)
  clear Q_
  go_upto_region 6 with (fail)
  generalize w5.alloc (.cells #[.int .u8 k, .int .u8 d] 26) = w6 at B6 P6 V6 A6 Z6 ⊢
  generalize w5.heap.size = zb at Z6 LZ ⊢
  clear B5 P5 V5 A5
  obtain ⟨hc0, hf0⟩ := P6.out.out
  obtain ⟨hc1, hf1⟩ := V6.out.out
  go_wp2_with fail
  with_reducible refine (K3.out _).mono ?_
  rintro q_ w7 ⟨rfl, hb⟩
  clear hc0 hf0 hc1 hf1
  have B7 := Lib.hid (vian HN.out B6.out hb)
  have P7 := Lib.hid (P6.out.below hb)
  have A7 := Lib.hid (A6.out.below hb)
  have Z7 := Lib.hid (Z6.out.below hb)
  clear hb B6 P6 A6 Z6
  have Q_ := own1 w7 (.cells #[.int .u8 s, .int .u8 z] 26)
  have B8 := Lib.hid (vian HN.out B7.out Q_)
  have P8 := Lib.hid (P7.out.below Q_)
  have A8 := Lib.hid (A7.out.below Q_)
  have Z8 := Lib.hid (Z7.out.below Q_)
  have D8 := Lib.hid (Has.new w7 #[.int .u8 s, .int .u8 z] 26)
  have LD := Lib.hid (show n_ ≤ w7.heap.size from Nat.le_trans HN.out B7.out.size)
  clear Q_
  go_upto_region 7 with (fail)
  generalize w7.alloc (.cells #[.int .u8 s, .int .u8 z] 26) = w8 at B8 P8 A8 Z8 D8 ⊢
  generalize w7.heap.size = cb at D8 LD ⊢
  clear B7 P7 A7 Z7
  have B9 := Lib.hid B8.out.drew
  have P9 := Lib.hid P8.out.drew
  have A9 := Lib.hid A8.out.drew
  have Z9 := Lib.hid Z8.out.drew
  clear B8 P8 A8 Z8 D8 hz
  refine wp_region_held_drew (S := (fun w' => (∀ o, w'.cell? ⟨pb, o, none⟩ = #[.int .u8 s, .int .u8 d][o]?) ∧ (∀ o, w'.cell? ⟨ab, o, none⟩ = #[.int .u8 s, .int .u8 x][o]?) ∧ (∀ o, w'.cell? ⟨zb, o, none⟩ = #[.int .u8 k, .int .u8 d][o]?))) (by kernel_rfl) ⟨P9.out.2.1, A9.out.2.1, Z9.out.2.1⟩ (fun hHeld => ?_)
  generalize World.drew w8 = u9 at hHeld B9 P9 A9 Z9 ⊢
  refine wpAnyH_take (i := 0) (oi := { dst := some 38, op := Go.Op.move (Go.Operand.tmp 9), type := 4, pos := "law.go:57", after := #[], guard := none }) (v := ?v1) rfl (by kernel_rfl) (by kernel_rfl) (by kernel_rfl) (fun _ _ _ h => h) (Or.inl ⟨by rfl, ?y1⟩) (by assumption) ?z1
  case y1 => (intro w hSw; (try dsimp only at hSw); go_simp) <;> with_reducible rfl
  try simp only [Act.put, List.setIfInBounds_toArray, List.set_cons_zero, List.set_cons_succ]
  refine wpAnyH_take (i := 1) (oi := { dst := some 39, op := Go.Op.load 26 (Go.Operand.tmp 7), type := 26, pos := "law.go:57", after := #[], guard := none }) (v := ?v2) rfl (by kernel_rfl) (by kernel_rfl) (by kernel_rfl) (fun _ _ _ h => h) (Or.inl ⟨by rfl, ?y2⟩) (by assumption) ?z2
  case y2 => (intro w hSw; (try dsimp only at hSw); go_simp) <;> with_reducible rfl
  try simp only [Act.put, List.setIfInBounds_toArray, List.set_cons_zero, List.set_cons_succ]
  refine wpAnyH_take (i := 3) (oi := { dst := some 41, op := Go.Op.load 26 (Go.Operand.tmp 8), type := 26, pos := "law.go:57", after := #[], guard := none }) (v := ?v3) rfl (by kernel_rfl) (by kernel_rfl) (by kernel_rfl) (fun _ _ _ h => h) (Or.inl ⟨by rfl, ?y3⟩) (by assumption) ?z3
  case y3 => (intro w hSw; (try dsimp only at hSw); go_simp) <;> with_reducible rfl
  try simp only [Act.put, List.setIfInBounds_toArray, List.set_cons_zero, List.set_cons_succ]
  refine wpAnyH_ready (rs := [2]) (by kernel_rfl) (by simp) ?_
  refine (AllReadyH.cons (o := { dst := some 40, op := Go.Op.call { callee := Go.Callee.value (Go.Operand.func 13), args := #[Go.Operand.tmp 39], argTypes := #[26] }, type := 5, pos := "law.go:57", after := #[{ on := 1, ground := Go.Ground.data }], guard := none }) rfl (fun K hK => ?_) AllReadyH.nil)
  · skip
    go_simp
    with_reducible refine (K4.out _).mono ?_
    rintro q_ u10 ⟨rfl, hb⟩
    have B10 := Lib.hid (vian HN.out B9.out hb)
    have P10 := Lib.hid (P9.out.below hb)
    have A10 := Lib.hid (A9.out.below hb)
    have Z10 := Lib.hid (Z9.out.below hb)
    clear hb
    clear B9 P9 A9 Z9
    refine hK.out _ _ ?s4 (fun hNew => ?r4)
    case s4 => exact ⟨P10.out.2.1, A10.out.2.1, Z10.out.2.1⟩
    clear hK K hHeld
    have hHeld := hNew
    clear hNew
    refine wpAnyH_ready (rs := [4]) (by kernel_rfl) (by simp) ?_
    refine (AllReadyH.cons (o := { dst := some 42, op := Go.Op.call { callee := Go.Callee.value (Go.Operand.func 13), args := #[Go.Operand.tmp 41], argTypes := #[26] }, type := 5, pos := "law.go:57", after := #[{ on := 3, ground := Go.Ground.data }, { on := 2, ground := Go.Ground.chain }], guard := none }) rfl (fun K hK => ?_) AllReadyH.nil)
    · skip
      go_simp
      with_reducible refine (K5.out _).mono ?_
      rintro q_ u11 ⟨rfl, hb⟩
      have B11 := Lib.hid (vian HN.out B10.out hb)
      have P11 := Lib.hid (P10.out.below hb)
      have A11 := Lib.hid (A10.out.below hb)
      have Z11 := Lib.hid (Z10.out.below hb)
      clear hb
      clear B10 P10 A10 Z10
      refine hK.out _ _ ?s5 (fun hNew => ?r5)
      case s5 => exact ⟨P11.out.2.1, A11.out.2.1, Z11.out.2.1⟩
      clear hK K hHeld
      have hHeld := hNew
      clear hNew
      refine wpAnyH_take (i := 5) (oi := { dst := some 43, op := Go.Op.binOp Go.BinOp.andNot 5 (Go.Operand.tmp 40) (Go.Operand.tmp 42) 5, type := 5, pos := "law.go:57", after := #[{ on := 2, ground := Go.Ground.data }, { on := 4, ground := Go.Ground.data }], guard := none }) (v := ?v6) rfl (by kernel_rfl) (by kernel_rfl) (by kernel_rfl) (fun _ _ _ h => h) (Or.inl ⟨by rfl, ?y6⟩) (by assumption) ?z6
      case y6 => (intro w hSw; (try dsimp only at hSw); go_simp) <;> with_reducible rfl
      try simp only [Act.put, List.setIfInBounds_toArray, List.set_cons_zero, List.set_cons_succ]
      refine wpAnyH_take (i := 6) (oi := { dst := some 44, op := Go.Op.binOp Go.BinOp.and 5 (Go.Operand.tmp 43) (Go.Operand.const (Go.Value.int Go.IntKind.u8 15)) 5, type := 5, pos := "law.go:57", after := #[{ on := 5, ground := Go.Ground.data }], guard := none }) (v := ?v7) rfl (by kernel_rfl) (by kernel_rfl) (by kernel_rfl) (fun _ _ _ h => h) (Or.inl ⟨by rfl, ?y7⟩) (by assumption) ?z7
      case y7 => (intro w hSw; (try dsimp only at hSw); go_simp) <;> with_reducible rfl
      try simp only [Act.put, List.setIfInBounds_toArray, List.set_cons_zero, List.set_cons_succ]
      refine wpAnyH_take (i := 7) (oi := { dst := some 45, op := Go.Op.binOp Go.BinOp.neq 5 (Go.Operand.tmp 44) (Go.Operand.const (Go.Value.int Go.IntKind.u8 0)) 5, type := 4, pos := "law.go:57", after := #[{ on := 6, ground := Go.Ground.data }], guard := none }) (v := ?v8) rfl (by kernel_rfl) (by kernel_rfl) (by kernel_rfl) (fun _ _ _ h => h) (Or.inl ⟨by rfl, ?y8⟩) (by assumption) ?z8
      case y8 => (intro w hSw; (try dsimp only at hSw); go_simp) <;> with_reducible rfl
      try simp only [Act.put, List.setIfInBounds_toArray, List.set_cons_zero, List.set_cons_succ]
      refine wpAnyH_take (i := 8) (oi := { dst := some 46, op := Go.Op.binOp Go.BinOp.eql 4 (Go.Operand.tmp 38) (Go.Operand.tmp 45) 4, type := 4, pos := "law.go:57", after := #[{ on := 0, ground := Go.Ground.data }, { on := 7, ground := Go.Ground.data }], guard := none }) (v := ?v9) rfl (by kernel_rfl) (by kernel_rfl) (by kernel_rfl) (fun _ _ _ h => h) (Or.inl ⟨by rfl, ?y9⟩) (by assumption) ?z9
      case y9 => (intro w hSw; (try dsimp only at hSw); go_simp) <;> with_reducible rfl
      try simp only [Act.put, List.setIfInBounds_toArray, List.set_cons_zero, List.set_cons_succ]
      refine wpAnyH_take (i := 9) (oi := { dst := some 47, op := Go.Op.move (Go.Operand.tmp 46), type := 4, pos := "law.go:57", after := #[{ on := 8, ground := Go.Ground.data }, { on := 4, ground := Go.Ground.chain }], guard := none }) (v := ?v10) rfl (by kernel_rfl) (by kernel_rfl) (by kernel_rfl) (fun _ _ _ h => h) (Or.inl ⟨by rfl, ?y10⟩) (by assumption) ?z10
      case y10 => (intro w hSw; (try dsimp only at hSw); go_simp) <;> with_reducible rfl
      try simp only [Act.put, List.setIfInBounds_toArray, List.set_cons_zero, List.set_cons_succ]
      refine wpAnyH_take (i := 10) (oi := { dst := some 48, op := Go.Op.move (Go.Operand.tmp 11), type := 4, pos := "law.go:57", after := #[{ on := 9, ground := Go.Ground.guard }], guard := some (9, true) }) (v := ?v11) rfl (by kernel_rfl) (by kernel_rfl) (by kernel_rfl) (fun _ _ _ h => h) (Or.inl ⟨by rfl, ?y11⟩) (by assumption) ?z11
      case y11 => (intro w hSw; (try dsimp only at hSw); go_simp) <;> with_reducible rfl
      try simp only [Act.put, List.setIfInBounds_toArray, List.set_cons_zero, List.set_cons_succ]
      refine wpAnyH_take (i := 11) (oi := { dst := some 49, op := Go.Op.load 26 (Go.Operand.tmp 7), type := 26, pos := "law.go:57", after := #[{ on := 9, ground := Go.Ground.guard }], guard := some (9, true) }) (v := ?v12) rfl (by kernel_rfl) (by kernel_rfl) (by kernel_rfl) (fun _ _ _ h => h) (Or.inl ⟨by rfl, ?y12⟩) (by assumption) ?z12
      case y12 => (intro w hSw; (try dsimp only at hSw); go_simp) <;> with_reducible rfl
      try simp only [Act.put, List.setIfInBounds_toArray, List.set_cons_zero, List.set_cons_succ]
      refine wpAnyH_take (i := 13) (oi := { dst := some 51, op := Go.Op.load 26 (Go.Operand.tmp 10), type := 26, pos := "law.go:57", after := #[{ on := 9, ground := Go.Ground.guard }], guard := some (9, true) }) (v := ?v13) rfl (by kernel_rfl) (by kernel_rfl) (by kernel_rfl) (fun _ _ _ h => h) (Or.inl ⟨by rfl, ?y13⟩) (by assumption) ?z13
      case y13 => (intro w hSw; (try dsimp only at hSw); go_simp) <;> with_reducible rfl
      try simp only [Act.put, List.setIfInBounds_toArray, List.set_cons_zero, List.set_cons_succ]
      refine wpAnyH_ready (rs := [12]) (by kernel_rfl) (by simp) ?_
      refine (AllReadyH.cons (o := { dst := some 50, op := Go.Op.call { callee := Go.Callee.value (Go.Operand.func 13), args := #[Go.Operand.tmp 49], argTypes := #[26] }, type := 5, pos := "law.go:57", after := #[{ on := 11, ground := Go.Ground.data }, { on := 9, ground := Go.Ground.chain }, { on := 9, ground := Go.Ground.guard }], guard := some (9, true) }) rfl (fun K hK => ?_) AllReadyH.nil)
      · skip
        go_simp
        with_reducible refine (K4.out _).mono ?_
        rintro q_ u12 ⟨rfl, hb⟩
        have B12 := Lib.hid (vian HN.out B11.out hb)
        have P12 := Lib.hid (P11.out.below hb)
        have A12 := Lib.hid (A11.out.below hb)
        have Z12 := Lib.hid (Z11.out.below hb)
        clear hb
        clear B11 P11 A11 Z11
        refine hK.out _ _ ?s14 (fun hNew => ?r14)
        case s14 => exact ⟨P12.out.2.1, A12.out.2.1, Z12.out.2.1⟩
        clear hK K hHeld
        have hHeld := hNew
        clear hNew
        refine wpAnyH_ready (rs := [14]) (by kernel_rfl) (by simp) ?_
        refine (AllReadyH.cons (o := { dst := some 52, op := Go.Op.call { callee := Go.Callee.value (Go.Operand.func 13), args := #[Go.Operand.tmp 51], argTypes := #[26] }, type := 5, pos := "law.go:57", after := #[{ on := 13, ground := Go.Ground.data }, { on := 12, ground := Go.Ground.chain }, { on := 9, ground := Go.Ground.guard }], guard := some (9, true) }) rfl (fun K hK => ?_) AllReadyH.nil)
        · skip
          go_simp
          with_reducible refine (K6.out _).mono ?_
          rintro q_ u13 ⟨rfl, hb⟩
          have B13 := Lib.hid (vian HN.out B12.out hb)
          have P13 := Lib.hid (P12.out.below hb)
          have A13 := Lib.hid (A12.out.below hb)
          have Z13 := Lib.hid (Z12.out.below hb)
          clear hb
          clear B12 P12 A12 Z12
          refine hK.out _ _ ?s15 (fun hNew => ?r15)
          case s15 => exact ⟨P13.out.2.1, A13.out.2.1, Z13.out.2.1⟩
          clear hK K hHeld
          have hHeld := hNew
          clear hNew
          refine wpAnyH_take (i := 15) (oi := { dst := some 53, op := Go.Op.binOp Go.BinOp.andNot 5 (Go.Operand.tmp 50) (Go.Operand.tmp 52) 5, type := 5, pos := "law.go:57", after := #[{ on := 12, ground := Go.Ground.data }, { on := 14, ground := Go.Ground.data }, { on := 9, ground := Go.Ground.guard }], guard := some (9, true) }) (v := ?v16) rfl (by kernel_rfl) (by kernel_rfl) (by kernel_rfl) (fun _ _ _ h => h) (Or.inl ⟨by rfl, ?y16⟩) (by assumption) ?z16
          case y16 => (intro w hSw; (try dsimp only at hSw); go_simp) <;> with_reducible rfl
          try simp only [Act.put, List.setIfInBounds_toArray, List.set_cons_zero, List.set_cons_succ]
          refine wpAnyH_take (i := 16) (oi := { dst := some 54, op := Go.Op.binOp Go.BinOp.and 5 (Go.Operand.tmp 53) (Go.Operand.const (Go.Value.int Go.IntKind.u8 15)) 5, type := 5, pos := "law.go:57", after := #[{ on := 15, ground := Go.Ground.data }, { on := 9, ground := Go.Ground.guard }], guard := some (9, true) }) (v := ?v17) rfl (by kernel_rfl) (by kernel_rfl) (by kernel_rfl) (fun _ _ _ h => h) (Or.inl ⟨by rfl, ?y17⟩) (by assumption) ?z17
          case y17 => (intro w hSw; (try dsimp only at hSw); go_simp) <;> with_reducible rfl
          try simp only [Act.put, List.setIfInBounds_toArray, List.set_cons_zero, List.set_cons_succ]
          refine wpAnyH_take (i := 17) (oi := { dst := some 55, op := Go.Op.binOp Go.BinOp.neq 5 (Go.Operand.tmp 54) (Go.Operand.const (Go.Value.int Go.IntKind.u8 0)) 5, type := 4, pos := "law.go:57", after := #[{ on := 16, ground := Go.Ground.data }, { on := 9, ground := Go.Ground.guard }], guard := some (9, true) }) (v := ?v18) rfl (by kernel_rfl) (by kernel_rfl) (by kernel_rfl) (fun _ _ _ h => h) (Or.inl ⟨by rfl, ?y18⟩) (by assumption) ?z18
          case y18 => (intro w hSw; (try dsimp only at hSw); go_simp) <;> with_reducible rfl
          try simp only [Act.put, List.setIfInBounds_toArray, List.set_cons_zero, List.set_cons_succ]
          refine wpAnyH_take (i := 18) (oi := { dst := some 56, op := Go.Op.binOp Go.BinOp.eql 4 (Go.Operand.tmp 48) (Go.Operand.tmp 55) 4, type := 4, pos := "law.go:57", after := #[{ on := 10, ground := Go.Ground.data }, { on := 17, ground := Go.Ground.data }, { on := 9, ground := Go.Ground.guard }], guard := some (9, true) }) (v := ?v19) rfl (by kernel_rfl) (by kernel_rfl) (by kernel_rfl) (fun _ _ _ h => h) (Or.inl ⟨by rfl, ?y19⟩) (by assumption) ?z19
          case y19 => (intro w hSw; (try dsimp only at hSw); go_simp) <;> with_reducible rfl
          try simp only [Act.put, List.setIfInBounds_toArray, List.set_cons_zero, List.set_cons_succ]
          refine wpAnyH_take (i := 19) (oi := { dst := some 57, op := Go.Op.pick (Go.Operand.tmp 47) (Go.Operand.tmp 56) (Go.Operand.const (Go.Value.bool false)), type := 4, pos := "law.go:57", after := #[{ on := 9, ground := Go.Ground.data }, { on := 18, ground := Go.Ground.data }], guard := none }) (v := ?v20) rfl (by kernel_rfl) (by kernel_rfl) (by kernel_rfl) (fun _ _ _ h => h) (Or.inl ⟨by rfl, ?y20⟩) (by assumption) ?z20
          case y20 => (intro w hSw; (try dsimp only at hSw); go_simp) <;> with_reducible rfl
          try simp only [Act.put, List.setIfInBounds_toArray, List.set_cons_zero, List.set_cons_succ]
          refine wpAnyH_take (i := 20) (oi := { dst := some 58, op := Go.Op.move (Go.Operand.tmp 57), type := 4, pos := "law.go:57", after := #[{ on := 19, ground := Go.Ground.data }, { on := 14, ground := Go.Ground.chain }], guard := none }) (v := ?v21) rfl (by kernel_rfl) (by kernel_rfl) (by kernel_rfl) (fun _ _ _ h => h) (Or.inl ⟨by rfl, ?y21⟩) (by assumption) ?z21
          case y21 => (intro w hSw; (try dsimp only at hSw); go_simp) <;> with_reducible rfl
          try simp only [Act.put, List.setIfInBounds_toArray, List.set_cons_zero, List.set_cons_succ]
          refine wpAnyH_take (i := 21) (oi := { dst := some 59, op := Go.Op.move (Go.Operand.tmp 13), type := 4, pos := "law.go:57", after := #[{ on := 20, ground := Go.Ground.guard }], guard := some (20, true) }) (v := ?v22) rfl (by kernel_rfl) (by kernel_rfl) (by kernel_rfl) (fun _ _ _ h => h) (Or.inl ⟨by rfl, ?y22⟩) (by assumption) ?z22
          case y22 => (intro w hSw; (try dsimp only at hSw); go_simp) <;> with_reducible rfl
          try simp only [Act.put, List.setIfInBounds_toArray, List.set_cons_zero, List.set_cons_succ]
          refine wpAnyH_take (i := 22) (oi := { dst := some 60, op := Go.Op.unOp Go.UnOp.not 4 (Go.Operand.tmp 59), type := 4, pos := "law.go:57", after := #[{ on := 21, ground := Go.Ground.data }, { on := 20, ground := Go.Ground.guard }], guard := some (20, true) }) (v := ?v23) rfl (by kernel_rfl) (by kernel_rfl) (by kernel_rfl) (fun _ _ _ h => h) (Or.inl ⟨by rfl, ?y23⟩) (by assumption) ?z23
          case y23 => (intro w hSw; (try dsimp only at hSw); go_simp) <;> with_reducible rfl
          try simp only [Act.put, List.setIfInBounds_toArray, List.set_cons_zero, List.set_cons_succ]
          refine wpAnyH_take (i := 23) (oi := { dst := some 61, op := Go.Op.pick (Go.Operand.tmp 58) (Go.Operand.tmp 60) (Go.Operand.const (Go.Value.bool false)), type := 4, pos := "law.go:57", after := #[{ on := 20, ground := Go.Ground.data }, { on := 22, ground := Go.Ground.data }], guard := none }) (v := ?v24) rfl (by kernel_rfl) (by kernel_rfl) (by kernel_rfl) (fun _ _ _ h => h) (Or.inl ⟨by rfl, ?y24⟩) (by assumption) ?z24
          case y24 => (intro w hSw; (try dsimp only at hSw); go_simp) <;> with_reducible rfl
          try simp only [Act.put, List.setIfInBounds_toArray, List.set_cons_zero, List.set_cons_succ]
          refine wpAnyH_take (i := 24) (oi := { dst := some 6, op := Go.Op.assign (Go.Operand.tmp 61), type := 4, pos := "law.go:57", after := #[{ on := 23, ground := Go.Ground.data }, { on := 20, ground := Go.Ground.chain }, { on := 0, ground := Go.Ground.phase }, { on := 1, ground := Go.Ground.phase }, { on := 2, ground := Go.Ground.phase }, { on := 3, ground := Go.Ground.phase }, { on := 4, ground := Go.Ground.phase }, { on := 5, ground := Go.Ground.phase }, { on := 6, ground := Go.Ground.phase }, { on := 7, ground := Go.Ground.phase }, { on := 8, ground := Go.Ground.phase }, { on := 9, ground := Go.Ground.phase }, { on := 10, ground := Go.Ground.phase }, { on := 11, ground := Go.Ground.phase }, { on := 12, ground := Go.Ground.phase }, { on := 13, ground := Go.Ground.phase }, { on := 14, ground := Go.Ground.phase }, { on := 15, ground := Go.Ground.phase }, { on := 16, ground := Go.Ground.phase }, { on := 17, ground := Go.Ground.phase }, { on := 18, ground := Go.Ground.phase }, { on := 19, ground := Go.Ground.phase }, { on := 20, ground := Go.Ground.phase }, { on := 21, ground := Go.Ground.phase }, { on := 22, ground := Go.Ground.phase }, { on := 23, ground := Go.Ground.phase }], guard := none }) (v := ?v25) rfl (by kernel_rfl) (by kernel_rfl) (by kernel_rfl) (fun _ _ _ h => h) (Or.inl ⟨by rfl, ?y25⟩) (by assumption) ?z25
          case y25 => (intro w hSw; (try dsimp only at hSw); go_simp) <;> with_reducible rfl
          try simp only [Act.put, List.setIfInBounds_toArray, List.set_cons_zero, List.set_cons_succ]
          refine wpAnyH_done (by kernel_rfl) ?_ _
          clear hHeld
          go_wp2
          go_ret
          exact ⟨rfl, B13.out⟩
end Go.Proofs.Ytbpfeppgonhclaa
