/-
  The walk through DmaPlays: for every world in which the numbers lie as told; no other condition.
-/
import Derived.Test.YtnfjgofmfaadnaaOpn
import Derived.Deep.Cut
import Derived.Deep.CutBlock
import Derived.Deep.DeepCutAuto
import Derived.Deep.LoopGhost
import Derived.Laws.StructEq
namespace Go.Proofs.Ytnfjgofmfaadnaa
open Go.ChangeShapes Go.WideShapes Go.ChangeAt Go.RowKit
set_option linter.unusedVariables false
set_option linter.unusedSimpArgs false
set_option maxRecDepth 100000
set_option maxHeartbeats 2000000 in
theorem plays_long (a : Option Addr) (n c : Nat) (r : Int) (h0 : 100 < n) (w : World) : Calls Try.prog 3 #[.slice a n c, .int .u16 r] w fun q_ w' => q_ = .returned (.bool true) ∧ Below w.heap.size w w' := by
  suffices hall : ∀ (n_ : Nat) (W0 : World), n_ ≤ W0.heap.size → Below n_ W0 w → Calls Try.prog 3 #[.slice a n c, .int .u16 r] w fun q_ w' => q_ = .returned (.bool true) ∧ Below n_ W0 w' from hall _ _ (Nat.le_refl _) (Below.refl _ _)
  intro n_ W0 hn hB
  have HN := Lib.hid hn
  have BB := Lib.hid hB
  clear hn hB
  have AW := Lib.hid awake_c
  have h0I : (100 : Int) < n := by omega
  have hnot : ∀ (x : Bool) (w : World), (Op.unary .not (.bool x)).run Try.prog w = .ok (.bool (!x)) w := fun _ _ => rfl
  go_enter Try.func3, Try.ntmps3
  go_wp2_with fail
  with_reducible refine (AW.out _).mono ?_
  rintro q_ w1 ⟨rfl, hb⟩
  have B1 := Lib.hid (vian HN.out BB.out hb)
  clear hb 
  go_wp2_with fail
  with_reducible refine (AW.out _).mono ?_
  rintro q_ w2 ⟨rfl, hb⟩
  have B2 := Lib.hid (vian HN.out B1.out hb)
  clear hb B1
  go_wp2
  go_ret
  exact ⟨rfl, B2.out⟩
set_option maxHeartbeats 8000000 in
theorem plays_some (f : Nat → Int) (hh : ∀ i, 0 ≤ f i ∧ f i < 65536) (a : Option Addr) (n c : Nat) (r : Int) (r0 : 0 ≤ r) (r1 : r < 65536) (h0 : ¬ 100 < n) (w : World) (hmem : (0 < n → ∃ qb qo, a = some ⟨qb, qo, none⟩ ∧ qb < w.heap.size ∧ ∀ j, j < n → w.cell? ⟨qb, qo + j, none⟩ = some (.int .u16 (f j)))) : Calls Try.prog 3 #[.slice a n c, .int .u16 r] w fun q_ w' => q_ = .returned (.bool true) ∧ Below w.heap.size w w' := by
  suffices hall : ∀ (n_ : Nat) (W0 : World), n_ ≤ W0.heap.size → Below n_ W0 w → (0 < n → ∃ qb qo, a = some ⟨qb, qo, none⟩ ∧ qb < n_ ∧ ∀ j, j < n → W0.cell? ⟨qb, qo + j, none⟩ = some (.int .u16 (f j))) → Calls Try.prog 3 #[.slice a n c, .int .u16 r] w fun q_ w' => q_ = .returned (.bool true) ∧ Below n_ W0 w' from hall _ _ (Nat.le_refl _) (Below.refl _ _) hmem
  intro n_ W0 hn hB hI
  have HN := Lib.hid hn
  have BB := Lib.hid hB
  have HIN := Lib.hid hI
  have HH := Lib.hid hh
  have RR := Lib.hid (And.intro r0 r1)
  clear hn hB hI hmem hh
  have h0I : ¬ (100 : Int) < n := by omega
  have AW := Lib.hid awake_c
  have hnot : ∀ (x : Bool) (w : World), (Op.unary .not (.bool x)).run Try.prog w = .ok (.bool (!x)) w := fun _ _ => rfl
  go_enter Try.func3, Try.ntmps3
  go_wp2_with fail
  with_reducible refine (AW.out _).mono ?_
  rintro q_ w1 ⟨rfl, hb⟩
  have B1 := Lib.hid (vian HN.out BB.out hb)
  clear hb 
  have Q_ := own2 w1 (.cells #[.int .u8 0, .int .i64 0] 26) (.cells #[.int .u8 0, .int .i64 0] 27)
  have B0 := Lib.hid (vian HN.out B1.out Q_)
  have P0 := Lib.hid (show Has ((w1.alloc (.cells #[.int .u8 0, .int .i64 0] 26)).alloc (.cells #[.int .u8 0, .int .i64 0] 27)) w1.heap.size #[.int .u8 0, .int .i64 0] by simpa using (Has.new w1 #[.int .u8 0, .int .i64 0] 26).alloc (.cells #[.int .u8 0, .int .i64 0] 27))
  have LP := Lib.hid (show n_ ≤ w1.heap.size + 0 from Nat.le_add_right_of_le (Nat.le_trans HN.out B1.out.size))
  have R0 := Lib.hid (show Has ((w1.alloc (.cells #[.int .u8 0, .int .i64 0] 26)).alloc (.cells #[.int .u8 0, .int .i64 0] 27)) (w1.heap.size + 1) #[.int .u8 0, .int .i64 0] by simpa using Has.new (w1.alloc (.cells #[.int .u8 0, .int .i64 0] 26)) #[.int .u8 0, .int .i64 0] 27)
  have LR := Lib.hid (show n_ ≤ (w1.heap.size + 1) from Nat.le_add_right_of_le (Nat.le_trans HN.out B1.out.size))
  have NPR := Lib.hid (show w1.heap.size + 0 ≠ w1.heap.size + 1 by omega)
  simp only [Nat.add_zero] at LP NPR
  clear Q_
  go_upto_region 4 with (fail)
  generalize ((w1.alloc (.cells #[.int .u8 0, .int .i64 0] 26)).alloc (.cells #[.int .u8 0, .int .i64 0] 27)) = u0 at B0 P0 R0 ⊢
  generalize w1.heap.size + 1 = rb at R0 LR NPR ⊢
  generalize w1.heap.size = pb at P0 LP NPR ⊢
  clear B1
  go_wp2
  go_loopg [26] n (fun g' i wr => ∃ (t : Nat) (m : CV), t ≤ n ∧ g' + t = n ∧ i = .int .i64 t ∧ m.ok ∧ Below n_ W0 wr ∧ Has wr pb #[.int .u8 m.p, .int .i64 m.l] ∧ Has wr rb #[.int .u8 m.p, .int .i64 m.l])
  case atStart => exact ⟨0, zeroV, by omega, by omega, rfl, zero_ok, B0.out, P0.out, R0.out⟩
  case round =>
    obtain ⟨w3, hw3⟩ : ∃ q_, q_ = wr := ⟨_, rfl⟩
    subst hw3
    obtain ⟨t, m, ht, hg, rfl, hok, hB, hP, hR⟩ := hrel
    have TG := Lib.hid hg
    have OK := Lib.hid hok
    have B3 := Lib.hid hB
    have P3 := Lib.hid hP
    have R3 := Lib.hid hR
    clear hg hok hB hP hR B0 P0 R0
    by_cases hlt : t < n
    · have l1 : (t : Int) < n := by omega
      have l0 : (0 : Int) ≤ t := by omega
      obtain ⟨qb, qo, rfl, hqb, hcells⟩ := HIN.out (by omega)
      have QQ := Lib.hid hqb
      have E0 := Lib.hid (hcells t hlt)
      obtain ⟨xb, xb2⟩ := HH.out t
      generalize f t = vv at E0 xb xb2
      clear hcells hqb
      obtain ⟨z, hz⟩ : ∃ z, (vv % 4 == 0) = z := ⟨_, rfl⟩
      obtain ⟨N, hN⟩ := Int.eq_ofNat_of_zero_le (show 0 ≤ vv % 64 by omega)
      have eN : vv % 64 = N := hN
      have N64 : N < 64 := by omega
      have EN := Lib.hid eN
      clear eN hN
      have e0 := (B3.out.cell (p := ⟨qb, qo + t, none⟩) QQ.out).trans E0.out
      go_upto_if 34 with (fail)
      clear e0
      go_cut [] (fun wx => ∃ m' : CV, m'.ok ∧ Below n_ W0 wx ∧ Has wx pb #[.int .u8 m'.p, .int .i64 m'.l] ∧ Has wx rb #[.int .u8 m'.p, .int .i64 m'.l])
      case first =>
        cases z
        · go_wp2
          go_meet
          exact ⟨m, OK.out, B3.out, P3.out, R3.out⟩
        · obtain ⟨x, hx⟩ : ∃ q_, vv / 256 = q_ := ⟨_, rfl⟩
          have WC := Lib.hid (fun W => write_c m.p m.l x (by omega) (by omega) W)
          have RWC := Lib.hid (fun W => rwrite_c m.p m.l x (by omega) (by omega) W)
          have OK2 := Lib.hid (show CV.ok ⟨x, 160⟩ from wr_ok (by omega) (by omega))
          have x3 : IntKind.u8.wrap x = x := by rw [IntKind.wrap_u8]; omega
          have x4 : 0 ≤ x ∧ x < 256 := by omega
          have HX := Lib.hid hx
          go_upto_region 8 with (fail)
          have B4 := Lib.hid B3.out.drew
          have P4 := Lib.hid P3.out.drew
          have R4 := Lib.hid R3.out.drew
          clear B3 P3 R3
          refine wp_region_held_drew (S := (fun w' => w'.cell? ⟨qb, qo + t, none⟩ = some (.int .u16 vv))) (by kernel_rfl) ((B4.out.cell (p := ⟨qb, qo + t, none⟩) QQ.out).trans E0.out) (fun hHeld => ?_)
          generalize World.drew w3 = u4 at hHeld B4 P4 R4 ⊢
          refine wpAnyH_take (i := 1) (oi := { dst := some 36, op := Go.Op.move (Go.Operand.tmp 0), type := 22, pos := "law.go:25", after := #[], guard := none }) (v := ?v1) rfl (by kernel_rfl) (by kernel_rfl) (by kernel_rfl) (fun _ _ _ h => h) (Or.inl ⟨by rfl, ?y1⟩) (by assumption) ?z1
          case y1 => (intro w hSw; (try dsimp only at hSw); go_simp) <;> with_reducible rfl
          try simp only [Act.put, List.setIfInBounds_toArray, List.set_cons_zero, List.set_cons_succ]
          refine wpAnyH_take (i := 2) (oi := { dst := some 37, op := Go.Op.move (Go.Operand.tmp 7), type := 3, pos := "law.go:25", after := #[], guard := none }) (v := ?v2) rfl (by kernel_rfl) (by kernel_rfl) (by kernel_rfl) (fun _ _ _ h => h) (Or.inl ⟨by rfl, ?y2⟩) (by assumption) ?z2
          case y2 => (intro w hSw; (try dsimp only at hSw); go_simp) <;> with_reducible rfl
          try simp only [Act.put, List.setIfInBounds_toArray, List.set_cons_zero, List.set_cons_succ]
          refine wpAnyH_take (i := 3) (oi := { dst := some 38, op := Go.Op.indexAddr 22 (Go.Operand.tmp 36) (Go.Operand.tmp 37), type := 0, pos := "law.go:25", after := #[{ on := 1, ground := Go.Ground.data }, { on := 2, ground := Go.Ground.data }], guard := none }) (v := ?v3) rfl (by kernel_rfl) (by kernel_rfl) (by kernel_rfl) (fun _ _ _ h => h) (Or.inl ⟨by rfl, ?y3⟩) (by assumption) ?z3
          case y3 => (intro w hSw; (try dsimp only at hSw); go_simp) <;> with_reducible rfl
          try simp only [Act.put, List.setIfInBounds_toArray, List.set_cons_zero, List.set_cons_succ]
          refine wpAnyH_take (i := 4) (oi := { dst := some 39, op := Go.Op.load 23 (Go.Operand.tmp 38), type := 23, pos := "law.go:25", after := #[{ on := 3, ground := Go.Ground.data }], guard := none }) (v := ?v4) rfl (by kernel_rfl) (by kernel_rfl) (by kernel_rfl) (fun _ _ _ h => h) (Or.inl ⟨by rfl, ?y4⟩) (by assumption) ?z4
          case y4 => (intro w hSw; (try dsimp only at hSw); go_simp) <;> with_reducible rfl
          try simp only [Act.put, List.setIfInBounds_toArray, List.set_cons_zero, List.set_cons_succ]
          refine wpAnyH_take (i := 5) (oi := { dst := some 40, op := Go.Op.binOp Go.BinOp.shr 23 (Go.Operand.tmp 39) (Go.Operand.const (Go.Value.int Go.IntKind.u64 8)) 29, type := 23, pos := "law.go:25", after := #[{ on := 4, ground := Go.Ground.data }], guard := none }) (v := ?v5) rfl (by kernel_rfl) (by kernel_rfl) (by kernel_rfl) (fun _ _ _ h => h) (Or.inl ⟨by rfl, ?y5⟩) (by assumption) ?z5
          case y5 => (intro w hSw; (try dsimp only at hSw); go_simp) <;> with_reducible rfl
          try simp only [Act.put, List.setIfInBounds_toArray, List.set_cons_zero, List.set_cons_succ]
          refine wpAnyH_take (i := 6) (oi := { dst := some 41, op := Go.Op.convert 23 5 (Go.Operand.tmp 40), type := 5, pos := "law.go:25", after := #[{ on := 5, ground := Go.Ground.data }], guard := none }) (v := ?v6) rfl (by kernel_rfl) (by kernel_rfl) (by kernel_rfl) (fun _ _ _ h => h) (Or.inl ⟨by rfl, ?y6⟩) (by assumption) ?z6
          case y6 => (intro w hSw; (try dsimp only at hSw); go_simp) <;> with_reducible rfl
          try simp only [Act.put, List.setIfInBounds_toArray, List.set_cons_zero, List.set_cons_succ]
          refine wpAnyH_take (i := 9) (oi := { dst := some 44, op := Go.Op.move (Go.Operand.tmp 0), type := 22, pos := "law.go:25", after := #[], guard := none }) (v := ?v7) rfl (by kernel_rfl) (by kernel_rfl) (by kernel_rfl) (fun _ _ _ h => h) (Or.inl ⟨by rfl, ?y7⟩) (by assumption) ?z7
          case y7 => (intro w hSw; (try dsimp only at hSw); go_simp) <;> with_reducible rfl
          try simp only [Act.put, List.setIfInBounds_toArray, List.set_cons_zero, List.set_cons_succ]
          refine wpAnyH_take (i := 10) (oi := { dst := some 45, op := Go.Op.move (Go.Operand.tmp 7), type := 3, pos := "law.go:25", after := #[], guard := none }) (v := ?v8) rfl (by kernel_rfl) (by kernel_rfl) (by kernel_rfl) (fun _ _ _ h => h) (Or.inl ⟨by rfl, ?y8⟩) (by assumption) ?z8
          case y8 => (intro w hSw; (try dsimp only at hSw); go_simp) <;> with_reducible rfl
          try simp only [Act.put, List.setIfInBounds_toArray, List.set_cons_zero, List.set_cons_succ]
          refine wpAnyH_take (i := 11) (oi := { dst := some 46, op := Go.Op.indexAddr 22 (Go.Operand.tmp 44) (Go.Operand.tmp 45), type := 0, pos := "law.go:25", after := #[{ on := 9, ground := Go.Ground.data }, { on := 10, ground := Go.Ground.data }], guard := none }) (v := ?v9) rfl (by kernel_rfl) (by kernel_rfl) (by kernel_rfl) (fun _ _ _ h => h) (Or.inl ⟨by rfl, ?y9⟩) (by assumption) ?z9
          case y9 => (intro w hSw; (try dsimp only at hSw); go_simp) <;> with_reducible rfl
          try simp only [Act.put, List.setIfInBounds_toArray, List.set_cons_zero, List.set_cons_succ]
          refine wpAnyH_take (i := 12) (oi := { dst := some 47, op := Go.Op.load 23 (Go.Operand.tmp 46), type := 23, pos := "law.go:25", after := #[{ on := 11, ground := Go.Ground.data }], guard := none }) (v := ?v10) rfl (by kernel_rfl) (by kernel_rfl) (by kernel_rfl) (fun _ _ _ h => h) (Or.inl ⟨by rfl, ?y10⟩) (by assumption) ?z10
          case y10 => (intro w hSw; (try dsimp only at hSw); go_simp) <;> with_reducible rfl
          try simp only [Act.put, List.setIfInBounds_toArray, List.set_cons_zero, List.set_cons_succ]
          refine wpAnyH_take (i := 13) (oi := { dst := some 48, op := Go.Op.binOp Go.BinOp.shr 23 (Go.Operand.tmp 47) (Go.Operand.const (Go.Value.int Go.IntKind.u64 8)) 29, type := 23, pos := "law.go:25", after := #[{ on := 12, ground := Go.Ground.data }], guard := none }) (v := ?v11) rfl (by kernel_rfl) (by kernel_rfl) (by kernel_rfl) (fun _ _ _ h => h) (Or.inl ⟨by rfl, ?y11⟩) (by assumption) ?z11
          case y11 => (intro w hSw; (try dsimp only at hSw); go_simp) <;> with_reducible rfl
          try simp only [Act.put, List.setIfInBounds_toArray, List.set_cons_zero, List.set_cons_succ]
          refine wpAnyH_take (i := 14) (oi := { dst := some 49, op := Go.Op.convert 23 5 (Go.Operand.tmp 48), type := 5, pos := "law.go:25", after := #[{ on := 13, ground := Go.Ground.data }], guard := none }) (v := ?v12) rfl (by kernel_rfl) (by kernel_rfl) (by kernel_rfl) (fun _ _ _ h => h) (Or.inl ⟨by rfl, ?y12⟩) (by assumption) ?z12
          case y12 => (intro w hSw; (try dsimp only at hSw); go_simp) <;> with_reducible rfl
          try simp only [Act.put, List.setIfInBounds_toArray, List.set_cons_zero, List.set_cons_succ]
          refine wpAnyH_ready (rs := [0, 8]) (by kernel_rfl) (by simp) ?_
          refine (AllReadyH.cons (o := { dst := some 35, op := Go.Op.load 26 (Go.Operand.tmp 5), type := 26, pos := "law.go:25", after := #[], guard := none }) rfl (fun K hK => ?_) (AllReadyH.cons (o := { dst := some 43, op := Go.Op.load 27 (Go.Operand.tmp 6), type := 27, pos := "law.go:25", after := #[], guard := none }) rfl (fun K hK => ?_) AllReadyH.nil))
          · skip
            obtain ⟨hc, hfz⟩ := P4.out.out
            go_simp
            clear hc hfz
            have B5 := B4
            have P5 := P4
            have R5 := R4
            clear B4 P4 R4
            refine hK.out _ _ ?s13 (fun hNew => ?r13)
            case s13 => exact (((B5.out.cell (p := ⟨qb, qo + t, none⟩) QQ.out).trans E0.out))
            clear hK K hHeld
            have hHeld := hNew
            clear hNew
            refine wpAnyH_ready (rs := [7, 8]) (by kernel_rfl) (by simp) ?_
            refine (AllReadyH.cons (o := { dst := some 42, op := Go.Op.call { callee := Go.Callee.value (Go.Operand.func 9), args := #[Go.Operand.tmp 35, Go.Operand.tmp 41], argTypes := #[26, 5] }, type := 26, pos := "law.go:25", after := #[{ on := 0, ground := Go.Ground.data }, { on := 6, ground := Go.Ground.data }], guard := none }) rfl (fun K hK => ?_) (AllReadyH.cons (o := { dst := some 43, op := Go.Op.load 27 (Go.Operand.tmp 6), type := 27, pos := "law.go:25", after := #[], guard := none }) rfl (fun K hK => ?_) AllReadyH.nil))
            · skip
              go_simp
              with_reducible refine (WC.out _).mono ?_
              rintro q_ u6 ⟨rfl, hb⟩
              have B6 := Lib.hid (vian HN.out B5.out hb)
              have P6 := Lib.hid (P5.out.below hb)
              have R6 := Lib.hid (R5.out.below hb)
              clear hb
              clear B5 P5 R5
              refine hK.out _ _ ?s14 (fun hNew => ?r14)
              case s14 => exact (((B6.out.cell (p := ⟨qb, qo + t, none⟩) QQ.out).trans E0.out))
              clear hK K hHeld
              have hHeld := hNew
              clear hNew
              refine wpAnyH_ready (rs := [8]) (by kernel_rfl) (by simp) ?_
              refine (AllReadyH.cons (o := { dst := some 43, op := Go.Op.load 27 (Go.Operand.tmp 6), type := 27, pos := "law.go:25", after := #[], guard := none }) rfl (fun K hK => ?_) AllReadyH.nil)
              · skip
                obtain ⟨hc, hfz⟩ := R6.out.out
                go_simp
                clear hc hfz
                have B7 := B6
                have P7 := P6
                have R7 := R6
                clear B6 P6 R6
                refine hK.out _ _ ?s15 (fun hNew => ?r15)
                case s15 => exact (((B7.out.cell (p := ⟨qb, qo + t, none⟩) QQ.out).trans E0.out))
                clear hK K hHeld
                have hHeld := hNew
                clear hNew
                refine wpAnyH_ready (rs := [15]) (by kernel_rfl) (by simp) ?_
                refine (AllReadyH.cons (o := { dst := some 50, op := Go.Op.call { callee := Go.Callee.value (Go.Operand.func 10), args := #[Go.Operand.tmp 43, Go.Operand.tmp 49], argTypes := #[27, 5] }, type := 27, pos := "law.go:25", after := #[{ on := 8, ground := Go.Ground.data }, { on := 14, ground := Go.Ground.data }, { on := 7, ground := Go.Ground.chain }], guard := none }) rfl (fun K hK => ?_) AllReadyH.nil)
                · skip
                  go_simp
                  with_reducible refine (RWC.out _).mono ?_
                  rintro q_ u8 ⟨rfl, hb⟩
                  have B8 := Lib.hid (vian HN.out B7.out hb)
                  have P8 := Lib.hid (P7.out.below hb)
                  have R8 := Lib.hid (R7.out.below hb)
                  clear hb
                  clear B7 P7 R7
                  refine hK.out _ _ ?s16 (fun hNew => ?r16)
                  case s16 => exact (((B8.out.cell (p := ⟨qb, qo + t, none⟩) QQ.out).trans E0.out))
                  clear hK K hHeld
                  have hHeld := hNew
                  clear hNew
                  refine wpAnyH_ready (rs := [16]) (by kernel_rfl) (by simp) ?_
                  refine (AllReadyH.cons (o := { dst := none, op := Go.Op.store 26 (Go.Operand.tmp 5) (Go.Operand.tmp 42), type := 0, pos := "law.go:25", after := #[{ on := 7, ground := Go.Ground.data }, { on := 15, ground := Go.Ground.chain }, { on := 0, ground := Go.Ground.phase }, { on := 1, ground := Go.Ground.phase }, { on := 2, ground := Go.Ground.phase }, { on := 3, ground := Go.Ground.phase }, { on := 4, ground := Go.Ground.phase }, { on := 5, ground := Go.Ground.phase }, { on := 6, ground := Go.Ground.phase }, { on := 7, ground := Go.Ground.phase }, { on := 8, ground := Go.Ground.textOnly Go.Departure.lateStores }, { on := 9, ground := Go.Ground.textOnly Go.Departure.lateStores }, { on := 10, ground := Go.Ground.textOnly Go.Departure.lateStores }, { on := 11, ground := Go.Ground.textOnly Go.Departure.lateStores }, { on := 12, ground := Go.Ground.textOnly Go.Departure.lateStores }, { on := 13, ground := Go.Ground.textOnly Go.Departure.lateStores }, { on := 14, ground := Go.Ground.textOnly Go.Departure.lateStores }, { on := 15, ground := Go.Ground.textOnly Go.Departure.lateStoresUnsure }], guard := none }) rfl (fun K hK => ?_) AllReadyH.nil)
                  · skip
                    obtain ⟨hc, hfz⟩ := P8.out.out
                    go_simp
                    clear hc hfz
                    have P9 := Lib.hid (P8.out.put2 (.int .u8 x) (.int .i64 160))
                    have R9 := Lib.hid (R8.out.far2 NPR.out.symm (.int .u8 x) (.int .i64 160))
                    have B9 := Lib.hid (set2 B8.out pb LP.out (.int .u8 x) (.int .i64 160))
                    clear B8 P8 R8
                    refine hK.out _ _ ?s17 (fun hNew => ?r17)
                    case s17 => exact (((B9.out.cell (p := ⟨qb, qo + t, none⟩) QQ.out).trans E0.out))
                    clear hK K hHeld
                    have hHeld := hNew
                    clear hNew
                    generalize (World.setCell (World.setCell _ ⟨pb, 0, none⟩ _) ⟨pb, 1, none⟩ _) = u9 at hHeld B9 P9 R9 ⊢
                    refine wpAnyH_ready (rs := [17]) (by kernel_rfl) (by simp) ?_
                    refine (AllReadyH.cons (o := { dst := none, op := Go.Op.store 27 (Go.Operand.tmp 6) (Go.Operand.tmp 50), type := 0, pos := "law.go:25", after := #[{ on := 15, ground := Go.Ground.data }, { on := 16, ground := Go.Ground.chain }, { on := 0, ground := Go.Ground.phase }, { on := 1, ground := Go.Ground.phase }, { on := 2, ground := Go.Ground.phase }, { on := 3, ground := Go.Ground.phase }, { on := 4, ground := Go.Ground.phase }, { on := 5, ground := Go.Ground.phase }, { on := 6, ground := Go.Ground.phase }, { on := 7, ground := Go.Ground.phase }, { on := 8, ground := Go.Ground.phase }, { on := 9, ground := Go.Ground.phase }, { on := 10, ground := Go.Ground.phase }, { on := 11, ground := Go.Ground.phase }, { on := 12, ground := Go.Ground.phase }, { on := 13, ground := Go.Ground.phase }, { on := 14, ground := Go.Ground.phase }, { on := 15, ground := Go.Ground.phase }, { on := 16, ground := Go.Ground.phase }], guard := none }) rfl (fun K hK => ?_) AllReadyH.nil)
                    · skip
                      obtain ⟨hc, hfz⟩ := R9.out.out
                      go_simp
                      clear hc hfz
                      have R10 := Lib.hid (R9.out.put2 (.int .u8 x) (.int .i64 160))
                      have P10 := Lib.hid (P9.out.far2 NPR.out (.int .u8 x) (.int .i64 160))
                      have B10 := Lib.hid (set2 B9.out rb LR.out (.int .u8 x) (.int .i64 160))
                      clear B9 P9 R9
                      refine hK.out _ _ ?s18 (fun hNew => ?r18)
                      case s18 => exact (((B10.out.cell (p := ⟨qb, qo + t, none⟩) QQ.out).trans E0.out))
                      clear hK K hHeld
                      have hHeld := hNew
                      clear hNew
                      generalize (World.setCell (World.setCell _ ⟨rb, 0, none⟩ _) ⟨rb, 1, none⟩ _) = u10 at hHeld B10 P10 R10 ⊢
                      refine wpAnyH_done (by kernel_rfl) ?_ _
                      clear hHeld
                      go_wp2
                      go_meet
                      exact ⟨⟨x, 160⟩, OK2.out, B10.out, P10.out, R10.out⟩
            · skip
              obtain ⟨hc, hfz⟩ := R5.out.out
              go_simp
              clear hc hfz
              have B6 := B5
              have P6 := P5
              have R6 := R5
              clear B5 P5 R5
              refine hK.out _ _ ?s19 (fun hNew => ?r19)
              case s19 => exact (((B6.out.cell (p := ⟨qb, qo + t, none⟩) QQ.out).trans E0.out))
              clear hK K hHeld
              have hHeld := hNew
              clear hNew
              refine wpAnyH_ready (rs := [7]) (by kernel_rfl) (by simp) ?_
              refine (AllReadyH.cons (o := { dst := some 42, op := Go.Op.call { callee := Go.Callee.value (Go.Operand.func 9), args := #[Go.Operand.tmp 35, Go.Operand.tmp 41], argTypes := #[26, 5] }, type := 26, pos := "law.go:25", after := #[{ on := 0, ground := Go.Ground.data }, { on := 6, ground := Go.Ground.data }], guard := none }) rfl (fun K hK => ?_) AllReadyH.nil)
              · skip
                go_simp
                with_reducible refine (WC.out _).mono ?_
                rintro q_ u7 ⟨rfl, hb⟩
                have B7 := Lib.hid (vian HN.out B6.out hb)
                have P7 := Lib.hid (P6.out.below hb)
                have R7 := Lib.hid (R6.out.below hb)
                clear hb
                clear B6 P6 R6
                refine hK.out _ _ ?s20 (fun hNew => ?r20)
                case s20 => exact (((B7.out.cell (p := ⟨qb, qo + t, none⟩) QQ.out).trans E0.out))
                clear hK K hHeld
                have hHeld := hNew
                clear hNew
                refine wpAnyH_ready (rs := [15]) (by kernel_rfl) (by simp) ?_
                refine (AllReadyH.cons (o := { dst := some 50, op := Go.Op.call { callee := Go.Callee.value (Go.Operand.func 10), args := #[Go.Operand.tmp 43, Go.Operand.tmp 49], argTypes := #[27, 5] }, type := 27, pos := "law.go:25", after := #[{ on := 8, ground := Go.Ground.data }, { on := 14, ground := Go.Ground.data }, { on := 7, ground := Go.Ground.chain }], guard := none }) rfl (fun K hK => ?_) AllReadyH.nil)
                · skip
                  go_simp
                  with_reducible refine (RWC.out _).mono ?_
                  rintro q_ u8 ⟨rfl, hb⟩
                  have B8 := Lib.hid (vian HN.out B7.out hb)
                  have P8 := Lib.hid (P7.out.below hb)
                  have R8 := Lib.hid (R7.out.below hb)
                  clear hb
                  clear B7 P7 R7
                  refine hK.out _ _ ?s21 (fun hNew => ?r21)
                  case s21 => exact (((B8.out.cell (p := ⟨qb, qo + t, none⟩) QQ.out).trans E0.out))
                  clear hK K hHeld
                  have hHeld := hNew
                  clear hNew
                  refine wpAnyH_ready (rs := [16]) (by kernel_rfl) (by simp) ?_
                  refine (AllReadyH.cons (o := { dst := none, op := Go.Op.store 26 (Go.Operand.tmp 5) (Go.Operand.tmp 42), type := 0, pos := "law.go:25", after := #[{ on := 7, ground := Go.Ground.data }, { on := 15, ground := Go.Ground.chain }, { on := 0, ground := Go.Ground.phase }, { on := 1, ground := Go.Ground.phase }, { on := 2, ground := Go.Ground.phase }, { on := 3, ground := Go.Ground.phase }, { on := 4, ground := Go.Ground.phase }, { on := 5, ground := Go.Ground.phase }, { on := 6, ground := Go.Ground.phase }, { on := 7, ground := Go.Ground.phase }, { on := 8, ground := Go.Ground.textOnly Go.Departure.lateStores }, { on := 9, ground := Go.Ground.textOnly Go.Departure.lateStores }, { on := 10, ground := Go.Ground.textOnly Go.Departure.lateStores }, { on := 11, ground := Go.Ground.textOnly Go.Departure.lateStores }, { on := 12, ground := Go.Ground.textOnly Go.Departure.lateStores }, { on := 13, ground := Go.Ground.textOnly Go.Departure.lateStores }, { on := 14, ground := Go.Ground.textOnly Go.Departure.lateStores }, { on := 15, ground := Go.Ground.textOnly Go.Departure.lateStoresUnsure }], guard := none }) rfl (fun K hK => ?_) AllReadyH.nil)
                  · skip
                    obtain ⟨hc, hfz⟩ := P8.out.out
                    go_simp
                    clear hc hfz
                    have P9 := Lib.hid (P8.out.put2 (.int .u8 x) (.int .i64 160))
                    have R9 := Lib.hid (R8.out.far2 NPR.out.symm (.int .u8 x) (.int .i64 160))
                    have B9 := Lib.hid (set2 B8.out pb LP.out (.int .u8 x) (.int .i64 160))
                    clear B8 P8 R8
                    refine hK.out _ _ ?s22 (fun hNew => ?r22)
                    case s22 => exact (((B9.out.cell (p := ⟨qb, qo + t, none⟩) QQ.out).trans E0.out))
                    clear hK K hHeld
                    have hHeld := hNew
                    clear hNew
                    generalize (World.setCell (World.setCell _ ⟨pb, 0, none⟩ _) ⟨pb, 1, none⟩ _) = u9 at hHeld B9 P9 R9 ⊢
                    refine wpAnyH_ready (rs := [17]) (by kernel_rfl) (by simp) ?_
                    refine (AllReadyH.cons (o := { dst := none, op := Go.Op.store 27 (Go.Operand.tmp 6) (Go.Operand.tmp 50), type := 0, pos := "law.go:25", after := #[{ on := 15, ground := Go.Ground.data }, { on := 16, ground := Go.Ground.chain }, { on := 0, ground := Go.Ground.phase }, { on := 1, ground := Go.Ground.phase }, { on := 2, ground := Go.Ground.phase }, { on := 3, ground := Go.Ground.phase }, { on := 4, ground := Go.Ground.phase }, { on := 5, ground := Go.Ground.phase }, { on := 6, ground := Go.Ground.phase }, { on := 7, ground := Go.Ground.phase }, { on := 8, ground := Go.Ground.phase }, { on := 9, ground := Go.Ground.phase }, { on := 10, ground := Go.Ground.phase }, { on := 11, ground := Go.Ground.phase }, { on := 12, ground := Go.Ground.phase }, { on := 13, ground := Go.Ground.phase }, { on := 14, ground := Go.Ground.phase }, { on := 15, ground := Go.Ground.phase }, { on := 16, ground := Go.Ground.phase }], guard := none }) rfl (fun K hK => ?_) AllReadyH.nil)
                    · skip
                      obtain ⟨hc, hfz⟩ := R9.out.out
                      go_simp
                      clear hc hfz
                      have R10 := Lib.hid (R9.out.put2 (.int .u8 x) (.int .i64 160))
                      have P10 := Lib.hid (P9.out.far2 NPR.out (.int .u8 x) (.int .i64 160))
                      have B10 := Lib.hid (set2 B9.out rb LR.out (.int .u8 x) (.int .i64 160))
                      clear B9 P9 R9
                      refine hK.out _ _ ?s23 (fun hNew => ?r23)
                      case s23 => exact (((B10.out.cell (p := ⟨qb, qo + t, none⟩) QQ.out).trans E0.out))
                      clear hK K hHeld
                      have hHeld := hNew
                      clear hNew
                      generalize (World.setCell (World.setCell _ ⟨rb, 0, none⟩ _) ⟨rb, 1, none⟩ _) = u10 at hHeld B10 P10 R10 ⊢
                      refine wpAnyH_done (by kernel_rfl) ?_ _
                      clear hHeld
                      go_wp2
                      go_meet
                      exact ⟨⟨x, 160⟩, OK2.out, B10.out, P10.out, R10.out⟩
          · skip
            obtain ⟨hc, hfz⟩ := R4.out.out
            go_simp
            clear hc hfz
            have B5 := B4
            have P5 := P4
            have R5 := R4
            clear B4 P4 R4
            refine hK.out _ _ ?s24 (fun hNew => ?r24)
            case s24 => exact (((B5.out.cell (p := ⟨qb, qo + t, none⟩) QQ.out).trans E0.out))
            clear hK K hHeld
            have hHeld := hNew
            clear hNew
            refine wpAnyH_ready (rs := [0]) (by kernel_rfl) (by simp) ?_
            refine (AllReadyH.cons (o := { dst := some 35, op := Go.Op.load 26 (Go.Operand.tmp 5), type := 26, pos := "law.go:25", after := #[], guard := none }) rfl (fun K hK => ?_) AllReadyH.nil)
            · skip
              obtain ⟨hc, hfz⟩ := P5.out.out
              go_simp
              clear hc hfz
              have B6 := B5
              have P6 := P5
              have R6 := R5
              clear B5 P5 R5
              refine hK.out _ _ ?s25 (fun hNew => ?r25)
              case s25 => exact (((B6.out.cell (p := ⟨qb, qo + t, none⟩) QQ.out).trans E0.out))
              clear hK K hHeld
              have hHeld := hNew
              clear hNew
              refine wpAnyH_ready (rs := [7]) (by kernel_rfl) (by simp) ?_
              refine (AllReadyH.cons (o := { dst := some 42, op := Go.Op.call { callee := Go.Callee.value (Go.Operand.func 9), args := #[Go.Operand.tmp 35, Go.Operand.tmp 41], argTypes := #[26, 5] }, type := 26, pos := "law.go:25", after := #[{ on := 0, ground := Go.Ground.data }, { on := 6, ground := Go.Ground.data }], guard := none }) rfl (fun K hK => ?_) AllReadyH.nil)
              · skip
                go_simp
                with_reducible refine (WC.out _).mono ?_
                rintro q_ u7 ⟨rfl, hb⟩
                have B7 := Lib.hid (vian HN.out B6.out hb)
                have P7 := Lib.hid (P6.out.below hb)
                have R7 := Lib.hid (R6.out.below hb)
                clear hb
                clear B6 P6 R6
                refine hK.out _ _ ?s26 (fun hNew => ?r26)
                case s26 => exact (((B7.out.cell (p := ⟨qb, qo + t, none⟩) QQ.out).trans E0.out))
                clear hK K hHeld
                have hHeld := hNew
                clear hNew
                refine wpAnyH_ready (rs := [15]) (by kernel_rfl) (by simp) ?_
                refine (AllReadyH.cons (o := { dst := some 50, op := Go.Op.call { callee := Go.Callee.value (Go.Operand.func 10), args := #[Go.Operand.tmp 43, Go.Operand.tmp 49], argTypes := #[27, 5] }, type := 27, pos := "law.go:25", after := #[{ on := 8, ground := Go.Ground.data }, { on := 14, ground := Go.Ground.data }, { on := 7, ground := Go.Ground.chain }], guard := none }) rfl (fun K hK => ?_) AllReadyH.nil)
                · skip
                  go_simp
                  with_reducible refine (RWC.out _).mono ?_
                  rintro q_ u8 ⟨rfl, hb⟩
                  have B8 := Lib.hid (vian HN.out B7.out hb)
                  have P8 := Lib.hid (P7.out.below hb)
                  have R8 := Lib.hid (R7.out.below hb)
                  clear hb
                  clear B7 P7 R7
                  refine hK.out _ _ ?s27 (fun hNew => ?r27)
                  case s27 => exact (((B8.out.cell (p := ⟨qb, qo + t, none⟩) QQ.out).trans E0.out))
                  clear hK K hHeld
                  have hHeld := hNew
                  clear hNew
                  refine wpAnyH_ready (rs := [16]) (by kernel_rfl) (by simp) ?_
                  refine (AllReadyH.cons (o := { dst := none, op := Go.Op.store 26 (Go.Operand.tmp 5) (Go.Operand.tmp 42), type := 0, pos := "law.go:25", after := #[{ on := 7, ground := Go.Ground.data }, { on := 15, ground := Go.Ground.chain }, { on := 0, ground := Go.Ground.phase }, { on := 1, ground := Go.Ground.phase }, { on := 2, ground := Go.Ground.phase }, { on := 3, ground := Go.Ground.phase }, { on := 4, ground := Go.Ground.phase }, { on := 5, ground := Go.Ground.phase }, { on := 6, ground := Go.Ground.phase }, { on := 7, ground := Go.Ground.phase }, { on := 8, ground := Go.Ground.textOnly Go.Departure.lateStores }, { on := 9, ground := Go.Ground.textOnly Go.Departure.lateStores }, { on := 10, ground := Go.Ground.textOnly Go.Departure.lateStores }, { on := 11, ground := Go.Ground.textOnly Go.Departure.lateStores }, { on := 12, ground := Go.Ground.textOnly Go.Departure.lateStores }, { on := 13, ground := Go.Ground.textOnly Go.Departure.lateStores }, { on := 14, ground := Go.Ground.textOnly Go.Departure.lateStores }, { on := 15, ground := Go.Ground.textOnly Go.Departure.lateStoresUnsure }], guard := none }) rfl (fun K hK => ?_) AllReadyH.nil)
                  · skip
                    obtain ⟨hc, hfz⟩ := P8.out.out
                    go_simp
                    clear hc hfz
                    have P9 := Lib.hid (P8.out.put2 (.int .u8 x) (.int .i64 160))
                    have R9 := Lib.hid (R8.out.far2 NPR.out.symm (.int .u8 x) (.int .i64 160))
                    have B9 := Lib.hid (set2 B8.out pb LP.out (.int .u8 x) (.int .i64 160))
                    clear B8 P8 R8
                    refine hK.out _ _ ?s28 (fun hNew => ?r28)
                    case s28 => exact (((B9.out.cell (p := ⟨qb, qo + t, none⟩) QQ.out).trans E0.out))
                    clear hK K hHeld
                    have hHeld := hNew
                    clear hNew
                    generalize (World.setCell (World.setCell _ ⟨pb, 0, none⟩ _) ⟨pb, 1, none⟩ _) = u9 at hHeld B9 P9 R9 ⊢
                    refine wpAnyH_ready (rs := [17]) (by kernel_rfl) (by simp) ?_
                    refine (AllReadyH.cons (o := { dst := none, op := Go.Op.store 27 (Go.Operand.tmp 6) (Go.Operand.tmp 50), type := 0, pos := "law.go:25", after := #[{ on := 15, ground := Go.Ground.data }, { on := 16, ground := Go.Ground.chain }, { on := 0, ground := Go.Ground.phase }, { on := 1, ground := Go.Ground.phase }, { on := 2, ground := Go.Ground.phase }, { on := 3, ground := Go.Ground.phase }, { on := 4, ground := Go.Ground.phase }, { on := 5, ground := Go.Ground.phase }, { on := 6, ground := Go.Ground.phase }, { on := 7, ground := Go.Ground.phase }, { on := 8, ground := Go.Ground.phase }, { on := 9, ground := Go.Ground.phase }, { on := 10, ground := Go.Ground.phase }, { on := 11, ground := Go.Ground.phase }, { on := 12, ground := Go.Ground.phase }, { on := 13, ground := Go.Ground.phase }, { on := 14, ground := Go.Ground.phase }, { on := 15, ground := Go.Ground.phase }, { on := 16, ground := Go.Ground.phase }], guard := none }) rfl (fun K hK => ?_) AllReadyH.nil)
                    · skip
                      obtain ⟨hc, hfz⟩ := R9.out.out
                      go_simp
                      clear hc hfz
                      have R10 := Lib.hid (R9.out.put2 (.int .u8 x) (.int .i64 160))
                      have P10 := Lib.hid (P9.out.far2 NPR.out (.int .u8 x) (.int .i64 160))
                      have B10 := Lib.hid (set2 B9.out rb LR.out (.int .u8 x) (.int .i64 160))
                      clear B9 P9 R9
                      refine hK.out _ _ ?s29 (fun hNew => ?r29)
                      case s29 => exact (((B10.out.cell (p := ⟨qb, qo + t, none⟩) QQ.out).trans E0.out))
                      clear hK K hHeld
                      have hHeld := hNew
                      clear hNew
                      generalize (World.setCell (World.setCell _ ⟨rb, 0, none⟩ _) ⟨rb, 1, none⟩ _) = u10 at hHeld B10 P10 R10 ⊢
                      refine wpAnyH_done (by kernel_rfl) ?_ _
                      clear hHeld
                      go_wp2
                      go_meet
                      exact ⟨⟨x, 160⟩, OK2.out, B10.out, P10.out, R10.out⟩
      case rest =>
        obtain ⟨m', hok', hB, hP, hR⟩ := hcut
        have OK' := Lib.hid hok'
        have B4 := Lib.hid hB
        have P4 := Lib.hid hP
        have R4 := Lib.hid hR
        clear hok' hB hP hR B3 P3 R3 OK
        have e0 := (B4.out.cell (p := ⟨qb, qo + t, none⟩) QQ.out).trans E0.out
        have eN := EN.out
        go_upto_region 10 with (fail)
        rw [eN]
        clear e0 eN E0 QQ
        go_wp2
        go_loopg [56] N (fun g' i wr => ∃ (s : Nat) (m' : CV), s ≤ N ∧ g' + s = N ∧ i = .int .u16 s ∧ m'.ok ∧ Below n_ W0 wr ∧ Has wr pb #[.int .u8 m'.p, .int .i64 m'.l] ∧ Has wr rb #[.int .u8 m'.p, .int .i64 m'.l])
        case atStart => exact ⟨0, m', by omega, by omega, rfl, OK'.out, B4.out, P4.out, R4.out⟩
        case round =>
          obtain ⟨w5, hw5⟩ : ∃ q_, q_ = wr := ⟨_, rfl⟩
          subst hw5
          obtain ⟨s, m1, hs, hg, rfl, hok, hB, hP, hR⟩ := hrel
          have SG := Lib.hid hg
          have OK1 := Lib.hid hok
          have B5 := Lib.hid hB
          have P5 := Lib.hid hP
          have R5 := Lib.hid hR
          clear hg hok hB hP hR B4 P4 R4 OK'
          by_cases hls : s < N
          · have l2 : (s : Int) < N := by omega
            have l3 : IntKind.u16.wrap ((s : Int) + 1) = (s : Int) + 1 := by rw [IntKind.wrap_u16]; omega
            obtain ⟨m2, hm2⟩ : ∃ q_, tickV m1 = q_ := ⟨_, rfl⟩
            obtain ⟨fr, hfr⟩ : ∃ q_, fromV m1 = q_ := ⟨_, rfl⟩
            obtain ⟨nu, hnu⟩ : ∃ q_, numV m1 = q_ := ⟨_, rfl⟩
            obtain ⟨ir, hir⟩ : ∃ q_, busyV m1 = q_ := ⟨_, rfl⟩
            have TC := Lib.hid (fun W => tick_c m1 m2 fr nu ir OK1.out hm2 hfr hnu hir W)
            have RTC := Lib.hid (fun W => rtick_c m1 m2 fr nu ir OK1.out hm2 hfr hnu hir W)
            have OK2 := Lib.hid (show m2.ok from hm2 ▸ tick_ok OK1.out)
            clear hm2 hfr hnu hir OK1
            obtain ⟨hc, hf⟩ := P5.out.out
            go_wp2_with fail
            with_reducible refine (TC.out _).mono ?_
            rintro q_ w6 ⟨rfl, hb⟩
            clear hc hf
            have B6 := Lib.hid (vian HN.out B5.out hb)
            have P6 := Lib.hid (P5.out.below hb)
            have R6 := Lib.hid (R5.out.below hb)
            clear hb B5 P5 R5
            have B7 := Lib.hid (set2 B6.out pb LP.out (.int .u8 m2.p) (.int .i64 m2.l))
            have P7 := Lib.hid (P6.out.put2 (.int .u8 m2.p) (.int .i64 m2.l))
            have R7 := Lib.hid (R6.out.far2 NPR.out.symm (.int .u8 m2.p) (.int .i64 m2.l))
            obtain ⟨hc, hf⟩ := P6.out.out
            go_upto_region 15 with (fail)
            clear hc hf B6 P6 R6
            generalize (World.setCell (World.setCell w6 ⟨pb, 0, none⟩ (.int .u8 m2.p)) ⟨pb, 1, none⟩ (.int .i64 m2.l)) = w7 at B7 P7 R7 ⊢
            obtain ⟨hc, hf⟩ := R7.out.out
            go_wp2_with fail
            with_reducible refine (RTC.out _).mono ?_
            rintro q_ w8 ⟨rfl, hb⟩
            clear hc hf
            have B8 := Lib.hid (vian HN.out B7.out hb)
            have P8 := Lib.hid (P7.out.below hb)
            have R8 := Lib.hid (R7.out.below hb)
            clear hb B7 P7 R7
            have B9 := Lib.hid (set2 B8.out rb LR.out (.int .u8 m2.p) (.int .i64 m2.l))
            have R9 := Lib.hid (R8.out.put2 (.int .u8 m2.p) (.int .i64 m2.l))
            have P9 := Lib.hid (P8.out.far2 NPR.out (.int .u8 m2.p) (.int .i64 m2.l))
            obtain ⟨hc, hf⟩ := R8.out.out
            go_upto_region 16 with (fail)
            clear hc hf B8 P8 R8
            generalize (World.setCell (World.setCell w8 ⟨rb, 0, none⟩ (.int .u8 m2.p)) ⟨rb, 1, none⟩ (.int .i64 m2.l)) = w9 at B9 P9 R9 ⊢
            obtain ⟨hc, hf⟩ := P9.out.out
            obtain ⟨hc1, hf1⟩ := R9.out.out
            go_wp2
            clear hc hf hc1 hf1
            go_roundg (N - (s + 1))
            · exact ⟨s + 1, m2, by omega, by omega, by simp, OK2.out, B9.out, P9.out, R9.out⟩
            case measure => have := SG.out; omega
          · have et : s = N := by omega
            subst et
            obtain ⟨bb, hbb⟩ : ∃ q_, decide (0 < m1.l) = q_ := ⟨_, rfl⟩
            obtain ⟨ss, hss⟩ : ∃ q_, letsV m1 r = q_ := ⟨_, rfl⟩
            have BC := Lib.hid (fun W => busy_c m1 bb hbb W)
            have LC := Lib.hid (fun W => lets_c m1 r ss RR.out.1 RR.out.2 hss W)
            have RLC := Lib.hid (fun W => rlets_c m1 r ss RR.out.1 RR.out.2 hss W)
            clear hss
            go_upto_region 19 with (fail)
            have B6 := Lib.hid B5.out.drew
            have P6 := Lib.hid P5.out.drew
            have R6 := Lib.hid R5.out.drew
            clear B5 P5 R5
            refine wp_region_held_drew (S := (fun w' => (∀ o, w'.cell? ⟨pb, o, none⟩ = #[.int .u8 m1.p, .int .i64 m1.l][o]?) ∧ (∀ o, w'.cell? ⟨rb, o, none⟩ = #[.int .u8 m1.p, .int .i64 m1.l][o]?))) (by kernel_rfl) ⟨P6.out.2.1, R6.out.2.1⟩ (fun hHeld => ?_)
            generalize World.drew w5 = u6 at hHeld B6 P6 R6 ⊢
            refine wpAnyH_take (i := 0) (oi := { dst := some 91, op := Go.Op.load 26 (Go.Operand.tmp 5), type := 26, pos := "law.go:37", after := #[], guard := none }) (v := ?v30) rfl (by kernel_rfl) (by kernel_rfl) (by kernel_rfl) (fun _ _ _ h => h) (Or.inl ⟨by rfl, ?y30⟩) (by assumption) ?z30
            case y30 => (intro w hSw; (try dsimp only at hSw); go_simp) <;> with_reducible rfl
            try simp only [Act.put, List.setIfInBounds_toArray, List.set_cons_zero, List.set_cons_succ]
            refine wpAnyH_take (i := 1) (oi := { dst := some 92, op := Go.Op.load 27 (Go.Operand.tmp 6), type := 27, pos := "law.go:37", after := #[], guard := none }) (v := ?v31) rfl (by kernel_rfl) (by kernel_rfl) (by kernel_rfl) (fun _ _ _ h => h) (Or.inl ⟨by rfl, ?y31⟩) (by assumption) ?z31
            case y31 => (intro w hSw; (try dsimp only at hSw); go_simp) <;> with_reducible rfl
            try simp only [Act.put, List.setIfInBounds_toArray, List.set_cons_zero, List.set_cons_succ]
            refine wpAnyH_take (i := 2) (oi := { dst := some 93, op := Go.Op.binOp Go.BinOp.neq 27 (Go.Operand.tmp 91) (Go.Operand.tmp 92) 27, type := 4, pos := "law.go:37", after := #[{ on := 0, ground := Go.Ground.data }, { on := 1, ground := Go.Ground.data }], guard := none }) (v := ?v32) rfl (by kernel_rfl) (by kernel_rfl) (by kernel_rfl) (fun _ _ _ h => h) (Or.inl ⟨by rfl, ?y32⟩) (by assumption) ?z32
            case y32 => (intro w hSw; (try dsimp only at hSw); go_simp) <;> with_reducible rfl
            try simp only [Act.put, List.setIfInBounds_toArray, List.set_cons_zero, List.set_cons_succ]
            refine wpAnyH_take (i := 3) (oi := { dst := some 94, op := Go.Op.move (Go.Operand.tmp 93), type := 4, pos := "law.go:37", after := #[{ on := 2, ground := Go.Ground.data }], guard := none }) (v := ?v33) rfl (by kernel_rfl) (by kernel_rfl) (by kernel_rfl) (fun _ _ _ h => h) (Or.inl ⟨by rfl, ?y33⟩) (by assumption) ?z33
            case y33 => (intro w hSw; (try dsimp only at hSw); go_simp) <;> with_reducible rfl
            try simp only [Act.put, List.setIfInBounds_toArray, List.set_cons_zero, List.set_cons_succ]
            refine wpAnyH_take (i := 4) (oi := { dst := some 95, op := Go.Op.load 26 (Go.Operand.tmp 5), type := 26, pos := "law.go:37", after := #[{ on := 3, ground := Go.Ground.guard }], guard := some (3, false) }) (v := ?v34) rfl (by kernel_rfl) (by kernel_rfl) (by kernel_rfl) (fun _ _ _ h => h) (Or.inl ⟨by rfl, ?y34⟩) (by assumption) ?z34
            case y34 => (intro w hSw; (try dsimp only at hSw); go_simp) <;> with_reducible rfl
            try simp only [Act.put, List.setIfInBounds_toArray, List.set_cons_zero, List.set_cons_succ]
            refine wpAnyH_take (i := 6) (oi := { dst := some 97, op := Go.Op.fieldAddr 27 (Go.Operand.tmp 6) 1, type := 0, pos := "law.go:37", after := #[{ on := 3, ground := Go.Ground.guard }], guard := some (3, false) }) (v := ?v35) rfl (by kernel_rfl) (by kernel_rfl) (by kernel_rfl) (fun _ _ _ h => h) (Or.inl ⟨by rfl, ?y35⟩) (by assumption) ?z35
            case y35 => (intro w hSw; (try dsimp only at hSw); go_simp) <;> with_reducible rfl
            try simp only [Act.put, List.setIfInBounds_toArray, List.set_cons_zero, List.set_cons_succ]
            refine wpAnyH_take (i := 7) (oi := { dst := some 98, op := Go.Op.load 3 (Go.Operand.tmp 97), type := 3, pos := "law.go:37", after := #[{ on := 6, ground := Go.Ground.data }, { on := 3, ground := Go.Ground.guard }], guard := some (3, false) }) (v := ?v36) rfl (by kernel_rfl) (by kernel_rfl) (by kernel_rfl) (fun _ _ _ h => h) (Or.inl ⟨by rfl, ?y36⟩) (by assumption) ?z36
            case y36 => (intro w hSw; (try dsimp only at hSw); go_simp) <;> with_reducible rfl
            try simp only [Act.put, List.setIfInBounds_toArray, List.set_cons_zero, List.set_cons_succ]
            refine wpAnyH_take (i := 8) (oi := { dst := some 99, op := Go.Op.binOp Go.BinOp.gtr 3 (Go.Operand.tmp 98) (Go.Operand.const (Go.Value.int Go.IntKind.i64 0)) 3, type := 4, pos := "law.go:37", after := #[{ on := 7, ground := Go.Ground.data }, { on := 3, ground := Go.Ground.guard }], guard := some (3, false) }) (v := ?v37) rfl (by kernel_rfl) (by kernel_rfl) (by kernel_rfl) (fun _ _ _ h => h) (Or.inl ⟨by rfl, ?y37⟩) (by assumption) ?z37
            case y37 => (intro w hSw; (try dsimp only at hSw); go_simp) <;> with_reducible rfl
            try simp only [Act.put, List.setIfInBounds_toArray, List.set_cons_zero, List.set_cons_succ]
            refine wpAnyH_ready (rs := [5]) (by kernel_rfl) (by simp) ?_
            refine (AllReadyH.cons (o := { dst := some 96, op := Go.Op.call { callee := Go.Callee.value (Go.Operand.func 13), args := #[Go.Operand.tmp 95], argTypes := #[26] }, type := 4, pos := "law.go:37", after := #[{ on := 4, ground := Go.Ground.data }, { on := 3, ground := Go.Ground.chain }, { on := 3, ground := Go.Ground.guard }], guard := some (3, false) }) rfl (fun K hK => ?_) AllReadyH.nil)
            · skip
              go_simp
              with_reducible refine (BC.out _).mono ?_
              rintro q_ u7 ⟨rfl, hb⟩
              have B7 := Lib.hid (vian HN.out B6.out hb)
              have P7 := Lib.hid (P6.out.below hb)
              have R7 := Lib.hid (R6.out.below hb)
              clear hb
              clear B6 P6 R6
              refine hK.out _ _ ?s38 (fun hNew => ?r38)
              case s38 => exact ⟨P7.out.2.1, R7.out.2.1⟩
              clear hK K hHeld
              have hHeld := hNew
              clear hNew
              refine wpAnyH_take (i := 9) (oi := { dst := some 100, op := Go.Op.binOp Go.BinOp.neq 4 (Go.Operand.tmp 96) (Go.Operand.tmp 99) 4, type := 4, pos := "law.go:37", after := #[{ on := 5, ground := Go.Ground.data }, { on := 8, ground := Go.Ground.data }, { on := 3, ground := Go.Ground.guard }], guard := some (3, false) }) (v := ?v39) rfl (by kernel_rfl) (by kernel_rfl) (by kernel_rfl) (fun _ _ _ h => h) (Or.inl ⟨by rfl, ?y39⟩) (by assumption) ?z39
              case y39 => (intro w hSw; (try dsimp only at hSw); go_simp) <;> with_reducible rfl
              try simp only [Act.put, List.setIfInBounds_toArray, List.set_cons_zero, List.set_cons_succ]
              refine wpAnyH_take (i := 10) (oi := { dst := some 101, op := Go.Op.pick (Go.Operand.tmp 94) (Go.Operand.const (Go.Value.bool true)) (Go.Operand.tmp 100), type := 4, pos := "law.go:37", after := #[{ on := 3, ground := Go.Ground.data }, { on := 9, ground := Go.Ground.data }], guard := none }) (v := ?v40) rfl (by kernel_rfl) (by kernel_rfl) (by kernel_rfl) (fun _ _ _ h => h) (Or.inl ⟨by rfl, ?y40⟩) (by assumption) ?z40
              case y40 => (intro w hSw; (try dsimp only at hSw); go_simp) <;> with_reducible rfl
              try simp only [Act.put, List.setIfInBounds_toArray, List.set_cons_zero, List.set_cons_succ]
              refine wpAnyH_take (i := 11) (oi := { dst := some 102, op := Go.Op.move (Go.Operand.tmp 101), type := 4, pos := "law.go:37", after := #[{ on := 10, ground := Go.Ground.data }, { on := 5, ground := Go.Ground.chain }], guard := none }) (v := ?v41) rfl (by kernel_rfl) (by kernel_rfl) (by kernel_rfl) (fun _ _ _ h => h) (Or.inl ⟨by rfl, ?y41⟩) (by assumption) ?z41
              case y41 => (intro w hSw; (try dsimp only at hSw); go_simp) <;> with_reducible rfl
              try simp only [Act.put, List.setIfInBounds_toArray, List.set_cons_zero, List.set_cons_succ]
              refine wpAnyH_take (i := 12) (oi := { dst := some 103, op := Go.Op.load 26 (Go.Operand.tmp 5), type := 26, pos := "law.go:37", after := #[{ on := 11, ground := Go.Ground.guard }], guard := some (11, false) }) (v := ?v42) rfl (by kernel_rfl) (by kernel_rfl) (by kernel_rfl) (fun _ _ _ h => h) (Or.inl ⟨by rfl, ?y42⟩) (by assumption) ?z42
              case y42 => (intro w hSw; (try dsimp only at hSw); go_simp) <;> with_reducible rfl
              try simp only [Act.put, List.setIfInBounds_toArray, List.set_cons_zero, List.set_cons_succ]
              refine wpAnyH_take (i := 13) (oi := { dst := some 104, op := Go.Op.move (Go.Operand.tmp 1), type := 23, pos := "law.go:37", after := #[{ on := 11, ground := Go.Ground.guard }], guard := some (11, false) }) (v := ?v43) rfl (by kernel_rfl) (by kernel_rfl) (by kernel_rfl) (fun _ _ _ h => h) (Or.inl ⟨by rfl, ?y43⟩) (by assumption) ?z43
              case y43 => (intro w hSw; (try dsimp only at hSw); go_simp) <;> with_reducible rfl
              try simp only [Act.put, List.setIfInBounds_toArray, List.set_cons_zero, List.set_cons_succ]
              refine wpAnyH_take (i := 15) (oi := { dst := some 106, op := Go.Op.load 27 (Go.Operand.tmp 6), type := 27, pos := "law.go:37", after := #[{ on := 11, ground := Go.Ground.guard }], guard := some (11, false) }) (v := ?v44) rfl (by kernel_rfl) (by kernel_rfl) (by kernel_rfl) (fun _ _ _ h => h) (Or.inl ⟨by rfl, ?y44⟩) (by assumption) ?z44
              case y44 => (intro w hSw; (try dsimp only at hSw); go_simp) <;> with_reducible rfl
              try simp only [Act.put, List.setIfInBounds_toArray, List.set_cons_zero, List.set_cons_succ]
              refine wpAnyH_take (i := 16) (oi := { dst := some 107, op := Go.Op.move (Go.Operand.tmp 1), type := 23, pos := "law.go:37", after := #[{ on := 11, ground := Go.Ground.guard }], guard := some (11, false) }) (v := ?v45) rfl (by kernel_rfl) (by kernel_rfl) (by kernel_rfl) (fun _ _ _ h => h) (Or.inl ⟨by rfl, ?y45⟩) (by assumption) ?z45
              case y45 => (intro w hSw; (try dsimp only at hSw); go_simp) <;> with_reducible rfl
              try simp only [Act.put, List.setIfInBounds_toArray, List.set_cons_zero, List.set_cons_succ]
              refine wpAnyH_ready (rs := [14]) (by kernel_rfl) (by simp) ?_
              refine (AllReadyH.cons (o := { dst := some 105, op := Go.Op.call { callee := Go.Callee.value (Go.Operand.func 14), args := #[Go.Operand.tmp 103, Go.Operand.tmp 104], argTypes := #[26, 23] }, type := 4, pos := "law.go:37", after := #[{ on := 12, ground := Go.Ground.data }, { on := 13, ground := Go.Ground.data }, { on := 11, ground := Go.Ground.chain }, { on := 11, ground := Go.Ground.guard }], guard := some (11, false) }) rfl (fun K hK => ?_) AllReadyH.nil)
              · skip
                go_simp
                with_reducible refine (LC.out _).mono ?_
                rintro q_ u8 ⟨rfl, hb⟩
                have B8 := Lib.hid (vian HN.out B7.out hb)
                have P8 := Lib.hid (P7.out.below hb)
                have R8 := Lib.hid (R7.out.below hb)
                clear hb
                clear B7 P7 R7
                refine hK.out _ _ ?s46 (fun hNew => ?r46)
                case s46 => exact ⟨P8.out.2.1, R8.out.2.1⟩
                clear hK K hHeld
                have hHeld := hNew
                clear hNew
                refine wpAnyH_ready (rs := [17]) (by kernel_rfl) (by simp) ?_
                refine (AllReadyH.cons (o := { dst := some 108, op := Go.Op.call { callee := Go.Callee.value (Go.Operand.func 15), args := #[Go.Operand.tmp 106, Go.Operand.tmp 107], argTypes := #[27, 23] }, type := 4, pos := "law.go:37", after := #[{ on := 15, ground := Go.Ground.data }, { on := 16, ground := Go.Ground.data }, { on := 14, ground := Go.Ground.chain }, { on := 11, ground := Go.Ground.guard }], guard := some (11, false) }) rfl (fun K hK => ?_) AllReadyH.nil)
                · skip
                  go_simp
                  with_reducible refine (RLC.out _).mono ?_
                  rintro q_ u9 ⟨rfl, hb⟩
                  have B9 := Lib.hid (vian HN.out B8.out hb)
                  have P9 := Lib.hid (P8.out.below hb)
                  have R9 := Lib.hid (R8.out.below hb)
                  clear hb
                  clear B8 P8 R8
                  refine hK.out _ _ ?s47 (fun hNew => ?r47)
                  case s47 => exact ⟨P9.out.2.1, R9.out.2.1⟩
                  clear hK K hHeld
                  have hHeld := hNew
                  clear hNew
                  refine wpAnyH_take (i := 18) (oi := { dst := some 109, op := Go.Op.binOp Go.BinOp.neq 4 (Go.Operand.tmp 105) (Go.Operand.tmp 108) 4, type := 4, pos := "law.go:37", after := #[{ on := 14, ground := Go.Ground.data }, { on := 17, ground := Go.Ground.data }, { on := 11, ground := Go.Ground.guard }], guard := some (11, false) }) (v := ?v48) rfl (by kernel_rfl) (by kernel_rfl) (by kernel_rfl) (fun _ _ _ h => h) (Or.inl ⟨by rfl, ?y48⟩) (by assumption) ?z48
                  case y48 => (intro w hSw; (try dsimp only at hSw); go_simp) <;> with_reducible rfl
                  try simp only [Act.put, List.setIfInBounds_toArray, List.set_cons_zero, List.set_cons_succ]
                  refine wpAnyH_take (i := 19) (oi := { dst := some 110, op := Go.Op.pick (Go.Operand.tmp 102) (Go.Operand.const (Go.Value.bool true)) (Go.Operand.tmp 109), type := 4, pos := "law.go:37", after := #[{ on := 11, ground := Go.Ground.data }, { on := 18, ground := Go.Ground.data }], guard := none }) (v := ?v49) rfl (by kernel_rfl) (by kernel_rfl) (by kernel_rfl) (fun _ _ _ h => h) (Or.inl ⟨by rfl, ?y49⟩) (by assumption) ?z49
                  case y49 => (intro w hSw; (try dsimp only at hSw); go_simp) <;> with_reducible rfl
                  try simp only [Act.put, List.setIfInBounds_toArray, List.set_cons_zero, List.set_cons_succ]
                  refine wpAnyH_done (by kernel_rfl) ?_ _
                  clear hHeld
                  go_wp2
                  go_roundg (n - (t + 1))
                  · exact ⟨t + 1, m1, by omega, by omega, by simp, OK1.out, B9.out, P9.out, R9.out⟩
                  case measure => have := TG.out; omega
    · have et : t = n := by omega
      subst et
      go_wp2
      go_ret
      exact ⟨rfl, B3.out⟩
theorem plays_walk (v : Value) (r : Int) (r0 : 0 ≤ r) (r1 : r < 65536) (w : World) (h : NumsIn w v) : Calls Try.prog 3 #[v, .int .u16 r] w fun q_ w' => q_ = .returned (.bool true) ∧ Below w.heap.size w w' := by
  obtain ⟨a, n, c, rfl, hm, f, hh, hi⟩ := h
  by_cases h0 : 100 < n
  · exact plays_long a n c r h0 w
  · exact plays_some f hh a n c r r0 r1 h0 w hi
end Go.Proofs.Ytnfjgofmfaadnaa
