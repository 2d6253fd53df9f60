/-
  The walk through ClockPlays: for every world in which the calls lie as told; no other condition.
-/
import Derived.Test.YtkpjoongbckhcaaOpn
import Derived.Deep.Cut
import Derived.Deep.LoopGhost
import Derived.Laws.StructEq
import Derived.Laws.Tables
import Derived.Laws.Cover2
namespace Go.Proofs.Ytkpjoongbckhcaa
open Go.ChangeShapes Go.WideShapes Go.ChangeAt Go.RowKit
set_option linter.unusedVariables false
set_option linter.unusedSimpArgs false
set_option maxRecDepth 100000
set_option maxHeartbeats 2000000 in
theorem plays_long  (a : Option Addr) (n c : Nat) (h0 : 60 < n) (w : World) : Calls Try.prog 3 #[.slice a n c] w fun q_ w' => q_ = .returned (.bool true) ∧ Below w.heap.size w w' := by
  suffices hall : ∀ (n_ : Nat) (W0 : World), n_ ≤ W0.heap.size → Below n_ W0 w → Calls Try.prog 3 #[.slice a n c] w fun q_ w' => q_ = .returned (.bool true) ∧ Below n_ W0 w' from hall _ _ (Nat.le_refl _) (Below.refl _ _)
  intro n_ W0 hn hB
  have HN := Lib.hid hn
  have BB := Lib.hid hB
  clear hn hB
  have AW := Lib.hid awake_c
  have h0I : (60 : Int) < n := by omega
  have hnot : ∀ (x : Bool) (w : World), (Op.unary .not (.bool x)).run Try.prog w = .ok (.bool (!x)) w := fun _ _ => rfl
  go_enter Try.func3, Try.ntmps3
  go_wp2_with fail
  with_reducible refine (AW.out _).mono ?_
  rintro q_ w1 ⟨rfl, hb⟩
  have B1 := Lib.hid (vian HN.out BB.out hb)
  clear hb
  go_wp2_with fail
  with_reducible refine (AW.out _).mono ?_
  rintro q_ w2 ⟨rfl, hb⟩
  have B2 := Lib.hid (vian HN.out B1.out hb)
  clear hb
  go_wp2
  go_ret
  exact ⟨rfl, B2.out⟩
set_option maxHeartbeats 8000000 in
theorem plays_some  (a : Option Addr) (n c : Nat) (h0 : ¬ 60 < n) (f g h : Nat → Int) (hh : ∀ i, 0 ≤ h i ∧ h i < 256) (w : World) (hmem : (0 < n → ∃ qb qo, a = some ⟨qb, qo, none⟩ ∧ qb < w.heap.size ∧ ∀ j, j < n → w.cell? ⟨qb, qo + j * 3, none⟩ = some (.int .i64 (f j)) ∧ w.cell? ⟨qb, qo + j * 3 + 1, none⟩ = some (.int .i64 (g j)) ∧ w.cell? ⟨qb, qo + j * 3 + 2, none⟩ = some (.int .u8 (h j)))) : Calls Try.prog 3 #[.slice a n c] w fun q_ w' => q_ = .returned (.bool true) ∧ Below w.heap.size w w' := by
  suffices hall : ∀ (n_ : Nat) (W0 : World), n_ ≤ W0.heap.size → Below n_ W0 w → (0 < n → ∃ qb qo, a = some ⟨qb, qo, none⟩ ∧ qb < n_ ∧ ∀ j, j < n → W0.cell? ⟨qb, qo + j * 3, none⟩ = some (.int .i64 (f j)) ∧ W0.cell? ⟨qb, qo + j * 3 + 1, none⟩ = some (.int .i64 (g j)) ∧ W0.cell? ⟨qb, qo + j * 3 + 2, none⟩ = some (.int .u8 (h j))) → Calls Try.prog 3 #[.slice a n c] w fun q_ w' => q_ = .returned (.bool true) ∧ Below n_ W0 w' from hall _ _ (Nat.le_refl _) (Below.refl _ _) hmem
  intro n_ W0 hn hB hI
  have HN := Lib.hid hn
  have BB := Lib.hid hB
  have HIN := Lib.hid hI
  have HH := Lib.hid hh
  clear hn hB hI hmem hh
  have h0I : ¬ (60 : Int) < n := by omega
  have AW := Lib.hid awake_c
  have hnot : ∀ (x : Bool) (w : World), (Op.unary .not (.bool x)).run Try.prog w = .ok (.bool (!x)) w := fun _ _ => rfl
  go_enter Try.func3, Try.ntmps3
  go_wp2_with fail
  with_reducible refine (AW.out _).mono ?_
  rintro q_ w1 ⟨rfl, hb⟩
  have B1 := Lib.hid (vian HN.out BB.out hb)
  clear hb
  have Q_ := own2 w1 (.cells #[.int .u8 0, .int .u8 0, .int .u8 0, .int .i64 0, .int .i64 0, .bool false, .bool false, .int .u8 0, .int .u8 0, .int .u8 0, .int .u8 0, .int .u8 0] 26) (.cells #[.int .u8 0, .int .u8 0, .int .u8 0, .int .i64 0, .int .i64 0, .bool false, .bool false, .int .u8 0, .int .u8 0, .int .u8 0, .int .u8 0, .int .u8 0] 27)
  have B2 := Lib.hid (vian HN.out B1.out Q_)
  have P2 := Lib.hid ((Has.new w1 #[.int .u8 0, .int .u8 0, .int .u8 0, .int .i64 0, .int .i64 0, .bool false, .bool false, .int .u8 0, .int .u8 0, .int .u8 0, .int .u8 0, .int .u8 0] 26).alloc (.cells #[.int .u8 0, .int .u8 0, .int .u8 0, .int .i64 0, .int .i64 0, .bool false, .bool false, .int .u8 0, .int .u8 0, .int .u8 0, .int .u8 0, .int .u8 0] 27))
  have R2 := Lib.hid (show Has ((w1.alloc (.cells #[.int .u8 0, .int .u8 0, .int .u8 0, .int .i64 0, .int .i64 0, .bool false, .bool false, .int .u8 0, .int .u8 0, .int .u8 0, .int .u8 0, .int .u8 0] 26)).alloc (.cells #[.int .u8 0, .int .u8 0, .int .u8 0, .int .i64 0, .int .i64 0, .bool false, .bool false, .int .u8 0, .int .u8 0, .int .u8 0, .int .u8 0, .int .u8 0] 27)) (w1.heap.size + 1) #[.int .u8 0, .int .u8 0, .int .u8 0, .int .i64 0, .int .i64 0, .bool false, .bool false, .int .u8 0, .int .u8 0, .int .u8 0, .int .u8 0, .int .u8 0] by simpa using Has.new (w1.alloc (.cells #[.int .u8 0, .int .u8 0, .int .u8 0, .int .i64 0, .int .i64 0, .bool false, .bool false, .int .u8 0, .int .u8 0, .int .u8 0, .int .u8 0, .int .u8 0] 26)) #[.int .u8 0, .int .u8 0, .int .u8 0, .int .i64 0, .int .i64 0, .bool false, .bool false, .int .u8 0, .int .u8 0, .int .u8 0, .int .u8 0, .int .u8 0] 27)
  have LP := Lib.hid (show n_ ≤ w1.heap.size from Nat.le_trans HN.out B1.out.size)
  have LR := Lib.hid (show n_ ≤ w1.heap.size + 1 from Nat.le_succ_of_le (Nat.le_trans HN.out B1.out.size))
  have NE := Lib.hid (show w1.heap.size ≠ w1.heap.size + 1 by omega)
  clear Q_
  go_upto_region 4 with (fail)
  generalize (w1.alloc (.cells #[.int .u8 0, .int .u8 0, .int .u8 0, .int .i64 0, .int .i64 0, .bool false, .bool false, .int .u8 0, .int .u8 0, .int .u8 0, .int .u8 0, .int .u8 0] 26)).alloc (.cells #[.int .u8 0, .int .u8 0, .int .u8 0, .int .i64 0, .int .i64 0, .bool false, .bool false, .int .u8 0, .int .u8 0, .int .u8 0, .int .u8 0, .int .u8 0] 27) = w2 at B2 P2 R2 ⊢
  generalize w1.heap.size + 1 = rb at R2 LR NE ⊢
  generalize w1.heap.size = pb at P2 LP NE ⊢
  go_wp2
  go_loopg [18] n (fun g' i wr => ∃ (t : Nat) (m : CV), t ≤ n ∧ g' + t = n ∧ i = .int .i64 t ∧ m.ok ∧ Below n_ W0 wr ∧ Has wr pb #[.int .u8 m.s, .int .u8 m.m, .int .u8 m.h, .int .i64 m.day, .int .i64 m.sub, .bool m.halt, .bool m.carry, .int .u8 m.a, .int .u8 m.b, .int .u8 m.c, .int .u8 m.d, .int .u8 m.e] ∧ Has wr rb #[.int .u8 m.s, .int .u8 m.m, .int .u8 m.h, .int .i64 m.day, .int .i64 m.sub, .bool m.halt, .bool m.carry, .int .u8 m.a, .int .u8 m.b, .int .u8 m.c, .int .u8 m.d, .int .u8 m.e])
  case atStart => exact ⟨0, zeroV, by omega, by omega, rfl, zero_ok, B2.out, P2.out, R2.out⟩
  case round =>
    obtain ⟨t, m, ht, hg, rfl, hok, hB, hP, hR⟩ := hrel
    have TG := Lib.hid hg
    have OK := Lib.hid hok
    have B0 := Lib.hid hB.drew
    have P0 := Lib.hid hP.drew
    have R0 := Lib.hid hR.drew
    have TB := Lib.hid hB
    have TP := Lib.hid hP
    have TR := Lib.hid hR
    clear hg hok hB hP hR B2 P2 R2
    by_cases hlt : t < n
    · clear TB TP TR
      have l1 : (t : Int) < n := by omega
      have l0 : (0 : Int) ≤ t := by omega
      obtain ⟨qb, qo, rfl, hqb, hcells⟩ := HIN.out (by omega)
      have QQ := Lib.hid hqb
      have E0 := Lib.hid (hcells t hlt).1
      have E1 := Lib.hid (hcells t hlt).2.1
      have E2 := Lib.hid (hcells t hlt).2.2
      have xb := HH.out t
      generalize f t = kk at E0
      generalize g t = nn at E1
      generalize h t = xx at E2 xb
      clear hcells hqb
      obtain ⟨m', hm'⟩ : ∃ q_, doV m kk nn xx = q_ := ⟨_, rfl⟩
      have DC := Lib.hid (fun W => do_c m m' kk nn xx OK.out xb.1 xb.2 hm' W)
      have RC := Lib.hid (fun W => doc_c m m' kk nn xx OK.out xb.1 xb.2 hm' W)
      have OK' := Lib.hid (show m'.ok from hm' ▸ do_ok OK.out _ _ _ xb)
      obtain ⟨y, hy⟩ : ∃ q_, readV m' nn = q_ := ⟨_, rfl⟩
      have RD := Lib.hid (fun W => read_c m' nn y hy W)
      have RRD := Lib.hid (fun W => rread_c m' nn y hy W)
      clear hm' hy
      go_upto_region 7 with (fail)
      refine wp_region_held_drew (S := (fun w' => (w'.cell? ⟨qb, qo + t * 3, none⟩ = some (.int .i64 kk)) ∧ (w'.cell? ⟨qb, qo + t * 3 + 1, none⟩ = some (.int .i64 nn)) ∧ (w'.cell? ⟨qb, qo + t * 3 + 2, none⟩ = some (.int .u8 xx)))) (by kernel_rfl) ⟨(B0.out.cell (p := ⟨qb, qo + t * 3, none⟩) QQ.out).trans E0.out, (B0.out.cell (p := ⟨qb, qo + t * 3 + 1, none⟩) QQ.out).trans E1.out, (B0.out.cell (p := ⟨qb, qo + t * 3 + 2, none⟩) QQ.out).trans E2.out⟩ (fun hHeld => ?_)
      generalize World.drew wr = u0 at hHeld B0 P0 R0 ⊢
      refine wpAnyH_take (i := 1) (oi := { dst := some 22, op := Go.Op.move (Go.Operand.tmp 0), type := 22, pos := "law.go:56", after := #[], guard := none }) (v := ?v1) rfl (by kernel_rfl) (by kernel_rfl) (by kernel_rfl) (fun _ _ _ h => h) (Or.inl ⟨by rfl, ?y1⟩) (by assumption) ?z1
      case y1 => (intro w hSw; (try dsimp only at hSw); go_simp) <;> with_reducible rfl
      try simp only [Act.put, List.setIfInBounds_toArray, List.set_cons_zero, List.set_cons_succ]
      refine wpAnyH_take (i := 2) (oi := { dst := some 23, op := Go.Op.move (Go.Operand.tmp 5), type := 3, pos := "law.go:56", after := #[], guard := none }) (v := ?v2) rfl (by kernel_rfl) (by kernel_rfl) (by kernel_rfl) (fun _ _ _ h => h) (Or.inl ⟨by rfl, ?y2⟩) (by assumption) ?z2
      case y2 => (intro w hSw; (try dsimp only at hSw); go_simp) <;> with_reducible rfl
      try simp only [Act.put, List.setIfInBounds_toArray, List.set_cons_zero, List.set_cons_succ]
      refine wpAnyH_take (i := 3) (oi := { dst := some 24, op := Go.Op.indexAddr 22 (Go.Operand.tmp 22) (Go.Operand.tmp 23), type := 0, pos := "law.go:56", after := #[{ on := 1, ground := Go.Ground.data }, { on := 2, ground := Go.Ground.data }], guard := none }) (v := ?v3) rfl (by kernel_rfl) (by kernel_rfl) (by kernel_rfl) (fun _ _ _ h => h) (Or.inl ⟨by rfl, ?y3⟩) (by assumption) ?z3
      case y3 => (intro w hSw; (try dsimp only at hSw); go_simp) <;> with_reducible rfl
      try simp only [Act.put, List.setIfInBounds_toArray, List.set_cons_zero, List.set_cons_succ]
      refine wpAnyH_take (i := 4) (oi := { dst := some 25, op := Go.Op.load 30 (Go.Operand.tmp 24), type := 30, pos := "law.go:56", after := #[{ on := 3, ground := Go.Ground.data }], guard := none }) (v := ?v4) rfl (by kernel_rfl) (by kernel_rfl) (by kernel_rfl) (fun _ _ _ h => h) (Or.inl ⟨by rfl, ?y4⟩) (by assumption) ?z4
      case y4 => (intro w hSw; (try dsimp only at hSw); go_simp) <;> with_reducible rfl
      try simp only [Act.put, List.setIfInBounds_toArray, List.set_cons_zero, List.set_cons_succ]
      refine wpAnyH_take (i := 7) (oi := { dst := some 28, op := Go.Op.move (Go.Operand.tmp 0), type := 22, pos := "law.go:56", after := #[], guard := none }) (v := ?v5) rfl (by kernel_rfl) (by kernel_rfl) (by kernel_rfl) (fun _ _ _ h => h) (Or.inl ⟨by rfl, ?y5⟩) (by assumption) ?z5
      case y5 => (intro w hSw; (try dsimp only at hSw); go_simp) <;> with_reducible rfl
      try simp only [Act.put, List.setIfInBounds_toArray, List.set_cons_zero, List.set_cons_succ]
      refine wpAnyH_take (i := 8) (oi := { dst := some 29, op := Go.Op.move (Go.Operand.tmp 5), type := 3, pos := "law.go:56", after := #[], guard := none }) (v := ?v6) rfl (by kernel_rfl) (by kernel_rfl) (by kernel_rfl) (fun _ _ _ h => h) (Or.inl ⟨by rfl, ?y6⟩) (by assumption) ?z6
      case y6 => (intro w hSw; (try dsimp only at hSw); go_simp) <;> with_reducible rfl
      try simp only [Act.put, List.setIfInBounds_toArray, List.set_cons_zero, List.set_cons_succ]
      refine wpAnyH_take (i := 9) (oi := { dst := some 30, op := Go.Op.indexAddr 22 (Go.Operand.tmp 28) (Go.Operand.tmp 29), type := 0, pos := "law.go:56", after := #[{ on := 7, ground := Go.Ground.data }, { on := 8, ground := Go.Ground.data }], guard := none }) (v := ?v7) rfl (by kernel_rfl) (by kernel_rfl) (by kernel_rfl) (fun _ _ _ h => h) (Or.inl ⟨by rfl, ?y7⟩) (by assumption) ?z7
      case y7 => (intro w hSw; (try dsimp only at hSw); go_simp) <;> with_reducible rfl
      try simp only [Act.put, List.setIfInBounds_toArray, List.set_cons_zero, List.set_cons_succ]
      refine wpAnyH_take (i := 10) (oi := { dst := some 31, op := Go.Op.load 30 (Go.Operand.tmp 30), type := 30, pos := "law.go:56", after := #[{ on := 9, ground := Go.Ground.data }], guard := none }) (v := ?v8) rfl (by kernel_rfl) (by kernel_rfl) (by kernel_rfl) (fun _ _ _ h => h) (Or.inl ⟨by rfl, ?y8⟩) (by assumption) ?z8
      case y8 => (intro w hSw; (try dsimp only at hSw); go_simp) <;> with_reducible rfl
      try simp only [Act.put, List.setIfInBounds_toArray, List.set_cons_zero, List.set_cons_succ]
      refine wpAnyH_ready (rs := [0, 6]) (by kernel_rfl) (by simp) ?_
      refine (AllReadyH.cons (o := { dst := some 21, op := Go.Op.load 26 (Go.Operand.tmp 3), type := 26, pos := "law.go:56", after := #[], guard := none }) rfl (fun K hK => ?_) (AllReadyH.cons (o := { dst := some 27, op := Go.Op.load 27 (Go.Operand.tmp 4), type := 27, pos := "law.go:56", after := #[], guard := none }) rfl (fun K hK => ?_) AllReadyH.nil))
      · skip
        obtain ⟨hc, hfz⟩ := P0.out.out
        go_simp
        clear hc hfz
        have B1 := B0
        have P1 := P0
        have R1 := R0
        clear B0 P0 R0
        refine hK.out _ _ ?s9 (fun hNew => ?r9)
        case s9 => exact ⟨(B1.out.cell (p := ⟨qb, qo + t * 3, none⟩) QQ.out).trans E0.out, (B1.out.cell (p := ⟨qb, qo + t * 3 + 1, none⟩) QQ.out).trans E1.out, (B1.out.cell (p := ⟨qb, qo + t * 3 + 2, none⟩) QQ.out).trans E2.out⟩
        clear hK K hHeld
        have hHeld := hNew
        clear hNew
        refine wpAnyH_ready (rs := [5, 6]) (by kernel_rfl) (by simp) ?_
        refine (AllReadyH.cons (o := { dst := some 26, op := Go.Op.call { callee := Go.Callee.value (Go.Operand.func 10), args := #[Go.Operand.tmp 21, Go.Operand.tmp 25], argTypes := #[26, 30] }, type := 26, pos := "law.go:56", after := #[{ on := 0, ground := Go.Ground.data }, { on := 4, ground := Go.Ground.data }], guard := none }) rfl (fun K hK => ?_) (AllReadyH.cons (o := { dst := some 27, op := Go.Op.load 27 (Go.Operand.tmp 4), type := 27, pos := "law.go:56", after := #[], guard := none }) rfl (fun K hK => ?_) AllReadyH.nil))
        · skip
          go_simp
          with_reducible refine (DC.out _).mono ?_
          rintro q_ u2 ⟨rfl, hb⟩
          have B2 := Lib.hid (vian HN.out B1.out hb)
          have P2 := Lib.hid (P1.out.below hb)
          have R2 := Lib.hid (R1.out.below hb)
          clear hb B1 P1 R1
          refine hK.out _ _ ?s10 (fun hNew => ?r10)
          case s10 => exact ⟨(B2.out.cell (p := ⟨qb, qo + t * 3, none⟩) QQ.out).trans E0.out, (B2.out.cell (p := ⟨qb, qo + t * 3 + 1, none⟩) QQ.out).trans E1.out, (B2.out.cell (p := ⟨qb, qo + t * 3 + 2, none⟩) QQ.out).trans E2.out⟩
          clear hK K hHeld
          have hHeld := hNew
          clear hNew
          refine wpAnyH_ready (rs := [6]) (by kernel_rfl) (by simp) ?_
          refine (AllReadyH.cons (o := { dst := some 27, op := Go.Op.load 27 (Go.Operand.tmp 4), type := 27, pos := "law.go:56", after := #[], guard := none }) rfl (fun K hK => ?_) AllReadyH.nil)
          · skip
            obtain ⟨hc, hfz⟩ := R2.out.out
            go_simp
            clear hc hfz
            have B3 := B2
            have P3 := P2
            have R3 := R2
            clear B2 P2 R2
            refine hK.out _ _ ?s11 (fun hNew => ?r11)
            case s11 => exact ⟨(B3.out.cell (p := ⟨qb, qo + t * 3, none⟩) QQ.out).trans E0.out, (B3.out.cell (p := ⟨qb, qo + t * 3 + 1, none⟩) QQ.out).trans E1.out, (B3.out.cell (p := ⟨qb, qo + t * 3 + 2, none⟩) QQ.out).trans E2.out⟩
            clear hK K hHeld
            have hHeld := hNew
            clear hNew
            refine wpAnyH_ready (rs := [11]) (by kernel_rfl) (by simp) ?_
            refine (AllReadyH.cons (o := { dst := some 32, op := Go.Op.call { callee := Go.Callee.value (Go.Operand.func 11), args := #[Go.Operand.tmp 27, Go.Operand.tmp 31], argTypes := #[27, 30] }, type := 27, pos := "law.go:56", after := #[{ on := 6, ground := Go.Ground.data }, { on := 10, ground := Go.Ground.data }, { on := 5, ground := Go.Ground.chain }], guard := none }) rfl (fun K hK => ?_) AllReadyH.nil)
            · skip
              go_simp
              with_reducible refine (RC.out _).mono ?_
              rintro q_ u4 ⟨rfl, hb⟩
              have B4 := Lib.hid (vian HN.out B3.out hb)
              have P4 := Lib.hid (P3.out.below hb)
              have R4 := Lib.hid (R3.out.below hb)
              clear hb B3 P3 R3
              refine hK.out _ _ ?s12 (fun hNew => ?r12)
              case s12 => exact ⟨(B4.out.cell (p := ⟨qb, qo + t * 3, none⟩) QQ.out).trans E0.out, (B4.out.cell (p := ⟨qb, qo + t * 3 + 1, none⟩) QQ.out).trans E1.out, (B4.out.cell (p := ⟨qb, qo + t * 3 + 2, none⟩) QQ.out).trans E2.out⟩
              clear hK K hHeld
              have hHeld := hNew
              clear hNew
              refine wpAnyH_ready (rs := [12]) (by kernel_rfl) (by simp) ?_
              refine (AllReadyH.cons (o := { dst := none, op := Go.Op.store 26 (Go.Operand.tmp 3) (Go.Operand.tmp 26), type := 0, pos := "law.go:56", after := #[{ on := 5, ground := Go.Ground.data }, { on := 11, ground := Go.Ground.chain }, { on := 0, ground := Go.Ground.phase }, { on := 1, ground := Go.Ground.phase }, { on := 2, ground := Go.Ground.phase }, { on := 3, ground := Go.Ground.phase }, { on := 4, ground := Go.Ground.phase }, { on := 5, ground := Go.Ground.phase }, { on := 6, ground := Go.Ground.textOnly Go.Departure.lateStores }, { on := 7, ground := Go.Ground.textOnly Go.Departure.lateStores }, { on := 8, ground := Go.Ground.textOnly Go.Departure.lateStores }, { on := 9, ground := Go.Ground.textOnly Go.Departure.lateStores }, { on := 10, ground := Go.Ground.textOnly Go.Departure.lateStores }, { on := 11, ground := Go.Ground.textOnly Go.Departure.lateStoresUnsure }], guard := none }) rfl (fun K hK => ?_) AllReadyH.nil)
              · skip
                obtain ⟨hc, hfz⟩ := P4.out.out
                go_simp
                clear hc hfz
                have P5 := Lib.hid (P4.out.put12 (.int .u8 m'.s) (.int .u8 m'.m) (.int .u8 m'.h) (.int .i64 m'.day) (.int .i64 m'.sub) (.bool m'.halt) (.bool m'.carry) (.int .u8 m'.a) (.int .u8 m'.b) (.int .u8 m'.c) (.int .u8 m'.d) (.int .u8 m'.e))
                have R5 := Lib.hid (R4.out.far12 NE.out.symm (.int .u8 m'.s) (.int .u8 m'.m) (.int .u8 m'.h) (.int .i64 m'.day) (.int .i64 m'.sub) (.bool m'.halt) (.bool m'.carry) (.int .u8 m'.a) (.int .u8 m'.b) (.int .u8 m'.c) (.int .u8 m'.d) (.int .u8 m'.e))
                have B5 := Lib.hid (set12 B4.out pb LP.out (.int .u8 m'.s) (.int .u8 m'.m) (.int .u8 m'.h) (.int .i64 m'.day) (.int .i64 m'.sub) (.bool m'.halt) (.bool m'.carry) (.int .u8 m'.a) (.int .u8 m'.b) (.int .u8 m'.c) (.int .u8 m'.d) (.int .u8 m'.e))
                clear B4 P4 R4
                refine hK.out _ _ ?s13 (fun hNew => ?r13)
                case s13 => exact ⟨(B5.out.cell (p := ⟨qb, qo + t * 3, none⟩) QQ.out).trans E0.out, (B5.out.cell (p := ⟨qb, qo + t * 3 + 1, none⟩) QQ.out).trans E1.out, (B5.out.cell (p := ⟨qb, qo + t * 3 + 2, none⟩) QQ.out).trans E2.out⟩
                clear hK K hHeld
                have hHeld := hNew
                clear hNew
                generalize (World.setCell (World.setCell (World.setCell (World.setCell (World.setCell (World.setCell (World.setCell (World.setCell (World.setCell (World.setCell (World.setCell (World.setCell u4 ⟨pb, 0, none⟩ (.int .u8 m'.s)) ⟨pb, 1, none⟩ (.int .u8 m'.m)) ⟨pb, 2, none⟩ (.int .u8 m'.h)) ⟨pb, 3, none⟩ (.int .i64 m'.day)) ⟨pb, 4, none⟩ (.int .i64 m'.sub)) ⟨pb, 5, none⟩ (.bool m'.halt)) ⟨pb, 6, none⟩ (.bool m'.carry)) ⟨pb, 7, none⟩ (.int .u8 m'.a)) ⟨pb, 8, none⟩ (.int .u8 m'.b)) ⟨pb, 9, none⟩ (.int .u8 m'.c)) ⟨pb, 10, none⟩ (.int .u8 m'.d)) ⟨pb, 11, none⟩ (.int .u8 m'.e)) = u5 at hHeld B5 P5 R5 ⊢
                refine wpAnyH_ready (rs := [13]) (by kernel_rfl) (by simp) ?_
                refine (AllReadyH.cons (o := { dst := none, op := Go.Op.store 27 (Go.Operand.tmp 4) (Go.Operand.tmp 32), type := 0, pos := "law.go:56", after := #[{ on := 11, ground := Go.Ground.data }, { on := 12, ground := Go.Ground.chain }, { on := 0, ground := Go.Ground.phase }, { on := 1, ground := Go.Ground.phase }, { on := 2, ground := Go.Ground.phase }, { on := 3, ground := Go.Ground.phase }, { on := 4, ground := Go.Ground.phase }, { on := 5, ground := Go.Ground.phase }, { on := 6, ground := Go.Ground.phase }, { on := 7, ground := Go.Ground.phase }, { on := 8, ground := Go.Ground.phase }, { on := 9, ground := Go.Ground.phase }, { on := 10, ground := Go.Ground.phase }, { on := 11, ground := Go.Ground.phase }, { on := 12, ground := Go.Ground.phase }], guard := none }) rfl (fun K hK => ?_) AllReadyH.nil)
                · skip
                  obtain ⟨hc, hfz⟩ := R5.out.out
                  go_simp
                  clear hc hfz
                  have R6 := Lib.hid (R5.out.put12 (.int .u8 m'.s) (.int .u8 m'.m) (.int .u8 m'.h) (.int .i64 m'.day) (.int .i64 m'.sub) (.bool m'.halt) (.bool m'.carry) (.int .u8 m'.a) (.int .u8 m'.b) (.int .u8 m'.c) (.int .u8 m'.d) (.int .u8 m'.e))
                  have P6 := Lib.hid (P5.out.far12 NE.out (.int .u8 m'.s) (.int .u8 m'.m) (.int .u8 m'.h) (.int .i64 m'.day) (.int .i64 m'.sub) (.bool m'.halt) (.bool m'.carry) (.int .u8 m'.a) (.int .u8 m'.b) (.int .u8 m'.c) (.int .u8 m'.d) (.int .u8 m'.e))
                  have B6 := Lib.hid (set12 B5.out rb LR.out (.int .u8 m'.s) (.int .u8 m'.m) (.int .u8 m'.h) (.int .i64 m'.day) (.int .i64 m'.sub) (.bool m'.halt) (.bool m'.carry) (.int .u8 m'.a) (.int .u8 m'.b) (.int .u8 m'.c) (.int .u8 m'.d) (.int .u8 m'.e))
                  clear B5 P5 R5
                  refine hK.out _ _ ?s14 (fun hNew => ?r14)
                  case s14 => exact ⟨(B6.out.cell (p := ⟨qb, qo + t * 3, none⟩) QQ.out).trans E0.out, (B6.out.cell (p := ⟨qb, qo + t * 3 + 1, none⟩) QQ.out).trans E1.out, (B6.out.cell (p := ⟨qb, qo + t * 3 + 2, none⟩) QQ.out).trans E2.out⟩
                  clear hK K hHeld
                  have hHeld := hNew
                  clear hNew
                  generalize (World.setCell (World.setCell (World.setCell (World.setCell (World.setCell (World.setCell (World.setCell (World.setCell (World.setCell (World.setCell (World.setCell (World.setCell u5 ⟨rb, 0, none⟩ (.int .u8 m'.s)) ⟨rb, 1, none⟩ (.int .u8 m'.m)) ⟨rb, 2, none⟩ (.int .u8 m'.h)) ⟨rb, 3, none⟩ (.int .i64 m'.day)) ⟨rb, 4, none⟩ (.int .i64 m'.sub)) ⟨rb, 5, none⟩ (.bool m'.halt)) ⟨rb, 6, none⟩ (.bool m'.carry)) ⟨rb, 7, none⟩ (.int .u8 m'.a)) ⟨rb, 8, none⟩ (.int .u8 m'.b)) ⟨rb, 9, none⟩ (.int .u8 m'.c)) ⟨rb, 10, none⟩ (.int .u8 m'.d)) ⟨rb, 11, none⟩ (.int .u8 m'.e)) = u6 at hHeld B6 P6 R6 ⊢
                  refine wpAnyH_done (by kernel_rfl) ?_ _
                  clear hHeld
                  go_upto_region 8 with (fail)
                  have heq := eq_held m'.a m'.b m'.c m'.d m'.e
                  have V0 := Lib.hid B6.out.drew
                  have V1 := Lib.hid P6.out.drew
                  have V2 := Lib.hid R6.out.drew
                  clear B6 P6 R6
                  refine wp_region_held_drew (S := (fun w' => (∀ o, w'.cell? ⟨pb, o, none⟩ = #[.int .u8 m'.s, .int .u8 m'.m, .int .u8 m'.h, .int .i64 m'.day, .int .i64 m'.sub, .bool m'.halt, .bool m'.carry, .int .u8 m'.a, .int .u8 m'.b, .int .u8 m'.c, .int .u8 m'.d, .int .u8 m'.e][o]?) ∧ (∀ o, w'.cell? ⟨rb, o, none⟩ = #[.int .u8 m'.s, .int .u8 m'.m, .int .u8 m'.h, .int .i64 m'.day, .int .i64 m'.sub, .bool m'.halt, .bool m'.carry, .int .u8 m'.a, .int .u8 m'.b, .int .u8 m'.c, .int .u8 m'.d, .int .u8 m'.e][o]?) ∧ (w'.cell? ⟨qb, qo + t * 3 + 1, none⟩ = some (.int .i64 nn)))) (by kernel_rfl) ⟨V1.out.2.1, V2.out.2.1, (V0.out.cell (p := ⟨qb, qo + t * 3 + 1, none⟩) QQ.out).trans E1.out⟩ (fun hHeld => ?_)
                  have B7 := V0
                  have P7 := V1
                  have R7 := V2
                  clear V0 V1 V2
                  generalize World.drew u6 = u7 at hHeld B7 P7 R7 ⊢
                  refine wpAnyH_take (i := 0) (oi := { dst := some 33, op := Go.Op.load 26 (Go.Operand.tmp 3), type := 26, pos := "law.go:57", after := #[], guard := none }) (v := ?v2336) rfl (by kernel_rfl) (by kernel_rfl) (by kernel_rfl) (fun _ _ _ h => h) (Or.inl ⟨by rfl, ?y2336⟩) (by assumption) ?z2336
                  case y2336 => (intro w hSw; (try dsimp only at hSw); go_simp) <;> with_reducible rfl
                  try simp only [Act.put, List.setIfInBounds_toArray, List.set_cons_zero, List.set_cons_succ]
                  refine wpAnyH_take (i := 1) (oi := { dst := some 34, op := Go.Op.load 27 (Go.Operand.tmp 4), type := 27, pos := "law.go:57", after := #[], guard := none }) (v := ?v2337) rfl (by kernel_rfl) (by kernel_rfl) (by kernel_rfl) (fun _ _ _ h => h) (Or.inl ⟨by rfl, ?y2337⟩) (by assumption) ?z2337
                  case y2337 => (intro w hSw; (try dsimp only at hSw); go_simp) <;> with_reducible rfl
                  try simp only [Act.put, List.setIfInBounds_toArray, List.set_cons_zero, List.set_cons_succ]
                  refine wpAnyH_take (i := 2) (oi := { dst := some 35, op := Go.Op.binOp Go.BinOp.neq 27 (Go.Operand.tmp 33) (Go.Operand.tmp 34) 27, type := 4, pos := "law.go:57", after := #[{ on := 0, ground := Go.Ground.data }, { on := 1, ground := Go.Ground.data }], guard := none }) (v := ?v2338) rfl (by kernel_rfl) (by kernel_rfl) (by kernel_rfl) (fun _ _ _ h => h) (Or.inl ⟨by rfl, ?y2338⟩) (by assumption) ?z2338
                  case y2338 => (intro w hSw; (try dsimp only at hSw); go_simp) <;> with_reducible rfl
                  try simp only [Act.put, List.setIfInBounds_toArray, List.set_cons_zero, List.set_cons_succ]
                  refine wpAnyH_take (i := 3) (oi := { dst := some 36, op := Go.Op.move (Go.Operand.tmp 35), type := 4, pos := "law.go:57", after := #[{ on := 2, ground := Go.Ground.data }], guard := none }) (v := ?v2339) rfl (by kernel_rfl) (by kernel_rfl) (by kernel_rfl) (fun _ _ _ h => h) (Or.inl ⟨by rfl, ?y2339⟩) (by assumption) ?z2339
                  case y2339 => (intro w hSw; (try dsimp only at hSw); go_simp) <;> with_reducible rfl
                  try simp only [Act.put, List.setIfInBounds_toArray, List.set_cons_zero, List.set_cons_succ]
                  refine wpAnyH_take (i := 4) (oi := { dst := some 37, op := Go.Op.load 26 (Go.Operand.tmp 3), type := 26, pos := "law.go:57", after := #[{ on := 3, ground := Go.Ground.guard }], guard := some (3, false) }) (v := ?v2340) rfl (by kernel_rfl) (by kernel_rfl) (by kernel_rfl) (fun _ _ _ h => h) (Or.inl ⟨by rfl, ?y2340⟩) (by assumption) ?z2340
                  case y2340 => (intro w hSw; (try dsimp only at hSw); go_simp) <;> with_reducible rfl
                  try simp only [Act.put, List.setIfInBounds_toArray, List.set_cons_zero, List.set_cons_succ]
                  refine wpAnyH_take (i := 5) (oi := { dst := some 38, op := Go.Op.move (Go.Operand.tmp 0), type := 22, pos := "law.go:57", after := #[{ on := 3, ground := Go.Ground.guard }], guard := some (3, false) }) (v := ?v2341) rfl (by kernel_rfl) (by kernel_rfl) (by kernel_rfl) (fun _ _ _ h => h) (Or.inl ⟨by rfl, ?y2341⟩) (by assumption) ?z2341
                  case y2341 => (intro w hSw; (try dsimp only at hSw); go_simp) <;> with_reducible rfl
                  try simp only [Act.put, List.setIfInBounds_toArray, List.set_cons_zero, List.set_cons_succ]
                  refine wpAnyH_take (i := 6) (oi := { dst := some 39, op := Go.Op.move (Go.Operand.tmp 5), type := 3, pos := "law.go:57", after := #[{ on := 3, ground := Go.Ground.guard }], guard := some (3, false) }) (v := ?v2342) rfl (by kernel_rfl) (by kernel_rfl) (by kernel_rfl) (fun _ _ _ h => h) (Or.inl ⟨by rfl, ?y2342⟩) (by assumption) ?z2342
                  case y2342 => (intro w hSw; (try dsimp only at hSw); go_simp) <;> with_reducible rfl
                  try simp only [Act.put, List.setIfInBounds_toArray, List.set_cons_zero, List.set_cons_succ]
                  refine wpAnyH_take (i := 7) (oi := { dst := some 40, op := Go.Op.indexAddr 22 (Go.Operand.tmp 38) (Go.Operand.tmp 39), type := 0, pos := "law.go:57", after := #[{ on := 5, ground := Go.Ground.data }, { on := 6, ground := Go.Ground.data }, { on := 3, ground := Go.Ground.guard }], guard := some (3, false) }) (v := ?v2343) rfl (by kernel_rfl) (by kernel_rfl) (by kernel_rfl) (fun _ _ _ h => h) (Or.inl ⟨by rfl, ?y2343⟩) (by assumption) ?z2343
                  case y2343 => (intro w hSw; (try dsimp only at hSw); go_simp) <;> with_reducible rfl
                  try simp only [Act.put, List.setIfInBounds_toArray, List.set_cons_zero, List.set_cons_succ]
                  refine wpAnyH_take (i := 8) (oi := { dst := some 41, op := Go.Op.fieldAddr 30 (Go.Operand.tmp 40) 1, type := 0, pos := "law.go:57", after := #[{ on := 7, ground := Go.Ground.data }, { on := 3, ground := Go.Ground.guard }], guard := some (3, false) }) (v := ?v2344) rfl (by kernel_rfl) (by kernel_rfl) (by kernel_rfl) (fun _ _ _ h => h) (Or.inl ⟨by rfl, ?y2344⟩) (by assumption) ?z2344
                  case y2344 => (intro w hSw; (try dsimp only at hSw); go_simp) <;> with_reducible rfl
                  try simp only [Act.put, List.setIfInBounds_toArray, List.set_cons_zero, List.set_cons_succ]
                  refine wpAnyH_take (i := 9) (oi := { dst := some 42, op := Go.Op.load 3 (Go.Operand.tmp 41), type := 3, pos := "law.go:57", after := #[{ on := 8, ground := Go.Ground.data }, { on := 3, ground := Go.Ground.guard }], guard := some (3, false) }) (v := ?v2345) rfl (by kernel_rfl) (by kernel_rfl) (by kernel_rfl) (fun _ _ _ h => h) (Or.inl ⟨by rfl, ?y2345⟩) (by assumption) ?z2345
                  case y2345 => (intro w hSw; (try dsimp only at hSw); go_simp) <;> with_reducible rfl
                  try simp only [Act.put, List.setIfInBounds_toArray, List.set_cons_zero, List.set_cons_succ]
                  refine wpAnyH_take (i := 11) (oi := { dst := some 44, op := Go.Op.load 27 (Go.Operand.tmp 4), type := 27, pos := "law.go:57", after := #[{ on := 3, ground := Go.Ground.guard }], guard := some (3, false) }) (v := ?v2346) rfl (by kernel_rfl) (by kernel_rfl) (by kernel_rfl) (fun _ _ _ h => h) (Or.inl ⟨by rfl, ?y2346⟩) (by assumption) ?z2346
                  case y2346 => (intro w hSw; (try dsimp only at hSw); go_simp) <;> with_reducible rfl
                  try simp only [Act.put, List.setIfInBounds_toArray, List.set_cons_zero, List.set_cons_succ]
                  refine wpAnyH_take (i := 12) (oi := { dst := some 45, op := Go.Op.move (Go.Operand.tmp 0), type := 22, pos := "law.go:57", after := #[{ on := 3, ground := Go.Ground.guard }], guard := some (3, false) }) (v := ?v2347) rfl (by kernel_rfl) (by kernel_rfl) (by kernel_rfl) (fun _ _ _ h => h) (Or.inl ⟨by rfl, ?y2347⟩) (by assumption) ?z2347
                  case y2347 => (intro w hSw; (try dsimp only at hSw); go_simp) <;> with_reducible rfl
                  try simp only [Act.put, List.setIfInBounds_toArray, List.set_cons_zero, List.set_cons_succ]
                  refine wpAnyH_take (i := 13) (oi := { dst := some 46, op := Go.Op.move (Go.Operand.tmp 5), type := 3, pos := "law.go:57", after := #[{ on := 3, ground := Go.Ground.guard }], guard := some (3, false) }) (v := ?v2348) rfl (by kernel_rfl) (by kernel_rfl) (by kernel_rfl) (fun _ _ _ h => h) (Or.inl ⟨by rfl, ?y2348⟩) (by assumption) ?z2348
                  case y2348 => (intro w hSw; (try dsimp only at hSw); go_simp) <;> with_reducible rfl
                  try simp only [Act.put, List.setIfInBounds_toArray, List.set_cons_zero, List.set_cons_succ]
                  refine wpAnyH_take (i := 14) (oi := { dst := some 47, op := Go.Op.indexAddr 22 (Go.Operand.tmp 45) (Go.Operand.tmp 46), type := 0, pos := "law.go:57", after := #[{ on := 12, ground := Go.Ground.data }, { on := 13, ground := Go.Ground.data }, { on := 3, ground := Go.Ground.guard }], guard := some (3, false) }) (v := ?v2349) rfl (by kernel_rfl) (by kernel_rfl) (by kernel_rfl) (fun _ _ _ h => h) (Or.inl ⟨by rfl, ?y2349⟩) (by assumption) ?z2349
                  case y2349 => (intro w hSw; (try dsimp only at hSw); go_simp) <;> with_reducible rfl
                  try simp only [Act.put, List.setIfInBounds_toArray, List.set_cons_zero, List.set_cons_succ]
                  refine wpAnyH_take (i := 15) (oi := { dst := some 48, op := Go.Op.fieldAddr 30 (Go.Operand.tmp 47) 1, type := 0, pos := "law.go:57", after := #[{ on := 14, ground := Go.Ground.data }, { on := 3, ground := Go.Ground.guard }], guard := some (3, false) }) (v := ?v2350) rfl (by kernel_rfl) (by kernel_rfl) (by kernel_rfl) (fun _ _ _ h => h) (Or.inl ⟨by rfl, ?y2350⟩) (by assumption) ?z2350
                  case y2350 => (intro w hSw; (try dsimp only at hSw); go_simp) <;> with_reducible rfl
                  try simp only [Act.put, List.setIfInBounds_toArray, List.set_cons_zero, List.set_cons_succ]
                  refine wpAnyH_take (i := 16) (oi := { dst := some 49, op := Go.Op.load 3 (Go.Operand.tmp 48), type := 3, pos := "law.go:57", after := #[{ on := 15, ground := Go.Ground.data }, { on := 3, ground := Go.Ground.guard }], guard := some (3, false) }) (v := ?v2351) rfl (by kernel_rfl) (by kernel_rfl) (by kernel_rfl) (fun _ _ _ h => h) (Or.inl ⟨by rfl, ?y2351⟩) (by assumption) ?z2351
                  case y2351 => (intro w hSw; (try dsimp only at hSw); go_simp) <;> with_reducible rfl
                  try simp only [Act.put, List.setIfInBounds_toArray, List.set_cons_zero, List.set_cons_succ]
                  refine wpAnyH_ready (rs := [10]) (by kernel_rfl) (by simp) ?_
                  refine (AllReadyH.cons (o := { dst := some 43, op := Go.Op.call { callee := Go.Callee.value (Go.Operand.func 12), args := #[Go.Operand.tmp 37, Go.Operand.tmp 42], argTypes := #[26, 3] }, type := 5, pos := "law.go:57", after := #[{ on := 4, ground := Go.Ground.data }, { on := 9, ground := Go.Ground.data }, { on := 3, ground := Go.Ground.chain }, { on := 3, ground := Go.Ground.guard }], guard := some (3, false) }) rfl (fun K hK => ?_) AllReadyH.nil)
                  · skip
                    go_simp
                    with_reducible refine (RD.out _).mono ?_
                    rintro q_ u8 ⟨rfl, hb⟩
                    have B8 := Lib.hid (vian HN.out B7.out hb)
                    have P8 := Lib.hid (P7.out.below hb)
                    have R8 := Lib.hid (R7.out.below hb)
                    clear hb B7 P7 R7
                    refine hK.out _ _ ?s2352 (fun hNew => ?r2352)
                    case s2352 => exact ⟨P8.out.2.1, R8.out.2.1, (B8.out.cell (p := ⟨qb, qo + t * 3 + 1, none⟩) QQ.out).trans E1.out⟩
                    clear hK K hHeld
                    have hHeld := hNew
                    clear hNew
                    refine wpAnyH_ready (rs := [17]) (by kernel_rfl) (by simp) ?_
                    refine (AllReadyH.cons (o := { dst := some 50, op := Go.Op.call { callee := Go.Callee.value (Go.Operand.func 13), args := #[Go.Operand.tmp 44, Go.Operand.tmp 49], argTypes := #[27, 3] }, type := 5, pos := "law.go:57", after := #[{ on := 11, ground := Go.Ground.data }, { on := 16, ground := Go.Ground.data }, { on := 10, ground := Go.Ground.chain }, { on := 3, ground := Go.Ground.guard }], guard := some (3, false) }) rfl (fun K hK => ?_) AllReadyH.nil)
                    · skip
                      go_simp
                      with_reducible refine (RRD.out _).mono ?_
                      rintro q_ u9 ⟨rfl, hb⟩
                      have B9 := Lib.hid (vian HN.out B8.out hb)
                      have P9 := Lib.hid (P8.out.below hb)
                      have R9 := Lib.hid (R8.out.below hb)
                      clear hb B8 P8 R8
                      refine hK.out _ _ ?s2353 (fun hNew => ?r2353)
                      case s2353 => exact ⟨P9.out.2.1, R9.out.2.1, (B9.out.cell (p := ⟨qb, qo + t * 3 + 1, none⟩) QQ.out).trans E1.out⟩
                      clear hK K hHeld
                      have hHeld := hNew
                      clear hNew
                      refine wpAnyH_take (i := 18) (oi := { dst := some 51, op := Go.Op.binOp Go.BinOp.neq 5 (Go.Operand.tmp 43) (Go.Operand.tmp 50) 5, type := 4, pos := "law.go:57", after := #[{ on := 10, ground := Go.Ground.data }, { on := 17, ground := Go.Ground.data }, { on := 3, ground := Go.Ground.guard }], guard := some (3, false) }) (v := ?v2354) rfl (by kernel_rfl) (by kernel_rfl) (by kernel_rfl) (fun _ _ _ h => h) (Or.inl ⟨by rfl, ?y2354⟩) (by assumption) ?z2354
                      case y2354 => (intro w hSw; (try dsimp only at hSw); go_simp) <;> with_reducible rfl
                      try simp only [Act.put, List.setIfInBounds_toArray, List.set_cons_zero, List.set_cons_succ]
                      refine wpAnyH_take (i := 19) (oi := { dst := some 52, op := Go.Op.pick (Go.Operand.tmp 36) (Go.Operand.const (Go.Value.bool true)) (Go.Operand.tmp 51), type := 4, pos := "law.go:57", after := #[{ on := 3, ground := Go.Ground.data }, { on := 18, ground := Go.Ground.data }], guard := none }) (v := ?v2355) rfl (by kernel_rfl) (by kernel_rfl) (by kernel_rfl) (fun _ _ _ h => h) (Or.inl ⟨by rfl, ?y2355⟩) (by assumption) ?z2355
                      case y2355 => (intro w hSw; (try dsimp only at hSw); go_simp) <;> with_reducible rfl
                      try simp only [Act.put, List.setIfInBounds_toArray, List.set_cons_zero, List.set_cons_succ]
                      refine wpAnyH_done (by kernel_rfl) ?_ _
                      clear hHeld heq
                      go_wp2
                      go_roundg (gk - 1)
                      exact ⟨t + 1, m', by omega, by have := TG.out; omega, by simp, OK'.out, B9.out, P9.out, R9.out⟩
                      case measure => have := TG.out; omega
        · skip
          obtain ⟨hc, hfz⟩ := R1.out.out
          go_simp
          clear hc hfz
          have B2 := B1
          have P2 := P1
          have R2 := R1
          clear B1 P1 R1
          refine hK.out _ _ ?s15 (fun hNew => ?r15)
          case s15 => exact ⟨(B2.out.cell (p := ⟨qb, qo + t * 3, none⟩) QQ.out).trans E0.out, (B2.out.cell (p := ⟨qb, qo + t * 3 + 1, none⟩) QQ.out).trans E1.out, (B2.out.cell (p := ⟨qb, qo + t * 3 + 2, none⟩) QQ.out).trans E2.out⟩
          clear hK K hHeld
          have hHeld := hNew
          clear hNew
          refine wpAnyH_ready (rs := [5]) (by kernel_rfl) (by simp) ?_
          refine (AllReadyH.cons (o := { dst := some 26, op := Go.Op.call { callee := Go.Callee.value (Go.Operand.func 10), args := #[Go.Operand.tmp 21, Go.Operand.tmp 25], argTypes := #[26, 30] }, type := 26, pos := "law.go:56", after := #[{ on := 0, ground := Go.Ground.data }, { on := 4, ground := Go.Ground.data }], guard := none }) rfl (fun K hK => ?_) AllReadyH.nil)
          · skip
            go_simp
            with_reducible refine (DC.out _).mono ?_
            rintro q_ u3 ⟨rfl, hb⟩
            have B3 := Lib.hid (vian HN.out B2.out hb)
            have P3 := Lib.hid (P2.out.below hb)
            have R3 := Lib.hid (R2.out.below hb)
            clear hb B2 P2 R2
            refine hK.out _ _ ?s16 (fun hNew => ?r16)
            case s16 => exact ⟨(B3.out.cell (p := ⟨qb, qo + t * 3, none⟩) QQ.out).trans E0.out, (B3.out.cell (p := ⟨qb, qo + t * 3 + 1, none⟩) QQ.out).trans E1.out, (B3.out.cell (p := ⟨qb, qo + t * 3 + 2, none⟩) QQ.out).trans E2.out⟩
            clear hK K hHeld
            have hHeld := hNew
            clear hNew
            refine wpAnyH_ready (rs := [11]) (by kernel_rfl) (by simp) ?_
            refine (AllReadyH.cons (o := { dst := some 32, op := Go.Op.call { callee := Go.Callee.value (Go.Operand.func 11), args := #[Go.Operand.tmp 27, Go.Operand.tmp 31], argTypes := #[27, 30] }, type := 27, pos := "law.go:56", after := #[{ on := 6, ground := Go.Ground.data }, { on := 10, ground := Go.Ground.data }, { on := 5, ground := Go.Ground.chain }], guard := none }) rfl (fun K hK => ?_) AllReadyH.nil)
            · skip
              go_simp
              with_reducible refine (RC.out _).mono ?_
              rintro q_ u4 ⟨rfl, hb⟩
              have B4 := Lib.hid (vian HN.out B3.out hb)
              have P4 := Lib.hid (P3.out.below hb)
              have R4 := Lib.hid (R3.out.below hb)
              clear hb B3 P3 R3
              refine hK.out _ _ ?s17 (fun hNew => ?r17)
              case s17 => exact ⟨(B4.out.cell (p := ⟨qb, qo + t * 3, none⟩) QQ.out).trans E0.out, (B4.out.cell (p := ⟨qb, qo + t * 3 + 1, none⟩) QQ.out).trans E1.out, (B4.out.cell (p := ⟨qb, qo + t * 3 + 2, none⟩) QQ.out).trans E2.out⟩
              clear hK K hHeld
              have hHeld := hNew
              clear hNew
              refine wpAnyH_ready (rs := [12]) (by kernel_rfl) (by simp) ?_
              refine (AllReadyH.cons (o := { dst := none, op := Go.Op.store 26 (Go.Operand.tmp 3) (Go.Operand.tmp 26), type := 0, pos := "law.go:56", after := #[{ on := 5, ground := Go.Ground.data }, { on := 11, ground := Go.Ground.chain }, { on := 0, ground := Go.Ground.phase }, { on := 1, ground := Go.Ground.phase }, { on := 2, ground := Go.Ground.phase }, { on := 3, ground := Go.Ground.phase }, { on := 4, ground := Go.Ground.phase }, { on := 5, ground := Go.Ground.phase }, { on := 6, ground := Go.Ground.textOnly Go.Departure.lateStores }, { on := 7, ground := Go.Ground.textOnly Go.Departure.lateStores }, { on := 8, ground := Go.Ground.textOnly Go.Departure.lateStores }, { on := 9, ground := Go.Ground.textOnly Go.Departure.lateStores }, { on := 10, ground := Go.Ground.textOnly Go.Departure.lateStores }, { on := 11, ground := Go.Ground.textOnly Go.Departure.lateStoresUnsure }], guard := none }) rfl (fun K hK => ?_) AllReadyH.nil)
              · skip
                obtain ⟨hc, hfz⟩ := P4.out.out
                go_simp
                clear hc hfz
                have P5 := Lib.hid (P4.out.put12 (.int .u8 m'.s) (.int .u8 m'.m) (.int .u8 m'.h) (.int .i64 m'.day) (.int .i64 m'.sub) (.bool m'.halt) (.bool m'.carry) (.int .u8 m'.a) (.int .u8 m'.b) (.int .u8 m'.c) (.int .u8 m'.d) (.int .u8 m'.e))
                have R5 := Lib.hid (R4.out.far12 NE.out.symm (.int .u8 m'.s) (.int .u8 m'.m) (.int .u8 m'.h) (.int .i64 m'.day) (.int .i64 m'.sub) (.bool m'.halt) (.bool m'.carry) (.int .u8 m'.a) (.int .u8 m'.b) (.int .u8 m'.c) (.int .u8 m'.d) (.int .u8 m'.e))
                have B5 := Lib.hid (set12 B4.out pb LP.out (.int .u8 m'.s) (.int .u8 m'.m) (.int .u8 m'.h) (.int .i64 m'.day) (.int .i64 m'.sub) (.bool m'.halt) (.bool m'.carry) (.int .u8 m'.a) (.int .u8 m'.b) (.int .u8 m'.c) (.int .u8 m'.d) (.int .u8 m'.e))
                clear B4 P4 R4
                refine hK.out _ _ ?s18 (fun hNew => ?r18)
                case s18 => exact ⟨(B5.out.cell (p := ⟨qb, qo + t * 3, none⟩) QQ.out).trans E0.out, (B5.out.cell (p := ⟨qb, qo + t * 3 + 1, none⟩) QQ.out).trans E1.out, (B5.out.cell (p := ⟨qb, qo + t * 3 + 2, none⟩) QQ.out).trans E2.out⟩
                clear hK K hHeld
                have hHeld := hNew
                clear hNew
                generalize (World.setCell (World.setCell (World.setCell (World.setCell (World.setCell (World.setCell (World.setCell (World.setCell (World.setCell (World.setCell (World.setCell (World.setCell u4 ⟨pb, 0, none⟩ (.int .u8 m'.s)) ⟨pb, 1, none⟩ (.int .u8 m'.m)) ⟨pb, 2, none⟩ (.int .u8 m'.h)) ⟨pb, 3, none⟩ (.int .i64 m'.day)) ⟨pb, 4, none⟩ (.int .i64 m'.sub)) ⟨pb, 5, none⟩ (.bool m'.halt)) ⟨pb, 6, none⟩ (.bool m'.carry)) ⟨pb, 7, none⟩ (.int .u8 m'.a)) ⟨pb, 8, none⟩ (.int .u8 m'.b)) ⟨pb, 9, none⟩ (.int .u8 m'.c)) ⟨pb, 10, none⟩ (.int .u8 m'.d)) ⟨pb, 11, none⟩ (.int .u8 m'.e)) = u5 at hHeld B5 P5 R5 ⊢
                refine wpAnyH_ready (rs := [13]) (by kernel_rfl) (by simp) ?_
                refine (AllReadyH.cons (o := { dst := none, op := Go.Op.store 27 (Go.Operand.tmp 4) (Go.Operand.tmp 32), type := 0, pos := "law.go:56", after := #[{ on := 11, ground := Go.Ground.data }, { on := 12, ground := Go.Ground.chain }, { on := 0, ground := Go.Ground.phase }, { on := 1, ground := Go.Ground.phase }, { on := 2, ground := Go.Ground.phase }, { on := 3, ground := Go.Ground.phase }, { on := 4, ground := Go.Ground.phase }, { on := 5, ground := Go.Ground.phase }, { on := 6, ground := Go.Ground.phase }, { on := 7, ground := Go.Ground.phase }, { on := 8, ground := Go.Ground.phase }, { on := 9, ground := Go.Ground.phase }, { on := 10, ground := Go.Ground.phase }, { on := 11, ground := Go.Ground.phase }, { on := 12, ground := Go.Ground.phase }], guard := none }) rfl (fun K hK => ?_) AllReadyH.nil)
                · skip
                  obtain ⟨hc, hfz⟩ := R5.out.out
                  go_simp
                  clear hc hfz
                  have R6 := Lib.hid (R5.out.put12 (.int .u8 m'.s) (.int .u8 m'.m) (.int .u8 m'.h) (.int .i64 m'.day) (.int .i64 m'.sub) (.bool m'.halt) (.bool m'.carry) (.int .u8 m'.a) (.int .u8 m'.b) (.int .u8 m'.c) (.int .u8 m'.d) (.int .u8 m'.e))
                  have P6 := Lib.hid (P5.out.far12 NE.out (.int .u8 m'.s) (.int .u8 m'.m) (.int .u8 m'.h) (.int .i64 m'.day) (.int .i64 m'.sub) (.bool m'.halt) (.bool m'.carry) (.int .u8 m'.a) (.int .u8 m'.b) (.int .u8 m'.c) (.int .u8 m'.d) (.int .u8 m'.e))
                  have B6 := Lib.hid (set12 B5.out rb LR.out (.int .u8 m'.s) (.int .u8 m'.m) (.int .u8 m'.h) (.int .i64 m'.day) (.int .i64 m'.sub) (.bool m'.halt) (.bool m'.carry) (.int .u8 m'.a) (.int .u8 m'.b) (.int .u8 m'.c) (.int .u8 m'.d) (.int .u8 m'.e))
                  clear B5 P5 R5
                  refine hK.out _ _ ?s19 (fun hNew => ?r19)
                  case s19 => exact ⟨(B6.out.cell (p := ⟨qb, qo + t * 3, none⟩) QQ.out).trans E0.out, (B6.out.cell (p := ⟨qb, qo + t * 3 + 1, none⟩) QQ.out).trans E1.out, (B6.out.cell (p := ⟨qb, qo + t * 3 + 2, none⟩) QQ.out).trans E2.out⟩
                  clear hK K hHeld
                  have hHeld := hNew
                  clear hNew
                  generalize (World.setCell (World.setCell (World.setCell (World.setCell (World.setCell (World.setCell (World.setCell (World.setCell (World.setCell (World.setCell (World.setCell (World.setCell u5 ⟨rb, 0, none⟩ (.int .u8 m'.s)) ⟨rb, 1, none⟩ (.int .u8 m'.m)) ⟨rb, 2, none⟩ (.int .u8 m'.h)) ⟨rb, 3, none⟩ (.int .i64 m'.day)) ⟨rb, 4, none⟩ (.int .i64 m'.sub)) ⟨rb, 5, none⟩ (.bool m'.halt)) ⟨rb, 6, none⟩ (.bool m'.carry)) ⟨rb, 7, none⟩ (.int .u8 m'.a)) ⟨rb, 8, none⟩ (.int .u8 m'.b)) ⟨rb, 9, none⟩ (.int .u8 m'.c)) ⟨rb, 10, none⟩ (.int .u8 m'.d)) ⟨rb, 11, none⟩ (.int .u8 m'.e)) = u6 at hHeld B6 P6 R6 ⊢
                  refine wpAnyH_done (by kernel_rfl) ?_ _
                  clear hHeld
                  go_upto_region 8 with (fail)
                  have heq := eq_held m'.a m'.b m'.c m'.d m'.e
                  have V0 := Lib.hid B6.out.drew
                  have V1 := Lib.hid P6.out.drew
                  have V2 := Lib.hid R6.out.drew
                  clear B6 P6 R6
                  refine wp_region_held_drew (S := (fun w' => (∀ o, w'.cell? ⟨pb, o, none⟩ = #[.int .u8 m'.s, .int .u8 m'.m, .int .u8 m'.h, .int .i64 m'.day, .int .i64 m'.sub, .bool m'.halt, .bool m'.carry, .int .u8 m'.a, .int .u8 m'.b, .int .u8 m'.c, .int .u8 m'.d, .int .u8 m'.e][o]?) ∧ (∀ o, w'.cell? ⟨rb, o, none⟩ = #[.int .u8 m'.s, .int .u8 m'.m, .int .u8 m'.h, .int .i64 m'.day, .int .i64 m'.sub, .bool m'.halt, .bool m'.carry, .int .u8 m'.a, .int .u8 m'.b, .int .u8 m'.c, .int .u8 m'.d, .int .u8 m'.e][o]?) ∧ (w'.cell? ⟨qb, qo + t * 3 + 1, none⟩ = some (.int .i64 nn)))) (by kernel_rfl) ⟨V1.out.2.1, V2.out.2.1, (V0.out.cell (p := ⟨qb, qo + t * 3 + 1, none⟩) QQ.out).trans E1.out⟩ (fun hHeld => ?_)
                  have B7 := V0
                  have P7 := V1
                  have R7 := V2
                  clear V0 V1 V2
                  generalize World.drew u6 = u7 at hHeld B7 P7 R7 ⊢
                  refine wpAnyH_take (i := 0) (oi := { dst := some 33, op := Go.Op.load 26 (Go.Operand.tmp 3), type := 26, pos := "law.go:57", after := #[], guard := none }) (v := ?v4126) rfl (by kernel_rfl) (by kernel_rfl) (by kernel_rfl) (fun _ _ _ h => h) (Or.inl ⟨by rfl, ?y4126⟩) (by assumption) ?z4126
                  case y4126 => (intro w hSw; (try dsimp only at hSw); go_simp) <;> with_reducible rfl
                  try simp only [Act.put, List.setIfInBounds_toArray, List.set_cons_zero, List.set_cons_succ]
                  refine wpAnyH_take (i := 1) (oi := { dst := some 34, op := Go.Op.load 27 (Go.Operand.tmp 4), type := 27, pos := "law.go:57", after := #[], guard := none }) (v := ?v4127) rfl (by kernel_rfl) (by kernel_rfl) (by kernel_rfl) (fun _ _ _ h => h) (Or.inl ⟨by rfl, ?y4127⟩) (by assumption) ?z4127
                  case y4127 => (intro w hSw; (try dsimp only at hSw); go_simp) <;> with_reducible rfl
                  try simp only [Act.put, List.setIfInBounds_toArray, List.set_cons_zero, List.set_cons_succ]
                  refine wpAnyH_take (i := 2) (oi := { dst := some 35, op := Go.Op.binOp Go.BinOp.neq 27 (Go.Operand.tmp 33) (Go.Operand.tmp 34) 27, type := 4, pos := "law.go:57", after := #[{ on := 0, ground := Go.Ground.data }, { on := 1, ground := Go.Ground.data }], guard := none }) (v := ?v4128) rfl (by kernel_rfl) (by kernel_rfl) (by kernel_rfl) (fun _ _ _ h => h) (Or.inl ⟨by rfl, ?y4128⟩) (by assumption) ?z4128
                  case y4128 => (intro w hSw; (try dsimp only at hSw); go_simp) <;> with_reducible rfl
                  try simp only [Act.put, List.setIfInBounds_toArray, List.set_cons_zero, List.set_cons_succ]
                  refine wpAnyH_take (i := 3) (oi := { dst := some 36, op := Go.Op.move (Go.Operand.tmp 35), type := 4, pos := "law.go:57", after := #[{ on := 2, ground := Go.Ground.data }], guard := none }) (v := ?v4129) rfl (by kernel_rfl) (by kernel_rfl) (by kernel_rfl) (fun _ _ _ h => h) (Or.inl ⟨by rfl, ?y4129⟩) (by assumption) ?z4129
                  case y4129 => (intro w hSw; (try dsimp only at hSw); go_simp) <;> with_reducible rfl
                  try simp only [Act.put, List.setIfInBounds_toArray, List.set_cons_zero, List.set_cons_succ]
                  refine wpAnyH_take (i := 4) (oi := { dst := some 37, op := Go.Op.load 26 (Go.Operand.tmp 3), type := 26, pos := "law.go:57", after := #[{ on := 3, ground := Go.Ground.guard }], guard := some (3, false) }) (v := ?v4130) rfl (by kernel_rfl) (by kernel_rfl) (by kernel_rfl) (fun _ _ _ h => h) (Or.inl ⟨by rfl, ?y4130⟩) (by assumption) ?z4130
                  case y4130 => (intro w hSw; (try dsimp only at hSw); go_simp) <;> with_reducible rfl
                  try simp only [Act.put, List.setIfInBounds_toArray, List.set_cons_zero, List.set_cons_succ]
                  refine wpAnyH_take (i := 5) (oi := { dst := some 38, op := Go.Op.move (Go.Operand.tmp 0), type := 22, pos := "law.go:57", after := #[{ on := 3, ground := Go.Ground.guard }], guard := some (3, false) }) (v := ?v4131) rfl (by kernel_rfl) (by kernel_rfl) (by kernel_rfl) (fun _ _ _ h => h) (Or.inl ⟨by rfl, ?y4131⟩) (by assumption) ?z4131
                  case y4131 => (intro w hSw; (try dsimp only at hSw); go_simp) <;> with_reducible rfl
                  try simp only [Act.put, List.setIfInBounds_toArray, List.set_cons_zero, List.set_cons_succ]
                  refine wpAnyH_take (i := 6) (oi := { dst := some 39, op := Go.Op.move (Go.Operand.tmp 5), type := 3, pos := "law.go:57", after := #[{ on := 3, ground := Go.Ground.guard }], guard := some (3, false) }) (v := ?v4132) rfl (by kernel_rfl) (by kernel_rfl) (by kernel_rfl) (fun _ _ _ h => h) (Or.inl ⟨by rfl, ?y4132⟩) (by assumption) ?z4132
                  case y4132 => (intro w hSw; (try dsimp only at hSw); go_simp) <;> with_reducible rfl
                  try simp only [Act.put, List.setIfInBounds_toArray, List.set_cons_zero, List.set_cons_succ]
                  refine wpAnyH_take (i := 7) (oi := { dst := some 40, op := Go.Op.indexAddr 22 (Go.Operand.tmp 38) (Go.Operand.tmp 39), type := 0, pos := "law.go:57", after := #[{ on := 5, ground := Go.Ground.data }, { on := 6, ground := Go.Ground.data }, { on := 3, ground := Go.Ground.guard }], guard := some (3, false) }) (v := ?v4133) rfl (by kernel_rfl) (by kernel_rfl) (by kernel_rfl) (fun _ _ _ h => h) (Or.inl ⟨by rfl, ?y4133⟩) (by assumption) ?z4133
                  case y4133 => (intro w hSw; (try dsimp only at hSw); go_simp) <;> with_reducible rfl
                  try simp only [Act.put, List.setIfInBounds_toArray, List.set_cons_zero, List.set_cons_succ]
                  refine wpAnyH_take (i := 8) (oi := { dst := some 41, op := Go.Op.fieldAddr 30 (Go.Operand.tmp 40) 1, type := 0, pos := "law.go:57", after := #[{ on := 7, ground := Go.Ground.data }, { on := 3, ground := Go.Ground.guard }], guard := some (3, false) }) (v := ?v4134) rfl (by kernel_rfl) (by kernel_rfl) (by kernel_rfl) (fun _ _ _ h => h) (Or.inl ⟨by rfl, ?y4134⟩) (by assumption) ?z4134
                  case y4134 => (intro w hSw; (try dsimp only at hSw); go_simp) <;> with_reducible rfl
                  try simp only [Act.put, List.setIfInBounds_toArray, List.set_cons_zero, List.set_cons_succ]
                  refine wpAnyH_take (i := 9) (oi := { dst := some 42, op := Go.Op.load 3 (Go.Operand.tmp 41), type := 3, pos := "law.go:57", after := #[{ on := 8, ground := Go.Ground.data }, { on := 3, ground := Go.Ground.guard }], guard := some (3, false) }) (v := ?v4135) rfl (by kernel_rfl) (by kernel_rfl) (by kernel_rfl) (fun _ _ _ h => h) (Or.inl ⟨by rfl, ?y4135⟩) (by assumption) ?z4135
                  case y4135 => (intro w hSw; (try dsimp only at hSw); go_simp) <;> with_reducible rfl
                  try simp only [Act.put, List.setIfInBounds_toArray, List.set_cons_zero, List.set_cons_succ]
                  refine wpAnyH_take (i := 11) (oi := { dst := some 44, op := Go.Op.load 27 (Go.Operand.tmp 4), type := 27, pos := "law.go:57", after := #[{ on := 3, ground := Go.Ground.guard }], guard := some (3, false) }) (v := ?v4136) rfl (by kernel_rfl) (by kernel_rfl) (by kernel_rfl) (fun _ _ _ h => h) (Or.inl ⟨by rfl, ?y4136⟩) (by assumption) ?z4136
                  case y4136 => (intro w hSw; (try dsimp only at hSw); go_simp) <;> with_reducible rfl
                  try simp only [Act.put, List.setIfInBounds_toArray, List.set_cons_zero, List.set_cons_succ]
                  refine wpAnyH_take (i := 12) (oi := { dst := some 45, op := Go.Op.move (Go.Operand.tmp 0), type := 22, pos := "law.go:57", after := #[{ on := 3, ground := Go.Ground.guard }], guard := some (3, false) }) (v := ?v4137) rfl (by kernel_rfl) (by kernel_rfl) (by kernel_rfl) (fun _ _ _ h => h) (Or.inl ⟨by rfl, ?y4137⟩) (by assumption) ?z4137
                  case y4137 => (intro w hSw; (try dsimp only at hSw); go_simp) <;> with_reducible rfl
                  try simp only [Act.put, List.setIfInBounds_toArray, List.set_cons_zero, List.set_cons_succ]
                  refine wpAnyH_take (i := 13) (oi := { dst := some 46, op := Go.Op.move (Go.Operand.tmp 5), type := 3, pos := "law.go:57", after := #[{ on := 3, ground := Go.Ground.guard }], guard := some (3, false) }) (v := ?v4138) rfl (by kernel_rfl) (by kernel_rfl) (by kernel_rfl) (fun _ _ _ h => h) (Or.inl ⟨by rfl, ?y4138⟩) (by assumption) ?z4138
                  case y4138 => (intro w hSw; (try dsimp only at hSw); go_simp) <;> with_reducible rfl
                  try simp only [Act.put, List.setIfInBounds_toArray, List.set_cons_zero, List.set_cons_succ]
                  refine wpAnyH_take (i := 14) (oi := { dst := some 47, op := Go.Op.indexAddr 22 (Go.Operand.tmp 45) (Go.Operand.tmp 46), type := 0, pos := "law.go:57", after := #[{ on := 12, ground := Go.Ground.data }, { on := 13, ground := Go.Ground.data }, { on := 3, ground := Go.Ground.guard }], guard := some (3, false) }) (v := ?v4139) rfl (by kernel_rfl) (by kernel_rfl) (by kernel_rfl) (fun _ _ _ h => h) (Or.inl ⟨by rfl, ?y4139⟩) (by assumption) ?z4139
                  case y4139 => (intro w hSw; (try dsimp only at hSw); go_simp) <;> with_reducible rfl
                  try simp only [Act.put, List.setIfInBounds_toArray, List.set_cons_zero, List.set_cons_succ]
                  refine wpAnyH_take (i := 15) (oi := { dst := some 48, op := Go.Op.fieldAddr 30 (Go.Operand.tmp 47) 1, type := 0, pos := "law.go:57", after := #[{ on := 14, ground := Go.Ground.data }, { on := 3, ground := Go.Ground.guard }], guard := some (3, false) }) (v := ?v4140) rfl (by kernel_rfl) (by kernel_rfl) (by kernel_rfl) (fun _ _ _ h => h) (Or.inl ⟨by rfl, ?y4140⟩) (by assumption) ?z4140
                  case y4140 => (intro w hSw; (try dsimp only at hSw); go_simp) <;> with_reducible rfl
                  try simp only [Act.put, List.setIfInBounds_toArray, List.set_cons_zero, List.set_cons_succ]
                  refine wpAnyH_take (i := 16) (oi := { dst := some 49, op := Go.Op.load 3 (Go.Operand.tmp 48), type := 3, pos := "law.go:57", after := #[{ on := 15, ground := Go.Ground.data }, { on := 3, ground := Go.Ground.guard }], guard := some (3, false) }) (v := ?v4141) rfl (by kernel_rfl) (by kernel_rfl) (by kernel_rfl) (fun _ _ _ h => h) (Or.inl ⟨by rfl, ?y4141⟩) (by assumption) ?z4141
                  case y4141 => (intro w hSw; (try dsimp only at hSw); go_simp) <;> with_reducible rfl
                  try simp only [Act.put, List.setIfInBounds_toArray, List.set_cons_zero, List.set_cons_succ]
                  refine wpAnyH_ready (rs := [10]) (by kernel_rfl) (by simp) ?_
                  refine (AllReadyH.cons (o := { dst := some 43, op := Go.Op.call { callee := Go.Callee.value (Go.Operand.func 12), args := #[Go.Operand.tmp 37, Go.Operand.tmp 42], argTypes := #[26, 3] }, type := 5, pos := "law.go:57", after := #[{ on := 4, ground := Go.Ground.data }, { on := 9, ground := Go.Ground.data }, { on := 3, ground := Go.Ground.chain }, { on := 3, ground := Go.Ground.guard }], guard := some (3, false) }) rfl (fun K hK => ?_) AllReadyH.nil)
                  · skip
                    go_simp
                    with_reducible refine (RD.out _).mono ?_
                    rintro q_ u8 ⟨rfl, hb⟩
                    have B8 := Lib.hid (vian HN.out B7.out hb)
                    have P8 := Lib.hid (P7.out.below hb)
                    have R8 := Lib.hid (R7.out.below hb)
                    clear hb B7 P7 R7
                    refine hK.out _ _ ?s4142 (fun hNew => ?r4142)
                    case s4142 => exact ⟨P8.out.2.1, R8.out.2.1, (B8.out.cell (p := ⟨qb, qo + t * 3 + 1, none⟩) QQ.out).trans E1.out⟩
                    clear hK K hHeld
                    have hHeld := hNew
                    clear hNew
                    refine wpAnyH_ready (rs := [17]) (by kernel_rfl) (by simp) ?_
                    refine (AllReadyH.cons (o := { dst := some 50, op := Go.Op.call { callee := Go.Callee.value (Go.Operand.func 13), args := #[Go.Operand.tmp 44, Go.Operand.tmp 49], argTypes := #[27, 3] }, type := 5, pos := "law.go:57", after := #[{ on := 11, ground := Go.Ground.data }, { on := 16, ground := Go.Ground.data }, { on := 10, ground := Go.Ground.chain }, { on := 3, ground := Go.Ground.guard }], guard := some (3, false) }) rfl (fun K hK => ?_) AllReadyH.nil)
                    · skip
                      go_simp
                      with_reducible refine (RRD.out _).mono ?_
                      rintro q_ u9 ⟨rfl, hb⟩
                      have B9 := Lib.hid (vian HN.out B8.out hb)
                      have P9 := Lib.hid (P8.out.below hb)
                      have R9 := Lib.hid (R8.out.below hb)
                      clear hb B8 P8 R8
                      refine hK.out _ _ ?s4143 (fun hNew => ?r4143)
                      case s4143 => exact ⟨P9.out.2.1, R9.out.2.1, (B9.out.cell (p := ⟨qb, qo + t * 3 + 1, none⟩) QQ.out).trans E1.out⟩
                      clear hK K hHeld
                      have hHeld := hNew
                      clear hNew
                      refine wpAnyH_take (i := 18) (oi := { dst := some 51, op := Go.Op.binOp Go.BinOp.neq 5 (Go.Operand.tmp 43) (Go.Operand.tmp 50) 5, type := 4, pos := "law.go:57", after := #[{ on := 10, ground := Go.Ground.data }, { on := 17, ground := Go.Ground.data }, { on := 3, ground := Go.Ground.guard }], guard := some (3, false) }) (v := ?v4144) rfl (by kernel_rfl) (by kernel_rfl) (by kernel_rfl) (fun _ _ _ h => h) (Or.inl ⟨by rfl, ?y4144⟩) (by assumption) ?z4144
                      case y4144 => (intro w hSw; (try dsimp only at hSw); go_simp) <;> with_reducible rfl
                      try simp only [Act.put, List.setIfInBounds_toArray, List.set_cons_zero, List.set_cons_succ]
                      refine wpAnyH_take (i := 19) (oi := { dst := some 52, op := Go.Op.pick (Go.Operand.tmp 36) (Go.Operand.const (Go.Value.bool true)) (Go.Operand.tmp 51), type := 4, pos := "law.go:57", after := #[{ on := 3, ground := Go.Ground.data }, { on := 18, ground := Go.Ground.data }], guard := none }) (v := ?v4145) rfl (by kernel_rfl) (by kernel_rfl) (by kernel_rfl) (fun _ _ _ h => h) (Or.inl ⟨by rfl, ?y4145⟩) (by assumption) ?z4145
                      case y4145 => (intro w hSw; (try dsimp only at hSw); go_simp) <;> with_reducible rfl
                      try simp only [Act.put, List.setIfInBounds_toArray, List.set_cons_zero, List.set_cons_succ]
                      refine wpAnyH_done (by kernel_rfl) ?_ _
                      clear hHeld heq
                      go_wp2
                      go_roundg (gk - 1)
                      exact ⟨t + 1, m', by omega, by have := TG.out; omega, by simp, OK'.out, B9.out, P9.out, R9.out⟩
                      case measure => have := TG.out; omega
      · skip
        obtain ⟨hc, hfz⟩ := R0.out.out
        go_simp
        clear hc hfz
        have B1 := B0
        have P1 := P0
        have R1 := R0
        clear B0 P0 R0
        refine hK.out _ _ ?s20 (fun hNew => ?r20)
        case s20 => exact ⟨(B1.out.cell (p := ⟨qb, qo + t * 3, none⟩) QQ.out).trans E0.out, (B1.out.cell (p := ⟨qb, qo + t * 3 + 1, none⟩) QQ.out).trans E1.out, (B1.out.cell (p := ⟨qb, qo + t * 3 + 2, none⟩) QQ.out).trans E2.out⟩
        clear hK K hHeld
        have hHeld := hNew
        clear hNew
        refine wpAnyH_ready (rs := [0]) (by kernel_rfl) (by simp) ?_
        refine (AllReadyH.cons (o := { dst := some 21, op := Go.Op.load 26 (Go.Operand.tmp 3), type := 26, pos := "law.go:56", after := #[], guard := none }) rfl (fun K hK => ?_) AllReadyH.nil)
        · skip
          obtain ⟨hc, hfz⟩ := P1.out.out
          go_simp
          clear hc hfz
          have B2 := B1
          have P2 := P1
          have R2 := R1
          clear B1 P1 R1
          refine hK.out _ _ ?s21 (fun hNew => ?r21)
          case s21 => exact ⟨(B2.out.cell (p := ⟨qb, qo + t * 3, none⟩) QQ.out).trans E0.out, (B2.out.cell (p := ⟨qb, qo + t * 3 + 1, none⟩) QQ.out).trans E1.out, (B2.out.cell (p := ⟨qb, qo + t * 3 + 2, none⟩) QQ.out).trans E2.out⟩
          clear hK K hHeld
          have hHeld := hNew
          clear hNew
          refine wpAnyH_ready (rs := [5]) (by kernel_rfl) (by simp) ?_
          refine (AllReadyH.cons (o := { dst := some 26, op := Go.Op.call { callee := Go.Callee.value (Go.Operand.func 10), args := #[Go.Operand.tmp 21, Go.Operand.tmp 25], argTypes := #[26, 30] }, type := 26, pos := "law.go:56", after := #[{ on := 0, ground := Go.Ground.data }, { on := 4, ground := Go.Ground.data }], guard := none }) rfl (fun K hK => ?_) AllReadyH.nil)
          · skip
            go_simp
            with_reducible refine (DC.out _).mono ?_
            rintro q_ u3 ⟨rfl, hb⟩
            have B3 := Lib.hid (vian HN.out B2.out hb)
            have P3 := Lib.hid (P2.out.below hb)
            have R3 := Lib.hid (R2.out.below hb)
            clear hb B2 P2 R2
            refine hK.out _ _ ?s22 (fun hNew => ?r22)
            case s22 => exact ⟨(B3.out.cell (p := ⟨qb, qo + t * 3, none⟩) QQ.out).trans E0.out, (B3.out.cell (p := ⟨qb, qo + t * 3 + 1, none⟩) QQ.out).trans E1.out, (B3.out.cell (p := ⟨qb, qo + t * 3 + 2, none⟩) QQ.out).trans E2.out⟩
            clear hK K hHeld
            have hHeld := hNew
            clear hNew
            refine wpAnyH_ready (rs := [11]) (by kernel_rfl) (by simp) ?_
            refine (AllReadyH.cons (o := { dst := some 32, op := Go.Op.call { callee := Go.Callee.value (Go.Operand.func 11), args := #[Go.Operand.tmp 27, Go.Operand.tmp 31], argTypes := #[27, 30] }, type := 27, pos := "law.go:56", after := #[{ on := 6, ground := Go.Ground.data }, { on := 10, ground := Go.Ground.data }, { on := 5, ground := Go.Ground.chain }], guard := none }) rfl (fun K hK => ?_) AllReadyH.nil)
            · skip
              go_simp
              with_reducible refine (RC.out _).mono ?_
              rintro q_ u4 ⟨rfl, hb⟩
              have B4 := Lib.hid (vian HN.out B3.out hb)
              have P4 := Lib.hid (P3.out.below hb)
              have R4 := Lib.hid (R3.out.below hb)
              clear hb B3 P3 R3
              refine hK.out _ _ ?s23 (fun hNew => ?r23)
              case s23 => exact ⟨(B4.out.cell (p := ⟨qb, qo + t * 3, none⟩) QQ.out).trans E0.out, (B4.out.cell (p := ⟨qb, qo + t * 3 + 1, none⟩) QQ.out).trans E1.out, (B4.out.cell (p := ⟨qb, qo + t * 3 + 2, none⟩) QQ.out).trans E2.out⟩
              clear hK K hHeld
              have hHeld := hNew
              clear hNew
              refine wpAnyH_ready (rs := [12]) (by kernel_rfl) (by simp) ?_
              refine (AllReadyH.cons (o := { dst := none, op := Go.Op.store 26 (Go.Operand.tmp 3) (Go.Operand.tmp 26), type := 0, pos := "law.go:56", after := #[{ on := 5, ground := Go.Ground.data }, { on := 11, ground := Go.Ground.chain }, { on := 0, ground := Go.Ground.phase }, { on := 1, ground := Go.Ground.phase }, { on := 2, ground := Go.Ground.phase }, { on := 3, ground := Go.Ground.phase }, { on := 4, ground := Go.Ground.phase }, { on := 5, ground := Go.Ground.phase }, { on := 6, ground := Go.Ground.textOnly Go.Departure.lateStores }, { on := 7, ground := Go.Ground.textOnly Go.Departure.lateStores }, { on := 8, ground := Go.Ground.textOnly Go.Departure.lateStores }, { on := 9, ground := Go.Ground.textOnly Go.Departure.lateStores }, { on := 10, ground := Go.Ground.textOnly Go.Departure.lateStores }, { on := 11, ground := Go.Ground.textOnly Go.Departure.lateStoresUnsure }], guard := none }) rfl (fun K hK => ?_) AllReadyH.nil)
              · skip
                obtain ⟨hc, hfz⟩ := P4.out.out
                go_simp
                clear hc hfz
                have P5 := Lib.hid (P4.out.put12 (.int .u8 m'.s) (.int .u8 m'.m) (.int .u8 m'.h) (.int .i64 m'.day) (.int .i64 m'.sub) (.bool m'.halt) (.bool m'.carry) (.int .u8 m'.a) (.int .u8 m'.b) (.int .u8 m'.c) (.int .u8 m'.d) (.int .u8 m'.e))
                have R5 := Lib.hid (R4.out.far12 NE.out.symm (.int .u8 m'.s) (.int .u8 m'.m) (.int .u8 m'.h) (.int .i64 m'.day) (.int .i64 m'.sub) (.bool m'.halt) (.bool m'.carry) (.int .u8 m'.a) (.int .u8 m'.b) (.int .u8 m'.c) (.int .u8 m'.d) (.int .u8 m'.e))
                have B5 := Lib.hid (set12 B4.out pb LP.out (.int .u8 m'.s) (.int .u8 m'.m) (.int .u8 m'.h) (.int .i64 m'.day) (.int .i64 m'.sub) (.bool m'.halt) (.bool m'.carry) (.int .u8 m'.a) (.int .u8 m'.b) (.int .u8 m'.c) (.int .u8 m'.d) (.int .u8 m'.e))
                clear B4 P4 R4
                refine hK.out _ _ ?s24 (fun hNew => ?r24)
                case s24 => exact ⟨(B5.out.cell (p := ⟨qb, qo + t * 3, none⟩) QQ.out).trans E0.out, (B5.out.cell (p := ⟨qb, qo + t * 3 + 1, none⟩) QQ.out).trans E1.out, (B5.out.cell (p := ⟨qb, qo + t * 3 + 2, none⟩) QQ.out).trans E2.out⟩
                clear hK K hHeld
                have hHeld := hNew
                clear hNew
                generalize (World.setCell (World.setCell (World.setCell (World.setCell (World.setCell (World.setCell (World.setCell (World.setCell (World.setCell (World.setCell (World.setCell (World.setCell u4 ⟨pb, 0, none⟩ (.int .u8 m'.s)) ⟨pb, 1, none⟩ (.int .u8 m'.m)) ⟨pb, 2, none⟩ (.int .u8 m'.h)) ⟨pb, 3, none⟩ (.int .i64 m'.day)) ⟨pb, 4, none⟩ (.int .i64 m'.sub)) ⟨pb, 5, none⟩ (.bool m'.halt)) ⟨pb, 6, none⟩ (.bool m'.carry)) ⟨pb, 7, none⟩ (.int .u8 m'.a)) ⟨pb, 8, none⟩ (.int .u8 m'.b)) ⟨pb, 9, none⟩ (.int .u8 m'.c)) ⟨pb, 10, none⟩ (.int .u8 m'.d)) ⟨pb, 11, none⟩ (.int .u8 m'.e)) = u5 at hHeld B5 P5 R5 ⊢
                refine wpAnyH_ready (rs := [13]) (by kernel_rfl) (by simp) ?_
                refine (AllReadyH.cons (o := { dst := none, op := Go.Op.store 27 (Go.Operand.tmp 4) (Go.Operand.tmp 32), type := 0, pos := "law.go:56", after := #[{ on := 11, ground := Go.Ground.data }, { on := 12, ground := Go.Ground.chain }, { on := 0, ground := Go.Ground.phase }, { on := 1, ground := Go.Ground.phase }, { on := 2, ground := Go.Ground.phase }, { on := 3, ground := Go.Ground.phase }, { on := 4, ground := Go.Ground.phase }, { on := 5, ground := Go.Ground.phase }, { on := 6, ground := Go.Ground.phase }, { on := 7, ground := Go.Ground.phase }, { on := 8, ground := Go.Ground.phase }, { on := 9, ground := Go.Ground.phase }, { on := 10, ground := Go.Ground.phase }, { on := 11, ground := Go.Ground.phase }, { on := 12, ground := Go.Ground.phase }], guard := none }) rfl (fun K hK => ?_) AllReadyH.nil)
                · skip
                  obtain ⟨hc, hfz⟩ := R5.out.out
                  go_simp
                  clear hc hfz
                  have R6 := Lib.hid (R5.out.put12 (.int .u8 m'.s) (.int .u8 m'.m) (.int .u8 m'.h) (.int .i64 m'.day) (.int .i64 m'.sub) (.bool m'.halt) (.bool m'.carry) (.int .u8 m'.a) (.int .u8 m'.b) (.int .u8 m'.c) (.int .u8 m'.d) (.int .u8 m'.e))
                  have P6 := Lib.hid (P5.out.far12 NE.out (.int .u8 m'.s) (.int .u8 m'.m) (.int .u8 m'.h) (.int .i64 m'.day) (.int .i64 m'.sub) (.bool m'.halt) (.bool m'.carry) (.int .u8 m'.a) (.int .u8 m'.b) (.int .u8 m'.c) (.int .u8 m'.d) (.int .u8 m'.e))
                  have B6 := Lib.hid (set12 B5.out rb LR.out (.int .u8 m'.s) (.int .u8 m'.m) (.int .u8 m'.h) (.int .i64 m'.day) (.int .i64 m'.sub) (.bool m'.halt) (.bool m'.carry) (.int .u8 m'.a) (.int .u8 m'.b) (.int .u8 m'.c) (.int .u8 m'.d) (.int .u8 m'.e))
                  clear B5 P5 R5
                  refine hK.out _ _ ?s25 (fun hNew => ?r25)
                  case s25 => exact ⟨(B6.out.cell (p := ⟨qb, qo + t * 3, none⟩) QQ.out).trans E0.out, (B6.out.cell (p := ⟨qb, qo + t * 3 + 1, none⟩) QQ.out).trans E1.out, (B6.out.cell (p := ⟨qb, qo + t * 3 + 2, none⟩) QQ.out).trans E2.out⟩
                  clear hK K hHeld
                  have hHeld := hNew
                  clear hNew
                  generalize (World.setCell (World.setCell (World.setCell (World.setCell (World.setCell (World.setCell (World.setCell (World.setCell (World.setCell (World.setCell (World.setCell (World.setCell u5 ⟨rb, 0, none⟩ (.int .u8 m'.s)) ⟨rb, 1, none⟩ (.int .u8 m'.m)) ⟨rb, 2, none⟩ (.int .u8 m'.h)) ⟨rb, 3, none⟩ (.int .i64 m'.day)) ⟨rb, 4, none⟩ (.int .i64 m'.sub)) ⟨rb, 5, none⟩ (.bool m'.halt)) ⟨rb, 6, none⟩ (.bool m'.carry)) ⟨rb, 7, none⟩ (.int .u8 m'.a)) ⟨rb, 8, none⟩ (.int .u8 m'.b)) ⟨rb, 9, none⟩ (.int .u8 m'.c)) ⟨rb, 10, none⟩ (.int .u8 m'.d)) ⟨rb, 11, none⟩ (.int .u8 m'.e)) = u6 at hHeld B6 P6 R6 ⊢
                  refine wpAnyH_done (by kernel_rfl) ?_ _
                  clear hHeld
                  go_upto_region 8 with (fail)
                  have heq := eq_held m'.a m'.b m'.c m'.d m'.e
                  have V0 := Lib.hid B6.out.drew
                  have V1 := Lib.hid P6.out.drew
                  have V2 := Lib.hid R6.out.drew
                  clear B6 P6 R6
                  refine wp_region_held_drew (S := (fun w' => (∀ o, w'.cell? ⟨pb, o, none⟩ = #[.int .u8 m'.s, .int .u8 m'.m, .int .u8 m'.h, .int .i64 m'.day, .int .i64 m'.sub, .bool m'.halt, .bool m'.carry, .int .u8 m'.a, .int .u8 m'.b, .int .u8 m'.c, .int .u8 m'.d, .int .u8 m'.e][o]?) ∧ (∀ o, w'.cell? ⟨rb, o, none⟩ = #[.int .u8 m'.s, .int .u8 m'.m, .int .u8 m'.h, .int .i64 m'.day, .int .i64 m'.sub, .bool m'.halt, .bool m'.carry, .int .u8 m'.a, .int .u8 m'.b, .int .u8 m'.c, .int .u8 m'.d, .int .u8 m'.e][o]?) ∧ (w'.cell? ⟨qb, qo + t * 3 + 1, none⟩ = some (.int .i64 nn)))) (by kernel_rfl) ⟨V1.out.2.1, V2.out.2.1, (V0.out.cell (p := ⟨qb, qo + t * 3 + 1, none⟩) QQ.out).trans E1.out⟩ (fun hHeld => ?_)
                  have B7 := V0
                  have P7 := V1
                  have R7 := V2
                  clear V0 V1 V2
                  generalize World.drew u6 = u7 at hHeld B7 P7 R7 ⊢
                  refine wpAnyH_take (i := 0) (oi := { dst := some 33, op := Go.Op.load 26 (Go.Operand.tmp 3), type := 26, pos := "law.go:57", after := #[], guard := none }) (v := ?v6066) rfl (by kernel_rfl) (by kernel_rfl) (by kernel_rfl) (fun _ _ _ h => h) (Or.inl ⟨by rfl, ?y6066⟩) (by assumption) ?z6066
                  case y6066 => (intro w hSw; (try dsimp only at hSw); go_simp) <;> with_reducible rfl
                  try simp only [Act.put, List.setIfInBounds_toArray, List.set_cons_zero, List.set_cons_succ]
                  refine wpAnyH_take (i := 1) (oi := { dst := some 34, op := Go.Op.load 27 (Go.Operand.tmp 4), type := 27, pos := "law.go:57", after := #[], guard := none }) (v := ?v6067) rfl (by kernel_rfl) (by kernel_rfl) (by kernel_rfl) (fun _ _ _ h => h) (Or.inl ⟨by rfl, ?y6067⟩) (by assumption) ?z6067
                  case y6067 => (intro w hSw; (try dsimp only at hSw); go_simp) <;> with_reducible rfl
                  try simp only [Act.put, List.setIfInBounds_toArray, List.set_cons_zero, List.set_cons_succ]
                  refine wpAnyH_take (i := 2) (oi := { dst := some 35, op := Go.Op.binOp Go.BinOp.neq 27 (Go.Operand.tmp 33) (Go.Operand.tmp 34) 27, type := 4, pos := "law.go:57", after := #[{ on := 0, ground := Go.Ground.data }, { on := 1, ground := Go.Ground.data }], guard := none }) (v := ?v6068) rfl (by kernel_rfl) (by kernel_rfl) (by kernel_rfl) (fun _ _ _ h => h) (Or.inl ⟨by rfl, ?y6068⟩) (by assumption) ?z6068
                  case y6068 => (intro w hSw; (try dsimp only at hSw); go_simp) <;> with_reducible rfl
                  try simp only [Act.put, List.setIfInBounds_toArray, List.set_cons_zero, List.set_cons_succ]
                  refine wpAnyH_take (i := 3) (oi := { dst := some 36, op := Go.Op.move (Go.Operand.tmp 35), type := 4, pos := "law.go:57", after := #[{ on := 2, ground := Go.Ground.data }], guard := none }) (v := ?v6069) rfl (by kernel_rfl) (by kernel_rfl) (by kernel_rfl) (fun _ _ _ h => h) (Or.inl ⟨by rfl, ?y6069⟩) (by assumption) ?z6069
                  case y6069 => (intro w hSw; (try dsimp only at hSw); go_simp) <;> with_reducible rfl
                  try simp only [Act.put, List.setIfInBounds_toArray, List.set_cons_zero, List.set_cons_succ]
                  refine wpAnyH_take (i := 4) (oi := { dst := some 37, op := Go.Op.load 26 (Go.Operand.tmp 3), type := 26, pos := "law.go:57", after := #[{ on := 3, ground := Go.Ground.guard }], guard := some (3, false) }) (v := ?v6070) rfl (by kernel_rfl) (by kernel_rfl) (by kernel_rfl) (fun _ _ _ h => h) (Or.inl ⟨by rfl, ?y6070⟩) (by assumption) ?z6070
                  case y6070 => (intro w hSw; (try dsimp only at hSw); go_simp) <;> with_reducible rfl
                  try simp only [Act.put, List.setIfInBounds_toArray, List.set_cons_zero, List.set_cons_succ]
                  refine wpAnyH_take (i := 5) (oi := { dst := some 38, op := Go.Op.move (Go.Operand.tmp 0), type := 22, pos := "law.go:57", after := #[{ on := 3, ground := Go.Ground.guard }], guard := some (3, false) }) (v := ?v6071) rfl (by kernel_rfl) (by kernel_rfl) (by kernel_rfl) (fun _ _ _ h => h) (Or.inl ⟨by rfl, ?y6071⟩) (by assumption) ?z6071
                  case y6071 => (intro w hSw; (try dsimp only at hSw); go_simp) <;> with_reducible rfl
                  try simp only [Act.put, List.setIfInBounds_toArray, List.set_cons_zero, List.set_cons_succ]
                  refine wpAnyH_take (i := 6) (oi := { dst := some 39, op := Go.Op.move (Go.Operand.tmp 5), type := 3, pos := "law.go:57", after := #[{ on := 3, ground := Go.Ground.guard }], guard := some (3, false) }) (v := ?v6072) rfl (by kernel_rfl) (by kernel_rfl) (by kernel_rfl) (fun _ _ _ h => h) (Or.inl ⟨by rfl, ?y6072⟩) (by assumption) ?z6072
                  case y6072 => (intro w hSw; (try dsimp only at hSw); go_simp) <;> with_reducible rfl
                  try simp only [Act.put, List.setIfInBounds_toArray, List.set_cons_zero, List.set_cons_succ]
                  refine wpAnyH_take (i := 7) (oi := { dst := some 40, op := Go.Op.indexAddr 22 (Go.Operand.tmp 38) (Go.Operand.tmp 39), type := 0, pos := "law.go:57", after := #[{ on := 5, ground := Go.Ground.data }, { on := 6, ground := Go.Ground.data }, { on := 3, ground := Go.Ground.guard }], guard := some (3, false) }) (v := ?v6073) rfl (by kernel_rfl) (by kernel_rfl) (by kernel_rfl) (fun _ _ _ h => h) (Or.inl ⟨by rfl, ?y6073⟩) (by assumption) ?z6073
                  case y6073 => (intro w hSw; (try dsimp only at hSw); go_simp) <;> with_reducible rfl
                  try simp only [Act.put, List.setIfInBounds_toArray, List.set_cons_zero, List.set_cons_succ]
                  refine wpAnyH_take (i := 8) (oi := { dst := some 41, op := Go.Op.fieldAddr 30 (Go.Operand.tmp 40) 1, type := 0, pos := "law.go:57", after := #[{ on := 7, ground := Go.Ground.data }, { on := 3, ground := Go.Ground.guard }], guard := some (3, false) }) (v := ?v6074) rfl (by kernel_rfl) (by kernel_rfl) (by kernel_rfl) (fun _ _ _ h => h) (Or.inl ⟨by rfl, ?y6074⟩) (by assumption) ?z6074
                  case y6074 => (intro w hSw; (try dsimp only at hSw); go_simp) <;> with_reducible rfl
                  try simp only [Act.put, List.setIfInBounds_toArray, List.set_cons_zero, List.set_cons_succ]
                  refine wpAnyH_take (i := 9) (oi := { dst := some 42, op := Go.Op.load 3 (Go.Operand.tmp 41), type := 3, pos := "law.go:57", after := #[{ on := 8, ground := Go.Ground.data }, { on := 3, ground := Go.Ground.guard }], guard := some (3, false) }) (v := ?v6075) rfl (by kernel_rfl) (by kernel_rfl) (by kernel_rfl) (fun _ _ _ h => h) (Or.inl ⟨by rfl, ?y6075⟩) (by assumption) ?z6075
                  case y6075 => (intro w hSw; (try dsimp only at hSw); go_simp) <;> with_reducible rfl
                  try simp only [Act.put, List.setIfInBounds_toArray, List.set_cons_zero, List.set_cons_succ]
                  refine wpAnyH_take (i := 11) (oi := { dst := some 44, op := Go.Op.load 27 (Go.Operand.tmp 4), type := 27, pos := "law.go:57", after := #[{ on := 3, ground := Go.Ground.guard }], guard := some (3, false) }) (v := ?v6076) rfl (by kernel_rfl) (by kernel_rfl) (by kernel_rfl) (fun _ _ _ h => h) (Or.inl ⟨by rfl, ?y6076⟩) (by assumption) ?z6076
                  case y6076 => (intro w hSw; (try dsimp only at hSw); go_simp) <;> with_reducible rfl
                  try simp only [Act.put, List.setIfInBounds_toArray, List.set_cons_zero, List.set_cons_succ]
                  refine wpAnyH_take (i := 12) (oi := { dst := some 45, op := Go.Op.move (Go.Operand.tmp 0), type := 22, pos := "law.go:57", after := #[{ on := 3, ground := Go.Ground.guard }], guard := some (3, false) }) (v := ?v6077) rfl (by kernel_rfl) (by kernel_rfl) (by kernel_rfl) (fun _ _ _ h => h) (Or.inl ⟨by rfl, ?y6077⟩) (by assumption) ?z6077
                  case y6077 => (intro w hSw; (try dsimp only at hSw); go_simp) <;> with_reducible rfl
                  try simp only [Act.put, List.setIfInBounds_toArray, List.set_cons_zero, List.set_cons_succ]
                  refine wpAnyH_take (i := 13) (oi := { dst := some 46, op := Go.Op.move (Go.Operand.tmp 5), type := 3, pos := "law.go:57", after := #[{ on := 3, ground := Go.Ground.guard }], guard := some (3, false) }) (v := ?v6078) rfl (by kernel_rfl) (by kernel_rfl) (by kernel_rfl) (fun _ _ _ h => h) (Or.inl ⟨by rfl, ?y6078⟩) (by assumption) ?z6078
                  case y6078 => (intro w hSw; (try dsimp only at hSw); go_simp) <;> with_reducible rfl
                  try simp only [Act.put, List.setIfInBounds_toArray, List.set_cons_zero, List.set_cons_succ]
                  refine wpAnyH_take (i := 14) (oi := { dst := some 47, op := Go.Op.indexAddr 22 (Go.Operand.tmp 45) (Go.Operand.tmp 46), type := 0, pos := "law.go:57", after := #[{ on := 12, ground := Go.Ground.data }, { on := 13, ground := Go.Ground.data }, { on := 3, ground := Go.Ground.guard }], guard := some (3, false) }) (v := ?v6079) rfl (by kernel_rfl) (by kernel_rfl) (by kernel_rfl) (fun _ _ _ h => h) (Or.inl ⟨by rfl, ?y6079⟩) (by assumption) ?z6079
                  case y6079 => (intro w hSw; (try dsimp only at hSw); go_simp) <;> with_reducible rfl
                  try simp only [Act.put, List.setIfInBounds_toArray, List.set_cons_zero, List.set_cons_succ]
                  refine wpAnyH_take (i := 15) (oi := { dst := some 48, op := Go.Op.fieldAddr 30 (Go.Operand.tmp 47) 1, type := 0, pos := "law.go:57", after := #[{ on := 14, ground := Go.Ground.data }, { on := 3, ground := Go.Ground.guard }], guard := some (3, false) }) (v := ?v6080) rfl (by kernel_rfl) (by kernel_rfl) (by kernel_rfl) (fun _ _ _ h => h) (Or.inl ⟨by rfl, ?y6080⟩) (by assumption) ?z6080
                  case y6080 => (intro w hSw; (try dsimp only at hSw); go_simp) <;> with_reducible rfl
                  try simp only [Act.put, List.setIfInBounds_toArray, List.set_cons_zero, List.set_cons_succ]
                  refine wpAnyH_take (i := 16) (oi := { dst := some 49, op := Go.Op.load 3 (Go.Operand.tmp 48), type := 3, pos := "law.go:57", after := #[{ on := 15, ground := Go.Ground.data }, { on := 3, ground := Go.Ground.guard }], guard := some (3, false) }) (v := ?v6081) rfl (by kernel_rfl) (by kernel_rfl) (by kernel_rfl) (fun _ _ _ h => h) (Or.inl ⟨by rfl, ?y6081⟩) (by assumption) ?z6081
                  case y6081 => (intro w hSw; (try dsimp only at hSw); go_simp) <;> with_reducible rfl
                  try simp only [Act.put, List.setIfInBounds_toArray, List.set_cons_zero, List.set_cons_succ]
                  refine wpAnyH_ready (rs := [10]) (by kernel_rfl) (by simp) ?_
                  refine (AllReadyH.cons (o := { dst := some 43, op := Go.Op.call { callee := Go.Callee.value (Go.Operand.func 12), args := #[Go.Operand.tmp 37, Go.Operand.tmp 42], argTypes := #[26, 3] }, type := 5, pos := "law.go:57", after := #[{ on := 4, ground := Go.Ground.data }, { on := 9, ground := Go.Ground.data }, { on := 3, ground := Go.Ground.chain }, { on := 3, ground := Go.Ground.guard }], guard := some (3, false) }) rfl (fun K hK => ?_) AllReadyH.nil)
                  · skip
                    go_simp
                    with_reducible refine (RD.out _).mono ?_
                    rintro q_ u8 ⟨rfl, hb⟩
                    have B8 := Lib.hid (vian HN.out B7.out hb)
                    have P8 := Lib.hid (P7.out.below hb)
                    have R8 := Lib.hid (R7.out.below hb)
                    clear hb B7 P7 R7
                    refine hK.out _ _ ?s6082 (fun hNew => ?r6082)
                    case s6082 => exact ⟨P8.out.2.1, R8.out.2.1, (B8.out.cell (p := ⟨qb, qo + t * 3 + 1, none⟩) QQ.out).trans E1.out⟩
                    clear hK K hHeld
                    have hHeld := hNew
                    clear hNew
                    refine wpAnyH_ready (rs := [17]) (by kernel_rfl) (by simp) ?_
                    refine (AllReadyH.cons (o := { dst := some 50, op := Go.Op.call { callee := Go.Callee.value (Go.Operand.func 13), args := #[Go.Operand.tmp 44, Go.Operand.tmp 49], argTypes := #[27, 3] }, type := 5, pos := "law.go:57", after := #[{ on := 11, ground := Go.Ground.data }, { on := 16, ground := Go.Ground.data }, { on := 10, ground := Go.Ground.chain }, { on := 3, ground := Go.Ground.guard }], guard := some (3, false) }) rfl (fun K hK => ?_) AllReadyH.nil)
                    · skip
                      go_simp
                      with_reducible refine (RRD.out _).mono ?_
                      rintro q_ u9 ⟨rfl, hb⟩
                      have B9 := Lib.hid (vian HN.out B8.out hb)
                      have P9 := Lib.hid (P8.out.below hb)
                      have R9 := Lib.hid (R8.out.below hb)
                      clear hb B8 P8 R8
                      refine hK.out _ _ ?s6083 (fun hNew => ?r6083)
                      case s6083 => exact ⟨P9.out.2.1, R9.out.2.1, (B9.out.cell (p := ⟨qb, qo + t * 3 + 1, none⟩) QQ.out).trans E1.out⟩
                      clear hK K hHeld
                      have hHeld := hNew
                      clear hNew
                      refine wpAnyH_take (i := 18) (oi := { dst := some 51, op := Go.Op.binOp Go.BinOp.neq 5 (Go.Operand.tmp 43) (Go.Operand.tmp 50) 5, type := 4, pos := "law.go:57", after := #[{ on := 10, ground := Go.Ground.data }, { on := 17, ground := Go.Ground.data }, { on := 3, ground := Go.Ground.guard }], guard := some (3, false) }) (v := ?v6084) rfl (by kernel_rfl) (by kernel_rfl) (by kernel_rfl) (fun _ _ _ h => h) (Or.inl ⟨by rfl, ?y6084⟩) (by assumption) ?z6084
                      case y6084 => (intro w hSw; (try dsimp only at hSw); go_simp) <;> with_reducible rfl
                      try simp only [Act.put, List.setIfInBounds_toArray, List.set_cons_zero, List.set_cons_succ]
                      refine wpAnyH_take (i := 19) (oi := { dst := some 52, op := Go.Op.pick (Go.Operand.tmp 36) (Go.Operand.const (Go.Value.bool true)) (Go.Operand.tmp 51), type := 4, pos := "law.go:57", after := #[{ on := 3, ground := Go.Ground.data }, { on := 18, ground := Go.Ground.data }], guard := none }) (v := ?v6085) rfl (by kernel_rfl) (by kernel_rfl) (by kernel_rfl) (fun _ _ _ h => h) (Or.inl ⟨by rfl, ?y6085⟩) (by assumption) ?z6085
                      case y6085 => (intro w hSw; (try dsimp only at hSw); go_simp) <;> with_reducible rfl
                      try simp only [Act.put, List.setIfInBounds_toArray, List.set_cons_zero, List.set_cons_succ]
                      refine wpAnyH_done (by kernel_rfl) ?_ _
                      clear hHeld heq
                      go_wp2
                      go_roundg (gk - 1)
                      exact ⟨t + 1, m', by omega, by have := TG.out; omega, by simp, OK'.out, B9.out, P9.out, R9.out⟩
                      case measure => have := TG.out; omega
    · have et : t = n := by omega
      subst et
      have hc1 := TP.out.2.1
      have hc2 := TR.out.2.1
      go_wp2
      go_ret
      exact ⟨rfl, TB.out⟩
theorem plays_walk (v : Value) (w : World) (h : OpsIn w v) : Calls Try.prog 3 #[v] w fun e w' => e = .returned (.bool true) ∧ Below w.heap.size w w' := by
  obtain ⟨a, n, c, rfl, hm, f, g, h, hh, hi⟩ := h
  by_cases h0 : 60 < n
  · exact plays_long a n c h0 w
  · exact plays_some a n c h0 f g h hh w hi
end Go.Proofs.Ytkpjoongbckhcaa
