/-
  The walk through MbcAlone: for every world in which the writes lie as told; no other condition.
-/
import Derived.Test.YtafmmffgenolaaaLaw0
import Derived.Deep.Cut
import Derived.StillTailTactics
import Derived.Deep.LoopGhost
namespace Go.Proofs.Ytafmmffgenolaaa
open Go.ChangeShapes Go.WideShapes Go.ChangeAt Go.RowKit
set_option linter.unusedVariables false
set_option linter.unusedSimpArgs false
set_option maxRecDepth 100000
theorem far8c {w : World} {r b o : Nat} {x : Option Value} (h : w.cell? ⟨r, o, none⟩ = x) (hn : r ≠ b) (v0 v1 v2 v3 v4 v5 v6 v7 : Value) : World.cell? (World.setCell (World.setCell (World.setCell (World.setCell (World.setCell (World.setCell (World.setCell (World.setCell w ⟨b, 0, none⟩ (v0)) ⟨b, 1, none⟩ (v1)) ⟨b, 2, none⟩ (v2)) ⟨b, 3, none⟩ (v3)) ⟨b, 4, none⟩ (v4)) ⟨b, 5, none⟩ (v5)) ⟨b, 6, none⟩ (v6)) ⟨b, 7, none⟩ (v7)) ⟨r, o, none⟩ = x := by
  have e : ∀ i, (⟨b, i, none⟩ : Addr) ≠ ⟨r, o, none⟩ := fun i q => hn (by injection q with q; exact q.symm)
  rw [World.cell?_setCell_other _ _ _ _ (e 7), World.cell?_setCell_other _ _ _ _ (e 6), World.cell?_setCell_other _ _ _ _ (e 5), World.cell?_setCell_other _ _ _ _ (e 4), World.cell?_setCell_other _ _ _ _ (e 3), World.cell?_setCell_other _ _ _ _ (e 2), World.cell?_setCell_other _ _ _ _ (e 1), World.cell?_setCell_other _ _ _ _ (e 0)]
  exact h
set_option maxHeartbeats 2000000 in
theorem alone_long (k b r : Nat) (pa px : Int) (a : Option Addr) (n c : Nat) (h0 : 100 < n) (w : World) : Calls Try.prog 8 #[.int .u8 k, .int .u8 b, .int .u8 r, .slice a n c, .agg #[.int .u16 pa, .int .u8 px]] w fun e w' => e = .returned (.bool true) ∧ Below w.heap.size w w' := by
  have AW := Lib.hid awake_c
  have h0I : (100 : Int) < n := by omega
  have hnot : ∀ (x : Bool) (w : World), (Op.unary .not (.bool x)).run Try.prog w = .ok (.bool (!x)) w := fun _ _ => rfl
  go_enter Try.func8, Try.ntmps8
  go_wp2_with fail
  with_reducible refine (AW.out _).mono ?_
  rintro e w1 ⟨rfl, b1⟩
  have B1 := Lib.hid (via (own1 w _) b1)
  clear b1
  go_wp2_with fail
  with_reducible refine (AW.out _).mono ?_
  rintro e w2 ⟨rfl, b2⟩
  have B2 := Lib.hid (via B1.out b2)
  clear b2
  go_wp2
  go_ret
  exact ⟨rfl, B2.out⟩
set_option maxHeartbeats 4000000 in
theorem alone_some (k b r : Nat) (hk : k < 256) (hb : b < 256) (hr : r < 256) (pa px : Int) (p0 : 0 ≤ pa) (p1 : pa < 65536) (x0 : 0 ≤ px) (x1 : px < 256) (a : Option Addr) (n c : Nat) (h0 : ¬ 100 < n) (f g : Nat → Int) (hf : ∀ i, 0 ≤ f i ∧ f i < 65536) (hg : ∀ i, 0 ≤ g i ∧ g i < 256) (w : World) (hin : 0 < n → ∃ qb qo, a = some ⟨qb, qo, none⟩ ∧ qb < w.heap.size ∧ ∀ j, j < n → w.cell? ⟨qb, qo + j * 2, none⟩ = some (.int .u16 (f j)) ∧ w.cell? ⟨qb, qo + j * 2 + 1, none⟩ = some (.int .u8 (g j))) : Calls Try.prog 8 #[.int .u8 k, .int .u8 b, .int .u8 r, .slice a n c, .agg #[.int .u16 pa, .int .u8 px]] w fun e w' => e = .returned (.bool true) ∧ Below w.heap.size w w' := by
  have AW := Lib.hid awake_c
  have HIN := Lib.hid hin
  have HF := Lib.hid hf
  have HG := Lib.hid hg
  obtain ⟨K, hK⟩ : ∃ q_, kdV k = q_ := ⟨_, rfl⟩
  obtain ⟨B, hB⟩ : ∃ q_, bnV b = q_ := ⟨_, rfl⟩
  obtain ⟨R, hR⟩ : ∃ q_, rmV k r = q_ := ⟨_, rfl⟩
  have Kb := kdV_bd k
  have Bb := bnV_bd b
  have Rb := rmV_bd k r
  rw [hK] at Kb
  rw [hB] at Bb
  rw [hR] at Rb
  have CC := Lib.hid (fun W => cart_c k b r K B R hk hb hr hK hB hR W)
  obtain ⟨m0, hm0⟩ : ∃ q_, newV K B R = q_ := ⟨_, rfl⟩
  have M0 := Lib.hid (show m0.ok from hm0 ▸ newV_ok Kb Bb Rb)
  have NC := Lib.hid (fun W => new_m K B R m0 hm0 { data := #[] } false false false W)
  have hnot : ∀ (x : Bool) (w : World), (Op.unary .not (.bool x)).run Try.prog w = .ok (.bool (!x)) w := fun _ _ => rfl
  have h0I : ¬ (100 : Int) < n := by omega
  have eo := or32768 pa p0 p1
  have ea := and32767 pa p0 p1
  clear hin hf hg hK hB hR
  go_enter Try.func8, Try.ntmps8
  go_wp2_with fail
  with_reducible refine (AW.out _).mono ?_
  rintro e w1 ⟨rfl, b1⟩
  have B1 := Lib.hid (via (own1 w _) b1)
  have P1 := Lib.hid (Has.stepN b1)
  have LP := Lib.hid (show w.heap.size < w1.heap.size from (Has.stepN b1).1)
  clear b1
  go_wp2_with fail
  with_reducible refine (CC.out _).mono ?_
  rintro e w2 ⟨rfl, b2⟩
  have B2 := Lib.hid (via B1.out b2)
  have P2 := Lib.hid (P1.out.below b2)
  clear b2 B1 P1
  go_wp2_with fail
  with_reducible refine (NC.out _).mono ?_
  rintro e w3 ⟨rfl, b3⟩
  have Q3 := own1 w3 (.cells #[.int .i64 m0.k, .int .i64 m0.n, .int .i64 m0.r, .bool m0.on, .bool m0.mo, .int .i64 m0.lo, .int .i64 m0.hi, .int .u8 m0.la] 29)
  have B4 := Lib.hid (via (via B2.out b3) Q3)
  have P4 := Lib.hid ((P2.out.below b3).below Q3)
  have M4 := Lib.hid (Has.new w3 #[.int .i64 m0.k, .int .i64 m0.n, .int .i64 m0.r, .bool m0.on, .bool m0.mo, .int .i64 m0.lo, .int .i64 m0.hi, .int .u8 m0.la] 29)
  have LH := Lib.hid (show w.heap.size ≤ w3.heap.size from (via B2.out b3).size)
  have NP := Lib.hid (show w.heap.size ≠ w3.heap.size by have := (P2.out.below b3).1; omega)
  clear b3 Q3 B2 P2 CC NC
  go_upto_region 4 with (fail)
  generalize w3.alloc (.cells #[.int .i64 m0.k, .int .i64 m0.n, .int .i64 m0.r, .bool m0.on, .bool m0.mo, .int .i64 m0.lo, .int .i64 m0.hi, .int .u8 m0.la] 29) = w4 at B4 P4 M4 ⊢
  generalize w3.heap.size = h at M4 LH NP ⊢
  go_wp2
  go_loopg [33] n (fun g' i wr => ∃ (t : Nat) (m : MV), t ≤ n ∧ g' + t = n ∧ i = .int .i64 t ∧ m.ok ∧ Below w.heap.size w wr ∧ Has wr h #[.int .i64 m.k, .int .i64 m.n, .int .i64 m.r, .bool m.on, .bool m.mo, .int .i64 m.lo, .int .i64 m.hi, .int .u8 m.la] ∧ Has wr w.heap.size #[.int .u16 pa, .int .u8 px])
  case atStart => exact ⟨0, m0, by omega, by omega, rfl, M0.out, B4.out, M4.out, P4.out⟩
  case round =>
    obtain ⟨t, m, ht, hg, rfl, hok, hB, hM, hP⟩ := hrel
    have TG := Lib.hid hg
    have OK := Lib.hid hok
    have TB := Lib.hid hB
    have TM := Lib.hid hM
    have TP := Lib.hid hP
    clear hg hok hB hM hP B4 P4 M4
    by_cases hlt : t < n
    · have l1 : (t : Int) < n := by omega
      have l0 : (0 : Int) ≤ t := by omega
      obtain ⟨qb, qo, rfl, hqb, hcells⟩ := HIN.out (by omega)
      have QL := Lib.hid (Nat.lt_of_lt_of_le hqb TB.out.drew.size)
      have hq1 : (World.drew wr).cell? ⟨qb, qo + t * 2, none⟩ = some (.int .u16 (f t)) := (TB.out.drew.cell (p := ⟨qb, qo + t * 2, none⟩) hqb).trans (hcells t hlt).1
      have hq2 : (World.drew wr).cell? ⟨qb, qo + t * 2 + 1, none⟩ = some (.int .u8 (g t)) := (TB.out.drew.cell (p := ⟨qb, qo + t * 2 + 1, none⟩) hqb).trans (hcells t hlt).2
      have fb := HF.out t
      have gb := HG.out t
      generalize f t = pf at hq1 fb
      generalize g t = pg at hq2 gb
      clear hcells
      obtain ⟨m', hm'⟩ : ∃ q_, wrV m (pf % 32768) pg = q_ := ⟨_, rfl⟩
      obtain ⟨hh, hhh⟩ : ∃ q_, heldV m (pf % 32768) pg = q_ := ⟨_, rfl⟩
      have WC := Lib.hid (fun W => write_c m m' pf pg hh OK.out fb.1 fb.2 gb.1 gb.2 hm' hhh W)
      have OK' := Lib.hid (show m'.ok from hm' ▸ wrV_ok OK.out _ _ gb)
      clear hm' hhh
      have QH := Lib.hid (show qb ≠ h by have := LH.out; omega)
      clear hqb
      go_upto_region 7 with (fail)
      have TM := Lib.hid TM.out.drew
      have TB := Lib.hid TB.out.drew
      have TP := Lib.hid TP.out.drew
      have QA0 := Lib.hid (show (World.drew wr).cell? ⟨qb, qo + t * 2, none⟩ = some (.int .u16 pf) from hq1)
      have QA1 := Lib.hid (show (World.drew wr).cell? ⟨qb, qo + t * 2 + 1, none⟩ = some (.int .u8 pg) from hq2)
      clear hq1 hq2
      refine wp_region_held_drew (S := (fun w' => (w'.cell? ⟨qb, qo + t * 2, none⟩ = some (.int .u16 pf)) ∧ (w'.cell? ⟨qb, qo + t * 2 + 1, none⟩ = some (.int .u8 pg)))) (by kernel_rfl) ⟨QA0.out, QA1.out⟩ (fun hHeld => ?_)
      generalize World.drew wr = u0 at hHeld TM TB QL QA0 QA1 TP  ⊢
      refine wpAnyH_take (i := 1) (oi := { dst := some 38, op := Go.Op.move (Go.Operand.tmp 3), type := 22, pos := "law.go:168", after := #[], guard := none }) (v := ?v1) rfl (by kernel_rfl) (by kernel_rfl) (by kernel_rfl) (fun _ _ _ h => h) (Or.inl ⟨by rfl, ?y1⟩) (by assumption) ?z1
      case y1 => (intro w hSw; (try dsimp only at hSw); go_simp) <;> with_reducible rfl
      try simp only [Act.put, List.setIfInBounds_toArray, List.set_cons_zero, List.set_cons_succ]
      refine wpAnyH_take (i := 2) (oi := { dst := some 39, op := Go.Op.move (Go.Operand.tmp 12), type := 3, pos := "law.go:168", after := #[], guard := none }) (v := ?v2) rfl (by kernel_rfl) (by kernel_rfl) (by kernel_rfl) (fun _ _ _ h => h) (Or.inl ⟨by rfl, ?y2⟩) (by assumption) ?z2
      case y2 => (intro w hSw; (try dsimp only at hSw); go_simp) <;> with_reducible rfl
      try simp only [Act.put, List.setIfInBounds_toArray, List.set_cons_zero, List.set_cons_succ]
      refine wpAnyH_take (i := 3) (oi := { dst := some 40, op := Go.Op.indexAddr 22 (Go.Operand.tmp 38) (Go.Operand.tmp 39), type := 0, pos := "law.go:168", after := #[{ on := 1, ground := Go.Ground.data }, { on := 2, ground := Go.Ground.data }], guard := none }) (v := ?v3) rfl (by kernel_rfl) (by kernel_rfl) (by kernel_rfl) (fun _ _ _ h => h) (Or.inl ⟨by rfl, ?y3⟩) (by assumption) ?z3
      case y3 => (intro w hSw; (try dsimp only at hSw); go_simp) <;> with_reducible rfl
      try simp only [Act.put, List.setIfInBounds_toArray, List.set_cons_zero, List.set_cons_succ]
      refine wpAnyH_take (i := 4) (oi := { dst := some 41, op := Go.Op.fieldAddr 37 (Go.Operand.tmp 40) 0, type := 0, pos := "law.go:168", after := #[{ on := 3, ground := Go.Ground.data }], guard := none }) (v := ?v4) rfl (by kernel_rfl) (by kernel_rfl) (by kernel_rfl) (fun _ _ _ h => h) (Or.inl ⟨by rfl, ?y4⟩) (by assumption) ?z4
      case y4 => (intro w hSw; (try dsimp only at hSw); go_simp) <;> with_reducible rfl
      try simp only [Act.put, List.setIfInBounds_toArray, List.set_cons_zero, List.set_cons_succ]
      refine wpAnyH_take (i := 5) (oi := { dst := some 42, op := Go.Op.load 23 (Go.Operand.tmp 41), type := 23, pos := "law.go:168", after := #[{ on := 4, ground := Go.Ground.data }], guard := none }) (v := ?v5) rfl (by kernel_rfl) (by kernel_rfl) (by kernel_rfl) (fun _ _ _ h => h) (Or.inl ⟨by rfl, ?y5⟩) (by assumption) ?z5
      case y5 => (intro w hSw; (try dsimp only at hSw); go_simp) <;> with_reducible rfl
      try simp only [Act.put, List.setIfInBounds_toArray, List.set_cons_zero, List.set_cons_succ]
      refine wpAnyH_take (i := 6) (oi := { dst := some 43, op := Go.Op.move (Go.Operand.tmp 3), type := 22, pos := "law.go:168", after := #[], guard := none }) (v := ?v6) rfl (by kernel_rfl) (by kernel_rfl) (by kernel_rfl) (fun _ _ _ h => h) (Or.inl ⟨by rfl, ?y6⟩) (by assumption) ?z6
      case y6 => (intro w hSw; (try dsimp only at hSw); go_simp) <;> with_reducible rfl
      try simp only [Act.put, List.setIfInBounds_toArray, List.set_cons_zero, List.set_cons_succ]
      refine wpAnyH_take (i := 7) (oi := { dst := some 44, op := Go.Op.move (Go.Operand.tmp 12), type := 3, pos := "law.go:168", after := #[], guard := none }) (v := ?v7) rfl (by kernel_rfl) (by kernel_rfl) (by kernel_rfl) (fun _ _ _ h => h) (Or.inl ⟨by rfl, ?y7⟩) (by assumption) ?z7
      case y7 => (intro w hSw; (try dsimp only at hSw); go_simp) <;> with_reducible rfl
      try simp only [Act.put, List.setIfInBounds_toArray, List.set_cons_zero, List.set_cons_succ]
      refine wpAnyH_take (i := 8) (oi := { dst := some 45, op := Go.Op.indexAddr 22 (Go.Operand.tmp 43) (Go.Operand.tmp 44), type := 0, pos := "law.go:168", after := #[{ on := 6, ground := Go.Ground.data }, { on := 7, ground := Go.Ground.data }], guard := none }) (v := ?v8) rfl (by kernel_rfl) (by kernel_rfl) (by kernel_rfl) (fun _ _ _ h => h) (Or.inl ⟨by rfl, ?y8⟩) (by assumption) ?z8
      case y8 => (intro w hSw; (try dsimp only at hSw); go_simp) <;> with_reducible rfl
      try simp only [Act.put, List.setIfInBounds_toArray, List.set_cons_zero, List.set_cons_succ]
      refine wpAnyH_take (i := 9) (oi := { dst := some 46, op := Go.Op.fieldAddr 37 (Go.Operand.tmp 45) 1, type := 0, pos := "law.go:168", after := #[{ on := 8, ground := Go.Ground.data }], guard := none }) (v := ?v9) rfl (by kernel_rfl) (by kernel_rfl) (by kernel_rfl) (fun _ _ _ h => h) (Or.inl ⟨by rfl, ?y9⟩) (by assumption) ?z9
      case y9 => (intro w hSw; (try dsimp only at hSw); go_simp) <;> with_reducible rfl
      try simp only [Act.put, List.setIfInBounds_toArray, List.set_cons_zero, List.set_cons_succ]
      refine wpAnyH_take (i := 10) (oi := { dst := some 47, op := Go.Op.load 5 (Go.Operand.tmp 46), type := 5, pos := "law.go:168", after := #[{ on := 9, ground := Go.Ground.data }], guard := none }) (v := ?v10) rfl (by kernel_rfl) (by kernel_rfl) (by kernel_rfl) (fun _ _ _ h => h) (Or.inl ⟨by rfl, ?y10⟩) (by assumption) ?z10
      case y10 => (intro w hSw; (try dsimp only at hSw); go_simp) <;> with_reducible rfl
      try simp only [Act.put, List.setIfInBounds_toArray, List.set_cons_zero, List.set_cons_succ]
      refine wpAnyH_ready (rs := [0]) (by kernel_rfl) (by simp) ?_
      refine (AllReadyH.cons (o := { dst := some 37, op := Go.Op.load 29 (Go.Operand.tmp 11), type := 29, pos := "law.go:168", after := #[], guard := none }) rfl (fun K hK => ?_) AllReadyH.nil)
      · skip
        obtain ⟨hc, hfz⟩ := TM.out.out
        go_simp
        clear hc hfz
        refine hK.out _ _ ?s11 (fun hNew => ?r11)
        case s11 => exact ⟨QA0.out, QA1.out⟩
        clear hK K hHeld
        have hHeld := hNew
        clear hNew
        refine wpAnyH_ready (rs := [11]) (by kernel_rfl) (by simp) ?_
        refine (AllReadyH.cons (o := { dst := some 48, op := Go.Op.call { callee := Go.Callee.value (Go.Operand.func 13), args := #[Go.Operand.tmp 37, Go.Operand.tmp 42, Go.Operand.tmp 47], argTypes := #[29, 23, 5] }, type := 34, pos := "law.go:168", after := #[{ on := 0, ground := Go.Ground.data }, { on := 5, ground := Go.Ground.data }, { on := 10, ground := Go.Ground.data }], guard := none }) rfl (fun K hK => ?_) AllReadyH.nil)
        · skip
          go_simp
          with_reducible refine (WC.out _).mono ?_
          rintro e u1 ⟨rfl, hb⟩
          have TB1 := Lib.hid (via TB.out hb)
          have TM1 := Lib.hid (TM.out.below hb)
          have QB0 := Lib.hid ((hb.cell (p := ⟨qb, qo + t * 2, none⟩) QL.out).trans QA0.out)
          have QB1 := Lib.hid ((hb.cell (p := ⟨qb, qo + t * 2 + 1, none⟩) QL.out).trans QA1.out)
          have TP1 := Lib.hid (TP.out.below hb)
          clear hb
          refine hK.out _ _ ?s12 (fun hNew => ?r12)
          case s12 => exact ⟨QB0.out, QB1.out⟩
          clear hK K hHeld
          have hHeld := hNew
          clear hNew
          refine wpAnyH_take (i := 12) (oi := { dst := some 36, op := Go.Op.move (Go.Operand.tmp 48), type := 34, pos := "law.go:168", after := #[{ on := 11, ground := Go.Ground.data }], guard := none }) (v := ?v13) rfl (by kernel_rfl) (by kernel_rfl) (by kernel_rfl) (fun _ _ _ h => h) (Or.inl ⟨by rfl, ?y13⟩) (by assumption) ?z13
          case y13 => (intro w hSw; (try dsimp only at hSw); go_simp) <;> with_reducible rfl
          try simp only [Act.put, List.setIfInBounds_toArray, List.set_cons_zero, List.set_cons_succ]
          refine wpAnyH_take (i := 13) (oi := { dst := some 49, op := Go.Op.extract (Go.Operand.tmp 36) 0, type := 29, pos := "law.go:168", after := #[{ on := 12, ground := Go.Ground.data }], guard := none }) (v := ?v14) rfl (by kernel_rfl) (by kernel_rfl) (by kernel_rfl) (fun _ _ _ h => h) (Or.inl ⟨by rfl, ?y14⟩) (by assumption) ?z14
          case y14 => (intro w hSw; (try dsimp only at hSw); go_simp) <;> with_reducible rfl
          try simp only [Act.put, List.setIfInBounds_toArray, List.set_cons_zero, List.set_cons_succ]
          refine wpAnyH_take (i := 14) (oi := { dst := some 50, op := Go.Op.extract (Go.Operand.tmp 36) 1, type := 4, pos := "law.go:168", after := #[{ on := 12, ground := Go.Ground.data }, { on := 15, ground := Go.Ground.gcOnly Go.Departure.lateStores }], guard := none }) (v := ?v15) rfl (by kernel_rfl) (by kernel_rfl) (by kernel_rfl) (fun _ _ _ h => h) (Or.inl ⟨by rfl, ?y15⟩) (by assumption) ?z15
          case y15 => (intro w hSw; (try dsimp only at hSw); go_simp) <;> with_reducible rfl
          try simp only [Act.put, List.setIfInBounds_toArray, List.set_cons_zero, List.set_cons_succ]
          refine wpAnyH_ready (rs := [15]) (by kernel_rfl) (by simp) ?_
          refine (AllReadyH.cons (o := { dst := none, op := Go.Op.store 29 (Go.Operand.tmp 11) (Go.Operand.tmp 49), type := 0, pos := "law.go:168", after := #[{ on := 13, ground := Go.Ground.data }, { on := 11, ground := Go.Ground.chain }, { on := 0, ground := Go.Ground.phase }, { on := 1, ground := Go.Ground.phase }, { on := 2, ground := Go.Ground.phase }, { on := 3, ground := Go.Ground.phase }, { on := 4, ground := Go.Ground.phase }, { on := 5, ground := Go.Ground.phase }, { on := 6, ground := Go.Ground.phase }, { on := 7, ground := Go.Ground.phase }, { on := 8, ground := Go.Ground.phase }, { on := 9, ground := Go.Ground.phase }, { on := 10, ground := Go.Ground.phase }, { on := 11, ground := Go.Ground.phase }, { on := 12, ground := Go.Ground.phase }, { on := 13, ground := Go.Ground.phase }, { on := 14, ground := Go.Ground.textOnly Go.Departure.lateStores }], guard := none }) rfl (fun K hK => ?_) AllReadyH.nil)
          · skip
            obtain ⟨hc, hfz⟩ := TM1.out.out
            go_simp
            clear hc hfz
            have TM2 := Lib.hid (TM1.out.put8 (.int .i64 m'.k) (.int .i64 m'.n) (.int .i64 m'.r) (.bool m'.on) (.bool m'.mo) (.int .i64 m'.lo) (.int .i64 m'.hi) (.int .u8 m'.la))
            have TB2 := Lib.hid (set8 TB1.out h LH.out (.int .i64 m'.k) (.int .i64 m'.n) (.int .i64 m'.r) (.bool m'.on) (.bool m'.mo) (.int .i64 m'.lo) (.int .i64 m'.hi) (.int .u8 m'.la))
            have TP2 := Lib.hid (TP1.out.far8 NP.out (.int .i64 m'.k) (.int .i64 m'.n) (.int .i64 m'.r) (.bool m'.on) (.bool m'.mo) (.int .i64 m'.lo) (.int .i64 m'.hi) (.int .u8 m'.la))
            have QC0 := Lib.hid (far8c QB0.out QH.out (.int .i64 m'.k) (.int .i64 m'.n) (.int .i64 m'.r) (.bool m'.on) (.bool m'.mo) (.int .i64 m'.lo) (.int .i64 m'.hi) (.int .u8 m'.la))
            have QC1 := Lib.hid (far8c QB1.out QH.out (.int .i64 m'.k) (.int .i64 m'.n) (.int .i64 m'.r) (.bool m'.on) (.bool m'.mo) (.int .i64 m'.lo) (.int .i64 m'.hi) (.int .u8 m'.la))
            refine hK.out _ _ ?s16 (fun hNew => ?r16)
            case s16 => exact ⟨QC0.out, QC1.out⟩
            clear hK K hHeld
            have hHeld := hNew
            clear hNew
            generalize (World.setCell (World.setCell (World.setCell (World.setCell (World.setCell (World.setCell (World.setCell (World.setCell u1 ⟨h, 0, none⟩ (.int .i64 m'.k)) ⟨h, 1, none⟩ (.int .i64 m'.n)) ⟨h, 2, none⟩ (.int .i64 m'.r)) ⟨h, 3, none⟩ (.bool m'.on)) ⟨h, 4, none⟩ (.bool m'.mo)) ⟨h, 5, none⟩ (.int .i64 m'.lo)) ⟨h, 6, none⟩ (.int .i64 m'.hi)) ⟨h, 7, none⟩ (.int .u8 m'.la)) = u2 at hHeld TM2 TB2 TP2 ⊢
            clear hHeld
            refine wpAnyH_done (by kernel_rfl) ?_ _
            go_wp2
            go_roundg (gk - 1)
            exact ⟨t + 1, m', by omega, by have := TG.out; omega, by simp, OK'.out, TB2.out, TM2.out, TP2.out⟩
            case measure => have := TG.out; omega
    · have et : t = n := by omega
      obtain ⟨m', hm'⟩ : ∃ q_, wrV m (pa % 32768) px = q_ := ⟨_, rfl⟩
      obtain ⟨hh, hhh⟩ : ∃ q_, heldV m (pa % 32768) px = q_ := ⟨_, rfl⟩
      have W1 := Lib.hid (fun W => write_c m m' (pa % 32768 + 32768) px hh OK.out (by omega) (by omega) x0 x1 (by rw [show (pa % 32768 + 32768) % 32768 = pa % 32768 by omega]; exact hm') (by rw [show (pa % 32768 + 32768) % 32768 = pa % 32768 by omega]; exact hhh) W)
      have W2 := Lib.hid (fun W => write_c m m' (pa % 32768) px hh OK.out (by omega) (by omega) x0 x1 (by rw [show (pa % 32768) % 32768 = pa % 32768 by omega]; exact hm') (by rw [show (pa % 32768) % 32768 = pa % 32768 by omega]; exact hhh) W)
      clear hm' hhh
      subst et
      have Q4 := own1 wr (.cells #[.int .i64 m.k, .int .i64 m.n, .int .i64 m.r, .bool m.on, .bool m.mo, .int .i64 m.lo, .int .i64 m.hi, .int .u8 m.la] 29)
      have TB3 := Lib.hid (via TB.out Q4)
      have TM3 := Lib.hid (TM.out.below Q4)
      have TP3 := Lib.hid (TP.out.below Q4)
      have TS3 := Lib.hid (Has.new wr #[.int .i64 m.k, .int .i64 m.n, .int .i64 m.r, .bool m.on, .bool m.mo, .int .i64 m.lo, .int .i64 m.hi, .int .u8 m.la] 29)
      obtain ⟨hc, hfz⟩ := TM.out.out
      clear Q4
      go_upto_region 10 with (fail)
      clear hc hfz TB TM TP
      generalize wr.alloc (.cells #[.int .i64 m.k, .int .i64 m.n, .int .i64 m.r, .bool m.on, .bool m.mo, .int .i64 m.lo, .int .i64 m.hi, .int .u8 m.la] 29) = w4' at TB3 TM3 TP3 TS3 ⊢
      generalize wr.heap.size = s at TS3 ⊢
      obtain ⟨hc, hfz⟩ := TM3.out.out
      obtain ⟨pc, pfz⟩ := TP3.out.out
      go_wp2_with fail
      with_reducible refine (W1.out _).mono ?_
      rintro e w5 ⟨rfl, b5⟩
      clear hc hfz pc pfz
      have B5 := Lib.hid (via TB3.out b5)
      have M5 := Lib.hid (TM3.out.below b5)
      have P5 := Lib.hid (TP3.out.below b5)
      have S5 := Lib.hid (TS3.out.below b5)
      clear b5 TB3 TM3 TP3 TS3
      have Q6 := own1 w5 (.cells #[.int .i64 m'.k, .int .i64 m'.n, .int .i64 m'.r, .bool m'.on, .bool m'.mo, .int .i64 m'.lo, .int .i64 m'.hi, .int .u8 m'.la] 29)
      have B6 := Lib.hid (via B5.out Q6)
      have M6 := Lib.hid (M5.out.below Q6)
      have P6 := Lib.hid (P5.out.below Q6)
      have S6 := Lib.hid (S5.out.below Q6)
      have A6 := Lib.hid (Has.new w5 #[.int .i64 m'.k, .int .i64 m'.n, .int .i64 m'.r, .bool m'.on, .bool m'.mo, .int .i64 m'.lo, .int .i64 m'.hi, .int .u8 m'.la] 29)
      clear Q6
      go_upto_region 11 with (fail)
      generalize w5.alloc (.cells #[.int .i64 m'.k, .int .i64 m'.n, .int .i64 m'.r, .bool m'.on, .bool m'.mo, .int .i64 m'.lo, .int .i64 m'.hi, .int .u8 m'.la] 29) = w6 at B6 M6 P6 S6 A6 ⊢
      generalize w5.heap.size = s6 at A6 ⊢
      clear B5 M5 P5 S5
      obtain ⟨hc, hfz⟩ := M6.out.out
      obtain ⟨pc, pfz⟩ := P6.out.out
      go_wp2_with fail
      with_reducible refine (W2.out _).mono ?_
      rintro e w7 ⟨rfl, b7⟩
      clear hc hfz pc pfz
      have Q8 := own1 w7 (.cells #[.int .i64 m'.k, .int .i64 m'.n, .int .i64 m'.r, .bool m'.on, .bool m'.mo, .int .i64 m'.lo, .int .i64 m'.hi, .int .u8 m'.la] 29)
      have B8 := Lib.hid (via (via B6.out b7) Q8)
      have M8 := Lib.hid ((M6.out.below b7).below Q8)
      have S8 := Lib.hid ((S6.out.below b7).below Q8)
      have A8 := Lib.hid ((A6.out.below b7).below Q8)
      have D8 := Lib.hid (Has.new w7 #[.int .i64 m'.k, .int .i64 m'.n, .int .i64 m'.r, .bool m'.on, .bool m'.mo, .int .i64 m'.lo, .int .i64 m'.hi, .int .u8 m'.la] 29)
      clear Q8 b7 B6 M6 P6 S6 A6
      go_upto_region 12 with (fail)
      generalize w7.alloc (.cells #[.int .i64 m'.k, .int .i64 m'.n, .int .i64 m'.r, .bool m'.on, .bool m'.mo, .int .i64 m'.lo, .int .i64 m'.hi, .int .u8 m'.la] 29) = w8 at B8 M8 S8 A8 D8 ⊢
      generalize w7.heap.size = s8 at D8 ⊢
      have c1 := M8.out.2.1
      have c2 := S8.out.2.1
      have c3 := A8.out.2.1
      have c4 := D8.out.2.1
      go_wp2
      go_ret
      exact ⟨rfl, B8.out⟩
theorem alone_walk (k b r : Nat) (v : Value) (pa px : Int) (hk : k < 256) (hb : b < 256) (hr : r < 256) (p0 : 0 ≤ pa) (p1 : pa < 65536) (x0 : 0 ≤ px) (x1 : px < 256) (w : World) (h : PkIn w v) : Calls Try.prog 8 #[.int .u8 k, .int .u8 b, .int .u8 r, v, .agg #[.int .u16 pa, .int .u8 px]] w fun e w' => e = .returned (.bool true) ∧ Below w.heap.size w w' := by
  obtain ⟨a, n, c, rfl, hm, f, g, hf, hg, hin⟩ := h
  by_cases h0 : 100 < n
  · exact alone_long k b r pa px a n c h0 w
  · exact alone_some k b r hk hb hr pa px p0 p1 x0 x1 a n c h0 f g hf hg w hin
end Go.Proofs.Ytafmmffgenolaaa
