/-
  The walk through MbcHolds: for every world in which the bytes lie as told; no other condition.
-/
import Derived.Test.YtafmmffgenolaaaLaw0
import Derived.Deep.Cut
import Derived.StillTailTactics
import Derived.Deep.LoopGhost
namespace Go.Proofs.Ytafmmffgenolaaa
open Go.ChangeShapes Go.WideShapes Go.ChangeAt Go.RowKit
set_option linter.unusedVariables false
set_option linter.unusedSimpArgs false
set_option maxRecDepth 100000
theorem far8c {w : World} {r b o : Nat} {x : Option Value} (h : w.cell? ⟨r, o, none⟩ = x) (hn : r ≠ b) (v0 v1 v2 v3 v4 v5 v6 v7 : Value) : World.cell? (World.setCell (World.setCell (World.setCell (World.setCell (World.setCell (World.setCell (World.setCell (World.setCell w ⟨b, 0, none⟩ (v0)) ⟨b, 1, none⟩ (v1)) ⟨b, 2, none⟩ (v2)) ⟨b, 3, none⟩ (v3)) ⟨b, 4, none⟩ (v4)) ⟨b, 5, none⟩ (v5)) ⟨b, 6, none⟩ (v6)) ⟨b, 7, none⟩ (v7)) ⟨r, o, none⟩ = x := by
  have e : ∀ i, (⟨b, i, none⟩ : Addr) ≠ ⟨r, o, none⟩ := fun i q => hn (by injection q with q; exact q.symm)
  rw [World.cell?_setCell_other _ _ _ _ (e 7), World.cell?_setCell_other _ _ _ _ (e 6), World.cell?_setCell_other _ _ _ _ (e 5), World.cell?_setCell_other _ _ _ _ (e 4), World.cell?_setCell_other _ _ _ _ (e 3), World.cell?_setCell_other _ _ _ _ (e 2), World.cell?_setCell_other _ _ _ _ (e 1), World.cell?_setCell_other _ _ _ _ (e 0)]
  exact h
set_option maxHeartbeats 2000000 in
theorem holds_long (k : Nat) (a : Option Addr) (n c : Nat) (h0 : 100 < n) (w : World) : Calls Try.prog 7 #[.int .u8 k, .slice a n c] w fun e w' => e = .returned (.bool true) ∧ Below w.heap.size w w' := by
  have AW := Lib.hid awake_c
  have h0I : (100 : Int) < n := by omega
  have hnot : ∀ (x : Bool) (w : World), (Op.unary .not (.bool x)).run Try.prog w = .ok (.bool (!x)) w := fun _ _ => rfl
  go_enter Try.func7, Try.ntmps7
  go_wp2_with fail
  with_reducible refine (AW.out _).mono ?_
  rintro e w1 ⟨rfl, b1⟩
  have B1 := Lib.hid (b1)
  clear b1
  go_wp2_with fail
  with_reducible refine (AW.out _).mono ?_
  rintro e w2 ⟨rfl, b2⟩
  have B2 := Lib.hid (via B1.out b2)
  clear b2
  go_wp2
  go_ret
  exact ⟨rfl, B2.out⟩
theorem held_ok (m : MV) (K la a x : Int) (hm : m.ok) (hk : m.k = K) (hl : K = 3 → m.la = la) (a0 : 24576 ≤ a) (x0 : 0 ≤ x ∧ x < 256) :
    (wrV m a x).ok ∧ (wrV m a x).k = K ∧ (K = 3 → (wrV m a x).la = x) ∧ (((K == 3) = false ∧ heldV m a x = false) ∨ ((K == 3) = true ∧ (la == 0) = false ∧ heldV m a x = false) ∨ ((K == 3) = true ∧ (la == 0) = true ∧ (x == 1) = false ∧ heldV m a x = false) ∨ ((K == 3) = true ∧ (la == 0) = true ∧ (x == 1) = true ∧ heldV m a x = true)) := by
  refine ⟨wrV_ok hm a x x0, (wrV_same m a x).1.trans hk, fun h3 => ?_, ?_⟩
  · have h3' : m.k = 3 := hk.trans h3
    unfold wrV
    rw [if_neg (by omega), if_neg (by omega), if_pos h3', if_neg (by omega), if_neg (by omega), if_neg (by omega)]
  · unfold heldV
    have d : decide (24576 ≤ a) = true := by simp; omega
    rw [hk, d]
    by_cases h3 : K = 3
    · rw [hl h3]
      have e3 : (K == 3) = true := by simp [h3]
      right
      cases h1 : (la == 0)
      · left; simp [e3]
      · right
        cases h2 : (x == 1)
        · left; simp [e3]
        · right; simp [e3]
    · left; simp [h3]
set_option maxHeartbeats 4000000 in
theorem holds_some (k : Nat) (hk : k < 256) (a : Option Addr) (n c : Nat) (h0 : ¬ 100 < n) (g : Nat → Int) (hg : ∀ i, 0 ≤ g i ∧ g i < 256) (w : World) (hin : 0 < n → ∃ qb qo, a = some ⟨qb, qo, none⟩ ∧ qb < w.heap.size ∧ ∀ j, j < n → w.cell? ⟨qb, qo + j, none⟩ = some (.int .u8 (g j))) : Calls Try.prog 7 #[.int .u8 k, .slice a n c] w fun e w' => e = .returned (.bool true) ∧ Below w.heap.size w w' := by
  have hf := hg
  have AW := Lib.hid awake_c
  have HIN := Lib.hid hin
  have HF := Lib.hid hf
  have HG := Lib.hid hg
  obtain ⟨K, hK⟩ : ∃ q_, kdV k = q_ := ⟨_, rfl⟩
  obtain ⟨B, hB⟩ : ∃ q_, bnV 1 = q_ := ⟨_, rfl⟩
  obtain ⟨R, hR⟩ : ∃ q_, rmV k 2 = q_ := ⟨_, rfl⟩
  have Kb := kdV_bd k
  have Bb := bnV_bd 1
  have Rb := rmV_bd k 2
  rw [hK] at Kb
  rw [hB] at Bb
  rw [hR] at Rb
  have CC := Lib.hid (show ∀ W : World, Calls Try.prog 10 #[.int .u8 (k : Int), .int .u8 (1 : Int), .int .u8 (2 : Int)] W (fun e w' => e = .returned (.agg #[.string { data := #[] }, .int .i64 K, .bool false, .bool false, .int .i64 B, .int .i64 R, .bool false]) ∧ Below W.heap.size W w') from fun W => cart_c k 1 2 K B R hk (by decide) (by decide) hK hB hR W)
  obtain ⟨m0, hm0⟩ : ∃ q_, newV K B R = q_ := ⟨_, rfl⟩
  have M0 := Lib.hid (show m0.ok from hm0 ▸ newV_ok Kb Bb Rb)
  have NC := Lib.hid (fun W => new_m K B R m0 hm0 { data := #[] } false false false W)
  have hnot : ∀ (x : Bool) (w : World), (Op.unary .not (.bool x)).run Try.prog w = .ok (.bool (!x)) w := fun _ _ => rfl
  have h0I : ¬ (100 : Int) < n := by omega
  have ML := Lib.hid (show m0.k = K from hm0 ▸ rfl)
  have MA := Lib.hid (show m0.la = 255 from hm0 ▸ rfl)
  clear hin hf hg hK hB hR HF
  go_enter Try.func7, Try.ntmps7
  go_wp2_with fail
  with_reducible refine (AW.out _).mono ?_
  rintro e w1 ⟨rfl, b1⟩
  have B1 := Lib.hid b1
  clear b1
  go_wp2_with fail
  with_reducible refine (CC.out _).mono ?_
  rintro e w2 ⟨rfl, b2⟩
  have Q2 := own1 w2 (.cells #[.string { data := #[] }, .int .i64 K, .bool false, .bool false, .int .i64 B, .int .i64 R, .bool false] 26)
  have B2 := Lib.hid (via (via B1.out b2) Q2)
  have H2 := Lib.hid (Has.new w2 #[.string { data := #[] }, .int .i64 K, .bool false, .bool false, .int .i64 B, .int .i64 R, .bool false] 26)
  have LB := Lib.hid (show w.heap.size ≤ w2.heap.size from (via B1.out b2).size)
  clear b2 Q2 B1
  go_upto_region 4 with (fail)
  generalize w2.alloc (.cells #[.string { data := #[] }, .int .i64 K, .bool false, .bool false, .int .i64 B, .int .i64 R, .bool false] 26) = w2' at B2 H2 ⊢
  generalize w2.heap.size = hb at H2 LB ⊢
  obtain ⟨hc, hfz⟩ := H2.out.out
  go_wp2_with fail
  with_reducible refine (NC.out _).mono ?_
  rintro e w3 ⟨rfl, b3⟩
  clear hc hfz
  have Q3 := own1 w3 (.cells #[.int .i64 m0.k, .int .i64 m0.n, .int .i64 m0.r, .bool m0.on, .bool m0.mo, .int .i64 m0.lo, .int .i64 m0.hi, .int .u8 m0.la] 29)
  have B4 := Lib.hid (via (via B2.out b3) Q3)
  have H4 := Lib.hid ((H2.out.below b3).below Q3)
  have M4 := Lib.hid (Has.new w3 #[.int .i64 m0.k, .int .i64 m0.n, .int .i64 m0.r, .bool m0.on, .bool m0.mo, .int .i64 m0.lo, .int .i64 m0.hi, .int .u8 m0.la] 29)
  have LH := Lib.hid (show w.heap.size ≤ w3.heap.size from (via B2.out b3).size)
  have NH := Lib.hid (show hb ≠ w3.heap.size by have := (H2.out.below b3).1; omega)
  clear b3 Q3 B2 H2 CC NC
  go_upto_region 6 with (fail)
  generalize w3.alloc (.cells #[.int .i64 m0.k, .int .i64 m0.n, .int .i64 m0.r, .bool m0.on, .bool m0.mo, .int .i64 m0.lo, .int .i64 m0.hi, .int .u8 m0.la] 29) = w4 at B4 H4 M4 ⊢
  generalize w3.heap.size = h at M4 LH NH ⊢
  go_wp2
  go_loopg [7, 24] n (fun g' s i wr => ∃ (t : Nat) (m : MV) (la : Int), t ≤ n ∧ g' + t = n ∧ i = .int .i64 t ∧ s = .int .u8 la ∧ m.ok ∧ m.k = K ∧ (K = 3 → m.la = la) ∧ Below w.heap.size w wr ∧ Has wr h #[.int .i64 m.k, .int .i64 m.n, .int .i64 m.r, .bool m.on, .bool m.mo, .int .i64 m.lo, .int .i64 m.hi, .int .u8 m.la] ∧ Has wr hb #[.string { data := #[] }, .int .i64 K, .bool false, .bool false, .int .i64 B, .int .i64 R, .bool false])
  case atStart => exact ⟨0, m0, 255, by omega, by omega, rfl, rfl, M0.out, ML.out, fun _ => MA.out, B4.out, M4.out, H4.out⟩
  case round =>
    obtain ⟨t, m, la, ht, hg, rfl, rfl, hok, hmk, hml, hB, hM, hP⟩ := hrel
    have TG := Lib.hid hg
    have OK := Lib.hid hok
    have MK := Lib.hid hmk
    have MLA := Lib.hid hml
    have TB := Lib.hid hB
    have TM := Lib.hid hM
    have TP := Lib.hid hP
    clear hg hok hmk hml hB hM hP B4 H4 M4 ML MA
    by_cases hlt : t < n
    · have l1 : (t : Int) < n := by omega
      have l0 : (0 : Int) ≤ t := by omega
      have l2 : (t : Int) < 100 := by omega
      obtain ⟨qb, qo, rfl, hqb, hcells⟩ := HIN.out (by omega)
      have QL := Lib.hid (Nat.lt_of_lt_of_le hqb TB.out.drew.size)
      have hq1 : (World.drew wr).cell? ⟨qb, qo + t, none⟩ = some (.int .u8 (g t)) := (TB.out.drew.cell (p := ⟨qb, qo + t, none⟩) hqb).trans (hcells t hlt)
      have gb := HG.out t
      generalize g t = pg at hq1 gb
      clear hcells
      obtain ⟨av, hav⟩ : ∃ q_ : Int, 24576 + (t : Int) * 37 % 8192 = q_ := ⟨_, rfl⟩
      have av0 : 24576 ≤ av := by omega
      have av1 : av < 32768 := by omega
      have HO := held_ok m K la av pg OK.out MK.out MLA.out av0 gb
      obtain ⟨ok', mk', ml', hways⟩ := HO
      obtain ⟨m', hm'⟩ : ∃ q_, wrV m av pg = q_ := ⟨_, rfl⟩
      rw [hm'] at ok' mk' ml'
      have OK' := Lib.hid ok'
      have MK' := Lib.hid mk'
      have ML' := Lib.hid ml'
      have e0 : av % 32768 = av := by omega
      obtain ⟨hh, hhh⟩ : ∃ q_, heldV m av pg = q_ := ⟨_, rfl⟩
      rw [hhh] at hways
      have HW := Lib.hid hways
      have WC := Lib.hid (fun W => write_c m m' av pg hh OK.out (by omega) (by omega) gb.1 gb.2 (by rw [e0]; exact hm') (by rw [e0]; exact hhh) W)
      clear e0 hm' ok' mk' ml' hways hhh
      have e1 : IntKind.u16.wrap (t : Int) = t := by simp [IntKind.wrap, IntKind.bits, IntKind.signed]; omega
      have e2 : IntKind.u16.wrap ((t : Int) * 37) = (t : Int) * 37 := by simp [IntKind.wrap, IntKind.bits, IntKind.signed]; omega
      have e3 : ((t : Int) * 37).tmod 8192 = (t : Int) * 37 % 8192 := Int.tmod_eq_emod_of_nonneg (by omega)
      have e4 : IntKind.u16.wrap (24576 + (t : Int) * 37 % 8192) = av := by rw [hav]; simp [IntKind.wrap, IntKind.bits, IntKind.signed]; omega
      have QH := Lib.hid (show qb ≠ h by have := LH.out; omega)
      clear hqb hav
      go_upto_region 10 with (fail)
      have TM := Lib.hid TM.out.drew
      have TB := Lib.hid TB.out.drew
      have TP := Lib.hid TP.out.drew
      have QA0 := Lib.hid (show (World.drew wr).cell? ⟨qb, qo + t, none⟩ = some (.int .u8 pg) from hq1)
      clear hq1
      refine wp_region_held_drew (S := (fun w' => (w'.cell? ⟨qb, qo + t, none⟩ = some (.int .u8 pg)) ∧ True)) (by kernel_rfl) ⟨QA0.out, trivial⟩ (fun hHeld => ?_)
      generalize World.drew wr = u0 at hHeld TM TB QL QA0 TP  ⊢
      refine wpAnyH_take (i := 1) (oi := { dst := some 29, op := Go.Op.move (Go.Operand.tmp 8), type := 3, pos := "law.go:152", after := #[], guard := none }) (v := ?v1) rfl (by kernel_rfl) (by kernel_rfl) (by kernel_rfl) (fun _ _ _ h => h) (Or.inl ⟨by rfl, ?y1⟩) (by assumption) ?z1
      case y1 => (intro w hSw; (try dsimp only at hSw); go_simp) <;> with_reducible rfl
      try simp only [Act.put, List.setIfInBounds_toArray, List.set_cons_zero, List.set_cons_succ]
      refine wpAnyH_take (i := 2) (oi := { dst := some 30, op := Go.Op.convert 3 23 (Go.Operand.tmp 29), type := 23, pos := "law.go:152", after := #[{ on := 1, ground := Go.Ground.data }], guard := none }) (v := ?v2) rfl (by kernel_rfl) (by kernel_rfl) (by kernel_rfl) (fun _ _ _ h => h) (Or.inl ⟨by rfl, ?y2⟩) (by assumption) ?z2
      case y2 => (intro w hSw; (try dsimp only at hSw); go_simp) <;> with_reducible rfl
      try simp only [Act.put, List.setIfInBounds_toArray, List.set_cons_zero, List.set_cons_succ]
      refine wpAnyH_take (i := 3) (oi := { dst := some 31, op := Go.Op.binOp Go.BinOp.mul 23 (Go.Operand.tmp 30) (Go.Operand.const (Go.Value.int Go.IntKind.u16 37)) 23, type := 23, pos := "law.go:152", after := #[{ on := 2, ground := Go.Ground.data }], guard := none }) (v := ?v3) rfl (by kernel_rfl) (by kernel_rfl) (by kernel_rfl) (fun _ _ _ h => h) (Or.inl ⟨by rfl, ?y3⟩) (by assumption) ?z3
      case y3 => (intro w hSw; (try dsimp only at hSw); go_simp) <;> with_reducible rfl
      try simp only [Act.put, List.setIfInBounds_toArray, List.set_cons_zero, List.set_cons_succ]
      refine wpAnyH_take (i := 4) (oi := { dst := some 32, op := Go.Op.binOp Go.BinOp.rem 23 (Go.Operand.tmp 31) (Go.Operand.const (Go.Value.int Go.IntKind.u16 8192)) 23, type := 23, pos := "law.go:152", after := #[{ on := 3, ground := Go.Ground.data }], guard := none }) (v := ?v4) rfl (by kernel_rfl) (by kernel_rfl) (by kernel_rfl) (fun _ _ _ h => h) (Or.inl ⟨by rfl, ?y4⟩) (by assumption) ?z4
      case y4 => (intro w hSw; (try dsimp only at hSw); go_simp) <;> with_reducible rfl
      try simp only [Act.put, List.setIfInBounds_toArray, List.set_cons_zero, List.set_cons_succ]
      refine wpAnyH_take (i := 5) (oi := { dst := some 33, op := Go.Op.binOp Go.BinOp.add 23 (Go.Operand.const (Go.Value.int Go.IntKind.u16 24576)) (Go.Operand.tmp 32) 23, type := 23, pos := "law.go:152", after := #[{ on := 4, ground := Go.Ground.data }], guard := none }) (v := ?v5) rfl (by kernel_rfl) (by kernel_rfl) (by kernel_rfl) (fun _ _ _ h => h) (Or.inl ⟨by rfl, ?y5⟩) (by assumption) ?z5
      case y5 => (intro w hSw; (try dsimp only at hSw); go_simp) <;> with_reducible rfl
      try simp only [Act.put, List.setIfInBounds_toArray, List.set_cons_zero, List.set_cons_succ]
      refine wpAnyH_take (i := 6) (oi := { dst := some 34, op := Go.Op.move (Go.Operand.tmp 1), type := 49, pos := "law.go:152", after := #[], guard := none }) (v := ?v6) rfl (by kernel_rfl) (by kernel_rfl) (by kernel_rfl) (fun _ _ _ h => h) (Or.inl ⟨by rfl, ?y6⟩) (by assumption) ?z6
      case y6 => (intro w hSw; (try dsimp only at hSw); go_simp) <;> with_reducible rfl
      try simp only [Act.put, List.setIfInBounds_toArray, List.set_cons_zero, List.set_cons_succ]
      refine wpAnyH_take (i := 7) (oi := { dst := some 35, op := Go.Op.move (Go.Operand.tmp 8), type := 3, pos := "law.go:152", after := #[], guard := none }) (v := ?v7) rfl (by kernel_rfl) (by kernel_rfl) (by kernel_rfl) (fun _ _ _ h => h) (Or.inl ⟨by rfl, ?y7⟩) (by assumption) ?z7
      case y7 => (intro w hSw; (try dsimp only at hSw); go_simp) <;> with_reducible rfl
      try simp only [Act.put, List.setIfInBounds_toArray, List.set_cons_zero, List.set_cons_succ]
      refine wpAnyH_take (i := 8) (oi := { dst := some 36, op := Go.Op.indexAddr 49 (Go.Operand.tmp 34) (Go.Operand.tmp 35), type := 0, pos := "law.go:152", after := #[{ on := 6, ground := Go.Ground.data }, { on := 7, ground := Go.Ground.data }], guard := none }) (v := ?v8) rfl (by kernel_rfl) (by kernel_rfl) (by kernel_rfl) (fun _ _ _ h => h) (Or.inl ⟨by rfl, ?y8⟩) (by assumption) ?z8
      case y8 => (intro w hSw; (try dsimp only at hSw); go_simp) <;> with_reducible rfl
      try simp only [Act.put, List.setIfInBounds_toArray, List.set_cons_zero, List.set_cons_succ]
      refine wpAnyH_take (i := 9) (oi := { dst := some 37, op := Go.Op.load 5 (Go.Operand.tmp 36), type := 5, pos := "law.go:152", after := #[{ on := 8, ground := Go.Ground.data }], guard := none }) (v := ?v9) rfl (by kernel_rfl) (by kernel_rfl) (by kernel_rfl) (fun _ _ _ h => h) (Or.inl ⟨by rfl, ?y9⟩) (by assumption) ?z9
      case y9 => (intro w hSw; (try dsimp only at hSw); go_simp) <;> with_reducible rfl
      try simp only [Act.put, List.setIfInBounds_toArray, List.set_cons_zero, List.set_cons_succ]
      refine wpAnyH_ready (rs := [0]) (by kernel_rfl) (by simp) ?_
      refine (AllReadyH.cons (o := { dst := some 28, op := Go.Op.load 29 (Go.Operand.tmp 6), type := 29, pos := "law.go:152", after := #[], guard := none }) rfl (fun K hK => ?_) AllReadyH.nil)
      · skip
        obtain ⟨hc, hfz⟩ := TM.out.out
        go_simp
        clear hc hfz
        refine hK.out _ _ ?s10 (fun hNew => ?r10)
        case s10 => exact ⟨QA0.out, trivial⟩
        clear hK K hHeld
        have hHeld := hNew
        clear hNew
        refine wpAnyH_ready (rs := [10]) (by kernel_rfl) (by simp) ?_
        refine (AllReadyH.cons (o := { dst := some 38, op := Go.Op.call { callee := Go.Callee.value (Go.Operand.func 13), args := #[Go.Operand.tmp 28, Go.Operand.tmp 33, Go.Operand.tmp 37], argTypes := #[29, 23, 5] }, type := 34, pos := "law.go:152", after := #[{ on := 0, ground := Go.Ground.data }, { on := 5, ground := Go.Ground.data }, { on := 9, ground := Go.Ground.data }], guard := none }) rfl (fun K hK => ?_) AllReadyH.nil)
        · skip
          go_simp
          with_reducible refine (WC.out _).mono ?_
          rintro e u1 ⟨rfl, hb⟩
          have TB1 := Lib.hid (via TB.out hb)
          have TM1 := Lib.hid (TM.out.below hb)
          have QB0 := Lib.hid ((hb.cell (p := ⟨qb, qo + t, none⟩) QL.out).trans QA0.out)
          have TP1 := Lib.hid (TP.out.below hb)
          clear hb
          refine hK.out _ _ ?s11 (fun hNew => ?r11)
          case s11 => exact ⟨QB0.out, trivial⟩
          clear hK K hHeld
          have hHeld := hNew
          clear hNew
          refine wpAnyH_take (i := 11) (oi := { dst := some 27, op := Go.Op.move (Go.Operand.tmp 38), type := 34, pos := "law.go:152", after := #[{ on := 10, ground := Go.Ground.data }], guard := none }) (v := ?v12) rfl (by kernel_rfl) (by kernel_rfl) (by kernel_rfl) (fun _ _ _ h => h) (Or.inl ⟨by rfl, ?y12⟩) (by assumption) ?z12
          case y12 => (intro w hSw; (try dsimp only at hSw); go_simp) <;> with_reducible rfl
          try simp only [Act.put, List.setIfInBounds_toArray, List.set_cons_zero, List.set_cons_succ]
          refine wpAnyH_take (i := 12) (oi := { dst := some 39, op := Go.Op.extract (Go.Operand.tmp 27) 0, type := 29, pos := "law.go:152", after := #[{ on := 11, ground := Go.Ground.data }], guard := none }) (v := ?v13) rfl (by kernel_rfl) (by kernel_rfl) (by kernel_rfl) (fun _ _ _ h => h) (Or.inl ⟨by rfl, ?y13⟩) (by assumption) ?z13
          case y13 => (intro w hSw; (try dsimp only at hSw); go_simp) <;> with_reducible rfl
          try simp only [Act.put, List.setIfInBounds_toArray, List.set_cons_zero, List.set_cons_succ]
          refine wpAnyH_take (i := 13) (oi := { dst := some 40, op := Go.Op.extract (Go.Operand.tmp 27) 1, type := 4, pos := "law.go:152", after := #[{ on := 11, ground := Go.Ground.data }, { on := 14, ground := Go.Ground.gcOnly Go.Departure.lateStores }], guard := none }) (v := ?v14) rfl (by kernel_rfl) (by kernel_rfl) (by kernel_rfl) (fun _ _ _ h => h) (Or.inl ⟨by rfl, ?y14⟩) (by assumption) ?z14
          case y14 => (intro w hSw; (try dsimp only at hSw); go_simp) <;> with_reducible rfl
          try simp only [Act.put, List.setIfInBounds_toArray, List.set_cons_zero, List.set_cons_succ]
          refine wpAnyH_ready (rs := [14]) (by kernel_rfl) (by simp) ?_
          refine (AllReadyH.cons (o := { dst := none, op := Go.Op.store 29 (Go.Operand.tmp 6) (Go.Operand.tmp 39), type := 0, pos := "law.go:152", after := #[{ on := 12, ground := Go.Ground.data }, { on := 10, ground := Go.Ground.chain }, { on := 0, ground := Go.Ground.phase }, { on := 1, ground := Go.Ground.phase }, { on := 2, ground := Go.Ground.phase }, { on := 3, ground := Go.Ground.phase }, { on := 4, ground := Go.Ground.phase }, { on := 5, ground := Go.Ground.phase }, { on := 6, ground := Go.Ground.phase }, { on := 7, ground := Go.Ground.phase }, { on := 8, ground := Go.Ground.phase }, { on := 9, ground := Go.Ground.phase }, { on := 10, ground := Go.Ground.phase }, { on := 11, ground := Go.Ground.phase }, { on := 12, ground := Go.Ground.phase }, { on := 13, ground := Go.Ground.textOnly Go.Departure.lateStores }], guard := none }) rfl (fun K hK => ?_) AllReadyH.nil)
          · skip
            obtain ⟨hc, hfz⟩ := TM1.out.out
            go_simp
            clear hc hfz
            have TM2 := Lib.hid (TM1.out.put8 (.int .i64 m'.k) (.int .i64 m'.n) (.int .i64 m'.r) (.bool m'.on) (.bool m'.mo) (.int .i64 m'.lo) (.int .i64 m'.hi) (.int .u8 m'.la))
            have TB2 := Lib.hid (set8 TB1.out h LH.out (.int .i64 m'.k) (.int .i64 m'.n) (.int .i64 m'.r) (.bool m'.on) (.bool m'.mo) (.int .i64 m'.lo) (.int .i64 m'.hi) (.int .u8 m'.la))
            have TP2 := Lib.hid (TP1.out.far8 NH.out (.int .i64 m'.k) (.int .i64 m'.n) (.int .i64 m'.r) (.bool m'.on) (.bool m'.mo) (.int .i64 m'.lo) (.int .i64 m'.hi) (.int .u8 m'.la))
            have QC0 := Lib.hid (far8c QB0.out QH.out (.int .i64 m'.k) (.int .i64 m'.n) (.int .i64 m'.r) (.bool m'.on) (.bool m'.mo) (.int .i64 m'.lo) (.int .i64 m'.hi) (.int .u8 m'.la))
            refine hK.out _ _ ?s15 (fun hNew => ?r15)
            case s15 => exact ⟨QC0.out, trivial⟩
            clear hK K hHeld
            have hHeld := hNew
            clear hNew
            generalize (World.setCell (World.setCell (World.setCell (World.setCell (World.setCell (World.setCell (World.setCell (World.setCell u1 ⟨h, 0, none⟩ (.int .i64 m'.k)) ⟨h, 1, none⟩ (.int .i64 m'.n)) ⟨h, 2, none⟩ (.int .i64 m'.r)) ⟨h, 3, none⟩ (.bool m'.on)) ⟨h, 4, none⟩ (.bool m'.mo)) ⟨h, 5, none⟩ (.int .i64 m'.lo)) ⟨h, 6, none⟩ (.int .i64 m'.hi)) ⟨h, 7, none⟩ (.int .u8 m'.la)) = u2 at hHeld TM2 TB2 QC0 TP2 ⊢
            refine wpAnyH_take (i := 15) (oi := { dst := some 9, op := Go.Op.assign (Go.Operand.tmp 40), type := 4, pos := "law.go:152", after := #[{ on := 13, ground := Go.Ground.data }, { on := 14, ground := Go.Ground.chain }, { on := 0, ground := Go.Ground.phase }, { on := 1, ground := Go.Ground.phase }, { on := 2, ground := Go.Ground.phase }, { on := 3, ground := Go.Ground.phase }, { on := 4, ground := Go.Ground.phase }, { on := 5, ground := Go.Ground.phase }, { on := 6, ground := Go.Ground.phase }, { on := 7, ground := Go.Ground.phase }, { on := 8, ground := Go.Ground.phase }, { on := 9, ground := Go.Ground.phase }, { on := 10, ground := Go.Ground.phase }, { on := 11, ground := Go.Ground.phase }, { on := 12, ground := Go.Ground.phase }, { on := 13, ground := Go.Ground.phase }, { on := 14, ground := Go.Ground.phase }], guard := none }) (v := ?v16) rfl (by kernel_rfl) (by kernel_rfl) (by kernel_rfl) (fun _ _ _ h => h) (Or.inl ⟨by rfl, ?y16⟩) (by assumption) ?z16
            case y16 => (intro w hSw; (try dsimp only at hSw); go_simp) <;> with_reducible rfl
            try simp only [Act.put, List.setIfInBounds_toArray, List.set_cons_zero, List.set_cons_succ]
            refine wpAnyH_done (by kernel_rfl) ?_ _
            clear hHeld
            have hcq := QC0.out
            have hcp := TP2.out.2.1
            rcases HW.out with ⟨hw1, hw4⟩ | ⟨hw1, hw2, hw4⟩ | ⟨hw1, hw2, hw3, hw4⟩ | ⟨hw1, hw2, hw3, hw4⟩
            all_goals
              subst hw4
              go_wp2
              go_roundg (gk - 1)
              exact ⟨t + 1, m', pg, by omega, by have := TG.out; omega, by simp, rfl, OK'.out, MK'.out, ML'.out, TB2.out, TM2.out, TP2.out⟩
              case measure => have := TG.out; omega
    · have et : t = n := by omega
      subst et
      go_wp2
      go_ret
      exact ⟨rfl, TB.out⟩
theorem holds_walk (k : Nat) (v : Value) (hk : k < 256) (w : World) (h : ByIn w v) : Calls Try.prog 7 #[.int .u8 k, v] w fun e w' => e = .returned (.bool true) ∧ Below w.heap.size w w' := by
  obtain ⟨a, n, c, rfl, hm, g, hg, hin⟩ := h
  by_cases h0 : 100 < n
  · exact holds_long k a n c h0 w
  · exact holds_some k hk a n c h0 g hg w hin
end Go.Proofs.Ytafmmffgenolaaa
