/-
  The walk through MbcPlays: for every world in which the writes lie as told; no other condition.
-/
import Derived.Test.YtafmmffgenolaaaLaw0
import Derived.Deep.Cut
import Derived.Deep.DeepCutAuto
import Derived.Deep.CutBlock
import Derived.Deep.LoopGhost
namespace Go.Proofs.Ytafmmffgenolaaa
open Go.ChangeShapes Go.WideShapes Go.ChangeAt Go.RowKit
set_option linter.unusedVariables false
set_option linter.unusedSimpArgs false
set_option maxRecDepth 100000
theorem far8c {w : World} {r b o : Nat} {x : Option Value} (h : w.cell? ⟨r, o, none⟩ = x) (hn : r ≠ b) (v0 v1 v2 v3 v4 v5 v6 v7 : Value) : World.cell? (World.setCell (World.setCell (World.setCell (World.setCell (World.setCell (World.setCell (World.setCell (World.setCell w ⟨b, 0, none⟩ (v0)) ⟨b, 1, none⟩ (v1)) ⟨b, 2, none⟩ (v2)) ⟨b, 3, none⟩ (v3)) ⟨b, 4, none⟩ (v4)) ⟨b, 5, none⟩ (v5)) ⟨b, 6, none⟩ (v6)) ⟨b, 7, none⟩ (v7)) ⟨r, o, none⟩ = x := by
  have e : ∀ i, (⟨b, i, none⟩ : Addr) ≠ ⟨r, o, none⟩ := fun i q => hn (by injection q with q; exact q.symm)
  rw [World.cell?_setCell_other _ _ _ _ (e 7), World.cell?_setCell_other _ _ _ _ (e 6), World.cell?_setCell_other _ _ _ _ (e 5), World.cell?_setCell_other _ _ _ _ (e 4), World.cell?_setCell_other _ _ _ _ (e 3), World.cell?_setCell_other _ _ _ _ (e 2), World.cell?_setCell_other _ _ _ _ (e 1), World.cell?_setCell_other _ _ _ _ (e 0)]
  exact h
set_option maxHeartbeats 2000000 in
theorem plays_long (k b r : Nat) (at_ : Int) (a : Option Addr) (n c : Nat) (h0 : 100 < n) (w : World) : Calls Try.prog 3 #[.int .u8 k, .int .u8 b, .int .u8 r, .slice a n c, .int .u16 at_] w fun e w' => e = .returned (.bool true) ∧ Below w.heap.size w w' := by
  have AW := Lib.hid awake_c
  have h0I : (100 : Int) < n := by omega
  have hnot : ∀ (x : Bool) (w : World), (Op.unary .not (.bool x)).run Try.prog w = .ok (.bool (!x)) w := fun _ _ => rfl
  go_enter Try.func3, Try.ntmps3
  go_wp2_with fail
  with_reducible refine (AW.out _).mono ?_
  rintro e w1 ⟨rfl, b1⟩
  have B1 := Lib.hid (b1)
  clear b1
  go_wp2_with fail
  with_reducible refine (AW.out _).mono ?_
  rintro e w2 ⟨rfl, b2⟩
  have B2 := Lib.hid (via B1.out b2)
  clear b2
  go_wp2
  go_ret
  exact ⟨rfl, B2.out⟩
/-- Two blocks hold the map m. -/
def TwoM (w wx : World) (m : MV) (x y : Value) : Prop := ∃ p q : Nat, x = .pointer (some ⟨p, 0, none⟩) ∧ y = .pointer (some ⟨q, 0, none⟩) ∧ Below w.heap.size w wx ∧ Has wx p #[.int .i64 m.k, .int .i64 m.n, .int .i64 m.r, .bool m.on, .bool m.mo, .int .i64 m.lo, .int .i64 m.hi, .int .u8 m.la] ∧ Has wx q #[.int .i64 m.k, .int .i64 m.n, .int .i64 m.r, .bool m.on, .bool m.mo, .int .i64 m.lo, .int .i64 m.hi, .int .u8 m.la] ∧ p ≠ q ∧ w.heap.size ≤ p ∧ w.heap.size ≤ q
set_option maxHeartbeats 8000000 in
theorem plays_some (k b r : Nat) (at_ : Int) (hk : k < 256) (hb : b < 256) (hr : r < 256) (ha0 : 0 ≤ at_) (haI : at_ < 65536) (a : Option Addr) (n c : Nat) (h0 : ¬ 100 < n) (f g : Nat → Int) (hf : ∀ i, 0 ≤ f i ∧ f i < 65536) (hg : ∀ i, 0 ≤ g i ∧ g i < 256) (w : World) (hin : 0 < n → ∃ qb qo, a = some ⟨qb, qo, none⟩ ∧ qb < w.heap.size ∧ ∀ j, j < n → w.cell? ⟨qb, qo + j * 2, none⟩ = some (.int .u16 (f j)) ∧ w.cell? ⟨qb, qo + j * 2 + 1, none⟩ = some (.int .u8 (g j))) : Calls Try.prog 3 #[.int .u8 k, .int .u8 b, .int .u8 r, .slice a n c, .int .u16 at_] w fun e w' => e = .returned (.bool true) ∧ Below w.heap.size w w' := by
  have AW := Lib.hid awake_c
  have HIN := Lib.hid hin
  have HF := Lib.hid hf
  have HG := Lib.hid hg
  obtain ⟨K, hK⟩ : ∃ q_, kdV k = q_ := ⟨_, rfl⟩
  obtain ⟨B, hB⟩ : ∃ q_, bnV b = q_ := ⟨_, rfl⟩
  obtain ⟨R, hR⟩ : ∃ q_, rmV k r = q_ := ⟨_, rfl⟩
  have Kb := kdV_bd k
  have Bb := bnV_bd b
  have Rb := rmV_bd k r
  rw [hK] at Kb
  rw [hB] at Bb
  rw [hR] at Rb
  have CC := Lib.hid (show ∀ W : World, Calls Try.prog 10 #[.int .u8 (k : Int), .int .u8 (b : Int), .int .u8 (r : Int)] W (fun e w' => e = .returned (.agg #[.string { data := #[] }, .int .i64 K, .bool false, .bool false, .int .i64 B, .int .i64 R, .bool false]) ∧ Below W.heap.size W w') from fun W => cart_c k b r K B R hk hb hr hK hB hR W)
  obtain ⟨m0, hm0⟩ : ∃ q_, newV K B R = q_ := ⟨_, rfl⟩
  have M0 := Lib.hid (show m0.ok from hm0 ▸ newV_ok Kb Bb Rb)
  have NC := Lib.hid (fun W => new_m K B R m0 hm0 { data := #[] } false false false W)
  have hnot : ∀ (x : Bool) (w : World), (Op.unary .not (.bool x)).run Try.prog w = .ok (.bool (!x)) w := fun _ _ => rfl
  have RC := Lib.hid (fun W => rnew_m K B R m0 hm0 { data := #[] } false false false W)
  have h0I : ¬ (100 : Int) < n := by omega
  clear hin hf hg hK hB hR
  go_enter Try.func3, Try.ntmps3
  go_wp2_with fail
  with_reducible refine (AW.out _).mono ?_
  rintro e w1 ⟨rfl, b1⟩
  have B1 := Lib.hid b1
  clear b1
  go_wp2_with fail
  with_reducible refine (CC.out _).mono ?_
  rintro e w2 ⟨rfl, b2⟩
  have Q2 := own1 w2 (.cells #[.string { data := #[] }, .int .i64 K, .bool false, .bool false, .int .i64 B, .int .i64 R, .bool false] 26)
  have B2 := Lib.hid (via (via B1.out b2) Q2)
  have H2 := Lib.hid (Has.new w2 #[.string { data := #[] }, .int .i64 K, .bool false, .bool false, .int .i64 B, .int .i64 R, .bool false] 26)
  clear b2 Q2 B1
  go_upto_region 4 with (fail)
  generalize w2.alloc (.cells #[.string { data := #[] }, .int .i64 K, .bool false, .bool false, .int .i64 B, .int .i64 R, .bool false] 26) = w2' at B2 H2 ⊢
  generalize w2.heap.size = hb at H2 ⊢
  have B0 := Lib.hid B2.out.drew
  have H0 := Lib.hid H2.out.drew
  clear B2 H2
  go_cut [12, 13] (fun s12 s13 wx => TwoM w wx m0 s12 s13)
  case first =>
    refine wp_region_held_drew (S := (fun w' => (∀ o, w'.cell? ⟨hb, o, none⟩ = #[.string { data := #[] }, .int .i64 K, .bool false, .bool false, .int .i64 B, .int .i64 R, .bool false][o]?) ∧ True)) (by kernel_rfl) ⟨H0.out.2.1, trivial⟩ (fun hHeld => ?_)
    generalize World.drew w2' = u0 at hHeld B0 H0 ⊢
    refine wpAnyH_take (i := 0) (oi := { dst := some 37, op := Go.Op.load 26 (Go.Operand.tmp 11), type := 26, pos := "law.go:42", after := #[], guard := none }) (v := ?v1) rfl (by kernel_rfl) (by kernel_rfl) (by kernel_rfl) (fun _ _ _ h => h) (Or.inl ⟨by rfl, ?y1⟩) (by assumption) ?z1
    case y1 => (intro w hSw; (try dsimp only at hSw); go_simp) <;> with_reducible rfl
    try simp only [Act.put, List.setIfInBounds_toArray, List.set_cons_zero, List.set_cons_succ]
    refine wpAnyH_take (i := 2) (oi := { dst := some 39, op := Go.Op.load 26 (Go.Operand.tmp 11), type := 26, pos := "law.go:42", after := #[], guard := none }) (v := ?v2) rfl (by kernel_rfl) (by kernel_rfl) (by kernel_rfl) (fun _ _ _ h => h) (Or.inl ⟨by rfl, ?y2⟩) (by assumption) ?z2
    case y2 => (intro w hSw; (try dsimp only at hSw); go_simp) <;> with_reducible rfl
    try simp only [Act.put, List.setIfInBounds_toArray, List.set_cons_zero, List.set_cons_succ]
    refine wpAnyH_ready (rs := [1, 4, 5]) (by kernel_rfl) (by simp) ?_
    refine (AllReadyH.cons (o := { dst := some 38, op := Go.Op.call { callee := Go.Callee.value (Go.Operand.func 11), args := #[Go.Operand.tmp 37], argTypes := #[31] }, type := 29, pos := "law.go:42", after := #[{ on := 0, ground := Go.Ground.data }], guard := none }) rfl (fun K hK => ?_) (AllReadyH.cons (o := { dst := some 12, op := Go.Op.alloc 29, type := 0, pos := "law.go:42", after := #[], guard := none }) rfl (fun K hK => ?_) (AllReadyH.cons (o := { dst := some 13, op := Go.Op.alloc 32, type := 0, pos := "law.go:42", after := #[], guard := none }) rfl (fun K hK => ?_) AllReadyH.nil)))
    · skip
      go_simp
      with_reducible refine (NC.out _).mono ?_
      rintro e u1 ⟨rfl, hz⟩
      have B1 := Lib.hid (via B0.out hz)
      have H1 := Lib.hid (H0.out.below hz)
      clear hz
      refine hK.out _ _ ?s3 (fun hNew => ?r3)
      case s3 => exact ⟨H1.out.2.1, trivial⟩
      clear hK K hHeld
      have hHeld := hNew
      clear hNew
      refine wpAnyH_ready (rs := [3, 4, 5]) (by kernel_rfl) (by simp) ?_
      refine (AllReadyH.cons (o := { dst := some 40, op := Go.Op.call { callee := Go.Callee.value (Go.Operand.func 12), args := #[Go.Operand.tmp 39], argTypes := #[26] }, type := 32, pos := "law.go:42", after := #[{ on := 2, ground := Go.Ground.data }, { on := 1, ground := Go.Ground.chain }], guard := none }) rfl (fun K hK => ?_) (AllReadyH.cons (o := { dst := some 12, op := Go.Op.alloc 29, type := 0, pos := "law.go:42", after := #[], guard := none }) rfl (fun K hK => ?_) (AllReadyH.cons (o := { dst := some 13, op := Go.Op.alloc 32, type := 0, pos := "law.go:42", after := #[], guard := none }) rfl (fun K hK => ?_) AllReadyH.nil)))
      · skip
        go_simp
        with_reducible refine (RC.out _).mono ?_
        rintro e u2 ⟨rfl, hz⟩
        have B2 := Lib.hid (via B1.out hz)
        have H2 := Lib.hid (H1.out.below hz)
        clear hz
        refine hK.out _ _ ?s4 (fun hNew => ?r4)
        case s4 => exact ⟨H2.out.2.1, trivial⟩
        clear hK K hHeld
        have hHeld := hNew
        clear hNew
        refine wpAnyH_ready (rs := [4, 5]) (by kernel_rfl) (by simp) ?_
        refine (AllReadyH.cons (o := { dst := some 12, op := Go.Op.alloc 29, type := 0, pos := "law.go:42", after := #[], guard := none }) rfl (fun K hK => ?_) (AllReadyH.cons (o := { dst := some 13, op := Go.Op.alloc 32, type := 0, pos := "law.go:42", after := #[], guard := none }) rfl (fun K hK => ?_) AllReadyH.nil))
        · skip
          go_simp
          have hz := own1 u2 (.cells #[.int .i64 0, .int .i64 0, .int .i64 0, .bool false, .bool false, .int .i64 0, .int .i64 0, .int .u8 0] 29)
          have B3 := Lib.hid (via B2.out hz)
          have H3 := Lib.hid (H2.out.below hz)
          have P3 := Lib.hid (Has.new u2 #[.int .i64 0, .int .i64 0, .int .i64 0, .bool false, .bool false, .int .i64 0, .int .i64 0, .int .u8 0] 29)
          have LP := Lib.hid (show w.heap.size ≤ u2.heap.size from B2.out.size)
          have NP := Lib.hid (show hb ≠ u2.heap.size by have := H2.out.1; omega)
          clear hz
          refine hK.out _ _ ?s5 (fun hNew => ?r5)
          case s5 => exact ⟨H3.out.2.1, trivial⟩
          clear hK K hHeld
          have hHeld := hNew
          clear hNew
          generalize World.alloc u2 (.cells #[.int .i64 0, .int .i64 0, .int .i64 0, .bool false, .bool false, .int .i64 0, .int .i64 0, .int .u8 0] 29) = u3 at hHeld B3 H3 P3 ⊢
          generalize u2.heap.size = pb at P3 LP NP ⊢
          refine wpAnyH_ready (rs := [5]) (by kernel_rfl) (by simp) ?_
          refine (AllReadyH.cons (o := { dst := some 13, op := Go.Op.alloc 32, type := 0, pos := "law.go:42", after := #[], guard := none }) rfl (fun K hK => ?_) AllReadyH.nil)
          · skip
            go_simp
            have hz := own1 u3 (.cells #[.int .i64 0, .int .i64 0, .int .i64 0, .bool false, .bool false, .int .i64 0, .int .i64 0, .int .u8 0] 32)
            have B4 := Lib.hid (via B3.out hz)
            have H4 := Lib.hid (H3.out.below hz)
            have Q4 := Lib.hid (Has.new u3 #[.int .i64 0, .int .i64 0, .int .i64 0, .bool false, .bool false, .int .i64 0, .int .i64 0, .int .u8 0] 32)
            have LQ := Lib.hid (show w.heap.size ≤ u3.heap.size from B3.out.size)
            have NQ := Lib.hid (show hb ≠ u3.heap.size by have := H3.out.1; omega)
            have P4 := Lib.hid (P3.out.below hz)
            have NPQ := Lib.hid (show pb ≠ u3.heap.size by have := P3.out.1; omega)
            clear hz
            refine hK.out _ _ ?s6 (fun hNew => ?r6)
            case s6 => exact ⟨H4.out.2.1, trivial⟩
            clear hK K hHeld
            have hHeld := hNew
            clear hNew
            generalize World.alloc u3 (.cells #[.int .i64 0, .int .i64 0, .int .i64 0, .bool false, .bool false, .int .i64 0, .int .i64 0, .int .u8 0] 32) = u4 at hHeld B4 H4 Q4 P4 ⊢
            generalize u3.heap.size = qb at Q4 LQ NQ NPQ ⊢
            refine wpAnyH_ready (rs := [6]) (by kernel_rfl) (by simp) ?_
            refine (AllReadyH.cons (o := { dst := none, op := Go.Op.store 29 (Go.Operand.tmp 12) (Go.Operand.tmp 38), type := 0, pos := "law.go:42", after := #[{ on := 4, ground := Go.Ground.data }, { on := 1, ground := Go.Ground.data }, { on := 3, ground := Go.Ground.chain }, { on := 0, ground := Go.Ground.phase }, { on := 1, ground := Go.Ground.phase }, { on := 2, ground := Go.Ground.textOnly Go.Departure.lateStores }, { on := 3, ground := Go.Ground.textOnly Go.Departure.lateStoresUnsure }, { on := 4, ground := Go.Ground.phase }, { on := 5, ground := Go.Ground.phase }], guard := none }) rfl (fun K hK => ?_) AllReadyH.nil)
            · skip
              obtain ⟨hcl, hfz⟩ := P4.out.out
              go_simp
              clear hcl hfz
              have P5 := Lib.hid (P4.out.put8 (.int .i64 m0.k) (.int .i64 m0.n) (.int .i64 m0.r) (.bool m0.on) (.bool m0.mo) (.int .i64 m0.lo) (.int .i64 m0.hi) (.int .u8 m0.la))
              have B5 := Lib.hid (set8 B4.out pb LP.out (.int .i64 m0.k) (.int .i64 m0.n) (.int .i64 m0.r) (.bool m0.on) (.bool m0.mo) (.int .i64 m0.lo) (.int .i64 m0.hi) (.int .u8 m0.la))
              have H5 := Lib.hid (H4.out.far8 NP.out (.int .i64 m0.k) (.int .i64 m0.n) (.int .i64 m0.r) (.bool m0.on) (.bool m0.mo) (.int .i64 m0.lo) (.int .i64 m0.hi) (.int .u8 m0.la))
              have Q5 := Lib.hid (Q4.out.far8 (NPQ.out.symm) (.int .i64 m0.k) (.int .i64 m0.n) (.int .i64 m0.r) (.bool m0.on) (.bool m0.mo) (.int .i64 m0.lo) (.int .i64 m0.hi) (.int .u8 m0.la))
              refine hK.out _ _ ?s7 (fun hNew => ?r7)
              case s7 => exact ⟨H5.out.2.1, trivial⟩
              clear hK K hHeld
              have hHeld := hNew
              clear hNew
              generalize (World.setCell (World.setCell (World.setCell (World.setCell (World.setCell (World.setCell (World.setCell (World.setCell u4 ⟨pb, 0, none⟩ (.int .i64 m0.k)) ⟨pb, 1, none⟩ (.int .i64 m0.n)) ⟨pb, 2, none⟩ (.int .i64 m0.r)) ⟨pb, 3, none⟩ (.bool m0.on)) ⟨pb, 4, none⟩ (.bool m0.mo)) ⟨pb, 5, none⟩ (.int .i64 m0.lo)) ⟨pb, 6, none⟩ (.int .i64 m0.hi)) ⟨pb, 7, none⟩ (.int .u8 m0.la)) = u5 at hHeld B5 H5 P5 Q5 ⊢
              refine wpAnyH_ready (rs := [7]) (by kernel_rfl) (by simp) ?_
              refine (AllReadyH.cons (o := { dst := none, op := Go.Op.store 32 (Go.Operand.tmp 13) (Go.Operand.tmp 40), type := 0, pos := "law.go:42", after := #[{ on := 5, ground := Go.Ground.data }, { on := 3, ground := Go.Ground.data }, { on := 6, ground := Go.Ground.chain }, { on := 0, ground := Go.Ground.phase }, { on := 1, ground := Go.Ground.phase }, { on := 2, ground := Go.Ground.phase }, { on := 3, ground := Go.Ground.phase }, { on := 4, ground := Go.Ground.phase }, { on := 5, ground := Go.Ground.phase }, { on := 6, ground := Go.Ground.phase }], guard := none }) rfl (fun K hK => ?_) AllReadyH.nil)
              · skip
                obtain ⟨hcl, hfz⟩ := Q5.out.out
                go_simp
                clear hcl hfz
                have Q6 := Lib.hid (Q5.out.put8 (.int .i64 m0.k) (.int .i64 m0.n) (.int .i64 m0.r) (.bool m0.on) (.bool m0.mo) (.int .i64 m0.lo) (.int .i64 m0.hi) (.int .u8 m0.la))
                have B6 := Lib.hid (set8 B5.out qb LQ.out (.int .i64 m0.k) (.int .i64 m0.n) (.int .i64 m0.r) (.bool m0.on) (.bool m0.mo) (.int .i64 m0.lo) (.int .i64 m0.hi) (.int .u8 m0.la))
                have H6 := Lib.hid (H5.out.far8 NQ.out (.int .i64 m0.k) (.int .i64 m0.n) (.int .i64 m0.r) (.bool m0.on) (.bool m0.mo) (.int .i64 m0.lo) (.int .i64 m0.hi) (.int .u8 m0.la))
                have P6 := Lib.hid (P5.out.far8 (NPQ.out) (.int .i64 m0.k) (.int .i64 m0.n) (.int .i64 m0.r) (.bool m0.on) (.bool m0.mo) (.int .i64 m0.lo) (.int .i64 m0.hi) (.int .u8 m0.la))
                refine hK.out _ _ ?s8 (fun hNew => ?r8)
                case s8 => exact ⟨H6.out.2.1, trivial⟩
                clear hK K hHeld
                have hHeld := hNew
                clear hNew
                generalize (World.setCell (World.setCell (World.setCell (World.setCell (World.setCell (World.setCell (World.setCell (World.setCell u5 ⟨qb, 0, none⟩ (.int .i64 m0.k)) ⟨qb, 1, none⟩ (.int .i64 m0.n)) ⟨qb, 2, none⟩ (.int .i64 m0.r)) ⟨qb, 3, none⟩ (.bool m0.on)) ⟨qb, 4, none⟩ (.bool m0.mo)) ⟨qb, 5, none⟩ (.int .i64 m0.lo)) ⟨qb, 6, none⟩ (.int .i64 m0.hi)) ⟨qb, 7, none⟩ (.int .u8 m0.la)) = u6 at hHeld B6 H6 P6 Q6 ⊢
                refine wpAnyH_done (by kernel_rfl) ?_ _
                clear hHeld
                go_wp2
                go_meet
                exact ⟨pb, qb, rfl, rfl, B6.out, P6.out, Q6.out, NPQ.out, LP.out, LQ.out⟩
        · skip
          go_simp
          have hz := own1 u2 (.cells #[.int .i64 0, .int .i64 0, .int .i64 0, .bool false, .bool false, .int .i64 0, .int .i64 0, .int .u8 0] 32)
          have B3 := Lib.hid (via B2.out hz)
          have H3 := Lib.hid (H2.out.below hz)
          have Q3 := Lib.hid (Has.new u2 #[.int .i64 0, .int .i64 0, .int .i64 0, .bool false, .bool false, .int .i64 0, .int .i64 0, .int .u8 0] 32)
          have LQ := Lib.hid (show w.heap.size ≤ u2.heap.size from B2.out.size)
          have NQ := Lib.hid (show hb ≠ u2.heap.size by have := H2.out.1; omega)
          clear hz
          refine hK.out _ _ ?s9 (fun hNew => ?r9)
          case s9 => exact ⟨H3.out.2.1, trivial⟩
          clear hK K hHeld
          have hHeld := hNew
          clear hNew
          generalize World.alloc u2 (.cells #[.int .i64 0, .int .i64 0, .int .i64 0, .bool false, .bool false, .int .i64 0, .int .i64 0, .int .u8 0] 32) = u3 at hHeld B3 H3 Q3 ⊢
          generalize u2.heap.size = qb at Q3 LQ NQ ⊢
          refine wpAnyH_ready (rs := [4]) (by kernel_rfl) (by simp) ?_
          refine (AllReadyH.cons (o := { dst := some 12, op := Go.Op.alloc 29, type := 0, pos := "law.go:42", after := #[], guard := none }) rfl (fun K hK => ?_) AllReadyH.nil)
          · skip
            go_simp
            have hz := own1 u3 (.cells #[.int .i64 0, .int .i64 0, .int .i64 0, .bool false, .bool false, .int .i64 0, .int .i64 0, .int .u8 0] 29)
            have B4 := Lib.hid (via B3.out hz)
            have H4 := Lib.hid (H3.out.below hz)
            have P4 := Lib.hid (Has.new u3 #[.int .i64 0, .int .i64 0, .int .i64 0, .bool false, .bool false, .int .i64 0, .int .i64 0, .int .u8 0] 29)
            have LP := Lib.hid (show w.heap.size ≤ u3.heap.size from B3.out.size)
            have NP := Lib.hid (show hb ≠ u3.heap.size by have := H3.out.1; omega)
            have Q4 := Lib.hid (Q3.out.below hz)
            have NPQ := Lib.hid (show qb ≠ u3.heap.size by have := Q3.out.1; omega)
            clear hz
            refine hK.out _ _ ?s10 (fun hNew => ?r10)
            case s10 => exact ⟨H4.out.2.1, trivial⟩
            clear hK K hHeld
            have hHeld := hNew
            clear hNew
            generalize World.alloc u3 (.cells #[.int .i64 0, .int .i64 0, .int .i64 0, .bool false, .bool false, .int .i64 0, .int .i64 0, .int .u8 0] 29) = u4 at hHeld B4 H4 P4 Q4 ⊢
            generalize u3.heap.size = pb at P4 LP NP NPQ ⊢
            refine wpAnyH_ready (rs := [6]) (by kernel_rfl) (by simp) ?_
            refine (AllReadyH.cons (o := { dst := none, op := Go.Op.store 29 (Go.Operand.tmp 12) (Go.Operand.tmp 38), type := 0, pos := "law.go:42", after := #[{ on := 4, ground := Go.Ground.data }, { on := 1, ground := Go.Ground.data }, { on := 3, ground := Go.Ground.chain }, { on := 0, ground := Go.Ground.phase }, { on := 1, ground := Go.Ground.phase }, { on := 2, ground := Go.Ground.textOnly Go.Departure.lateStores }, { on := 3, ground := Go.Ground.textOnly Go.Departure.lateStoresUnsure }, { on := 4, ground := Go.Ground.phase }, { on := 5, ground := Go.Ground.phase }], guard := none }) rfl (fun K hK => ?_) AllReadyH.nil)
            · skip
              obtain ⟨hcl, hfz⟩ := P4.out.out
              go_simp
              clear hcl hfz
              have P5 := Lib.hid (P4.out.put8 (.int .i64 m0.k) (.int .i64 m0.n) (.int .i64 m0.r) (.bool m0.on) (.bool m0.mo) (.int .i64 m0.lo) (.int .i64 m0.hi) (.int .u8 m0.la))
              have B5 := Lib.hid (set8 B4.out pb LP.out (.int .i64 m0.k) (.int .i64 m0.n) (.int .i64 m0.r) (.bool m0.on) (.bool m0.mo) (.int .i64 m0.lo) (.int .i64 m0.hi) (.int .u8 m0.la))
              have H5 := Lib.hid (H4.out.far8 NP.out (.int .i64 m0.k) (.int .i64 m0.n) (.int .i64 m0.r) (.bool m0.on) (.bool m0.mo) (.int .i64 m0.lo) (.int .i64 m0.hi) (.int .u8 m0.la))
              have Q5 := Lib.hid (Q4.out.far8 (NPQ.out) (.int .i64 m0.k) (.int .i64 m0.n) (.int .i64 m0.r) (.bool m0.on) (.bool m0.mo) (.int .i64 m0.lo) (.int .i64 m0.hi) (.int .u8 m0.la))
              refine hK.out _ _ ?s11 (fun hNew => ?r11)
              case s11 => exact ⟨H5.out.2.1, trivial⟩
              clear hK K hHeld
              have hHeld := hNew
              clear hNew
              generalize (World.setCell (World.setCell (World.setCell (World.setCell (World.setCell (World.setCell (World.setCell (World.setCell u4 ⟨pb, 0, none⟩ (.int .i64 m0.k)) ⟨pb, 1, none⟩ (.int .i64 m0.n)) ⟨pb, 2, none⟩ (.int .i64 m0.r)) ⟨pb, 3, none⟩ (.bool m0.on)) ⟨pb, 4, none⟩ (.bool m0.mo)) ⟨pb, 5, none⟩ (.int .i64 m0.lo)) ⟨pb, 6, none⟩ (.int .i64 m0.hi)) ⟨pb, 7, none⟩ (.int .u8 m0.la)) = u5 at hHeld B5 H5 P5 Q5 ⊢
              refine wpAnyH_ready (rs := [7]) (by kernel_rfl) (by simp) ?_
              refine (AllReadyH.cons (o := { dst := none, op := Go.Op.store 32 (Go.Operand.tmp 13) (Go.Operand.tmp 40), type := 0, pos := "law.go:42", after := #[{ on := 5, ground := Go.Ground.data }, { on := 3, ground := Go.Ground.data }, { on := 6, ground := Go.Ground.chain }, { on := 0, ground := Go.Ground.phase }, { on := 1, ground := Go.Ground.phase }, { on := 2, ground := Go.Ground.phase }, { on := 3, ground := Go.Ground.phase }, { on := 4, ground := Go.Ground.phase }, { on := 5, ground := Go.Ground.phase }, { on := 6, ground := Go.Ground.phase }], guard := none }) rfl (fun K hK => ?_) AllReadyH.nil)
              · skip
                obtain ⟨hcl, hfz⟩ := Q5.out.out
                go_simp
                clear hcl hfz
                have Q6 := Lib.hid (Q5.out.put8 (.int .i64 m0.k) (.int .i64 m0.n) (.int .i64 m0.r) (.bool m0.on) (.bool m0.mo) (.int .i64 m0.lo) (.int .i64 m0.hi) (.int .u8 m0.la))
                have B6 := Lib.hid (set8 B5.out qb LQ.out (.int .i64 m0.k) (.int .i64 m0.n) (.int .i64 m0.r) (.bool m0.on) (.bool m0.mo) (.int .i64 m0.lo) (.int .i64 m0.hi) (.int .u8 m0.la))
                have H6 := Lib.hid (H5.out.far8 NQ.out (.int .i64 m0.k) (.int .i64 m0.n) (.int .i64 m0.r) (.bool m0.on) (.bool m0.mo) (.int .i64 m0.lo) (.int .i64 m0.hi) (.int .u8 m0.la))
                have P6 := Lib.hid (P5.out.far8 (NPQ.out.symm) (.int .i64 m0.k) (.int .i64 m0.n) (.int .i64 m0.r) (.bool m0.on) (.bool m0.mo) (.int .i64 m0.lo) (.int .i64 m0.hi) (.int .u8 m0.la))
                refine hK.out _ _ ?s12 (fun hNew => ?r12)
                case s12 => exact ⟨H6.out.2.1, trivial⟩
                clear hK K hHeld
                have hHeld := hNew
                clear hNew
                generalize (World.setCell (World.setCell (World.setCell (World.setCell (World.setCell (World.setCell (World.setCell (World.setCell u5 ⟨qb, 0, none⟩ (.int .i64 m0.k)) ⟨qb, 1, none⟩ (.int .i64 m0.n)) ⟨qb, 2, none⟩ (.int .i64 m0.r)) ⟨qb, 3, none⟩ (.bool m0.on)) ⟨qb, 4, none⟩ (.bool m0.mo)) ⟨qb, 5, none⟩ (.int .i64 m0.lo)) ⟨qb, 6, none⟩ (.int .i64 m0.hi)) ⟨qb, 7, none⟩ (.int .u8 m0.la)) = u6 at hHeld B6 H6 P6 Q6 ⊢
                refine wpAnyH_done (by kernel_rfl) ?_ _
                clear hHeld
                go_wp2
                go_meet
                exact ⟨pb, qb, rfl, rfl, B6.out, P6.out, Q6.out, NPQ.out.symm, LP.out, LQ.out⟩
      · skip
        go_simp
        have hz := own1 u1 (.cells #[.int .i64 0, .int .i64 0, .int .i64 0, .bool false, .bool false, .int .i64 0, .int .i64 0, .int .u8 0] 29)
        have B2 := Lib.hid (via B1.out hz)
        have H2 := Lib.hid (H1.out.below hz)
        have P2 := Lib.hid (Has.new u1 #[.int .i64 0, .int .i64 0, .int .i64 0, .bool false, .bool false, .int .i64 0, .int .i64 0, .int .u8 0] 29)
        have LP := Lib.hid (show w.heap.size ≤ u1.heap.size from B1.out.size)
        have NP := Lib.hid (show hb ≠ u1.heap.size by have := H1.out.1; omega)
        clear hz
        refine hK.out _ _ ?s13 (fun hNew => ?r13)
        case s13 => exact ⟨H2.out.2.1, trivial⟩
        clear hK K hHeld
        have hHeld := hNew
        clear hNew
        generalize World.alloc u1 (.cells #[.int .i64 0, .int .i64 0, .int .i64 0, .bool false, .bool false, .int .i64 0, .int .i64 0, .int .u8 0] 29) = u2 at hHeld B2 H2 P2 ⊢
        generalize u1.heap.size = pb at P2 LP NP ⊢
        refine wpAnyH_ready (rs := [3, 5]) (by kernel_rfl) (by simp) ?_
        refine (AllReadyH.cons (o := { dst := some 40, op := Go.Op.call { callee := Go.Callee.value (Go.Operand.func 12), args := #[Go.Operand.tmp 39], argTypes := #[26] }, type := 32, pos := "law.go:42", after := #[{ on := 2, ground := Go.Ground.data }, { on := 1, ground := Go.Ground.chain }], guard := none }) rfl (fun K hK => ?_) (AllReadyH.cons (o := { dst := some 13, op := Go.Op.alloc 32, type := 0, pos := "law.go:42", after := #[], guard := none }) rfl (fun K hK => ?_) AllReadyH.nil))
        · skip
          go_simp
          with_reducible refine (RC.out _).mono ?_
          rintro e u3 ⟨rfl, hz⟩
          have B3 := Lib.hid (via B2.out hz)
          have H3 := Lib.hid (H2.out.below hz)
          have P3 := Lib.hid (P2.out.below hz)
          clear hz
          refine hK.out _ _ ?s14 (fun hNew => ?r14)
          case s14 => exact ⟨H3.out.2.1, trivial⟩
          clear hK K hHeld
          have hHeld := hNew
          clear hNew
          refine wpAnyH_ready (rs := [5]) (by kernel_rfl) (by simp) ?_
          refine (AllReadyH.cons (o := { dst := some 13, op := Go.Op.alloc 32, type := 0, pos := "law.go:42", after := #[], guard := none }) rfl (fun K hK => ?_) AllReadyH.nil)
          · skip
            go_simp
            have hz := own1 u3 (.cells #[.int .i64 0, .int .i64 0, .int .i64 0, .bool false, .bool false, .int .i64 0, .int .i64 0, .int .u8 0] 32)
            have B4 := Lib.hid (via B3.out hz)
            have H4 := Lib.hid (H3.out.below hz)
            have Q4 := Lib.hid (Has.new u3 #[.int .i64 0, .int .i64 0, .int .i64 0, .bool false, .bool false, .int .i64 0, .int .i64 0, .int .u8 0] 32)
            have LQ := Lib.hid (show w.heap.size ≤ u3.heap.size from B3.out.size)
            have NQ := Lib.hid (show hb ≠ u3.heap.size by have := H3.out.1; omega)
            have P4 := Lib.hid (P3.out.below hz)
            have NPQ := Lib.hid (show pb ≠ u3.heap.size by have := P3.out.1; omega)
            clear hz
            refine hK.out _ _ ?s15 (fun hNew => ?r15)
            case s15 => exact ⟨H4.out.2.1, trivial⟩
            clear hK K hHeld
            have hHeld := hNew
            clear hNew
            generalize World.alloc u3 (.cells #[.int .i64 0, .int .i64 0, .int .i64 0, .bool false, .bool false, .int .i64 0, .int .i64 0, .int .u8 0] 32) = u4 at hHeld B4 H4 Q4 P4 ⊢
            generalize u3.heap.size = qb at Q4 LQ NQ NPQ ⊢
            refine wpAnyH_ready (rs := [6]) (by kernel_rfl) (by simp) ?_
            refine (AllReadyH.cons (o := { dst := none, op := Go.Op.store 29 (Go.Operand.tmp 12) (Go.Operand.tmp 38), type := 0, pos := "law.go:42", after := #[{ on := 4, ground := Go.Ground.data }, { on := 1, ground := Go.Ground.data }, { on := 3, ground := Go.Ground.chain }, { on := 0, ground := Go.Ground.phase }, { on := 1, ground := Go.Ground.phase }, { on := 2, ground := Go.Ground.textOnly Go.Departure.lateStores }, { on := 3, ground := Go.Ground.textOnly Go.Departure.lateStoresUnsure }, { on := 4, ground := Go.Ground.phase }, { on := 5, ground := Go.Ground.phase }], guard := none }) rfl (fun K hK => ?_) AllReadyH.nil)
            · skip
              obtain ⟨hcl, hfz⟩ := P4.out.out
              go_simp
              clear hcl hfz
              have P5 := Lib.hid (P4.out.put8 (.int .i64 m0.k) (.int .i64 m0.n) (.int .i64 m0.r) (.bool m0.on) (.bool m0.mo) (.int .i64 m0.lo) (.int .i64 m0.hi) (.int .u8 m0.la))
              have B5 := Lib.hid (set8 B4.out pb LP.out (.int .i64 m0.k) (.int .i64 m0.n) (.int .i64 m0.r) (.bool m0.on) (.bool m0.mo) (.int .i64 m0.lo) (.int .i64 m0.hi) (.int .u8 m0.la))
              have H5 := Lib.hid (H4.out.far8 NP.out (.int .i64 m0.k) (.int .i64 m0.n) (.int .i64 m0.r) (.bool m0.on) (.bool m0.mo) (.int .i64 m0.lo) (.int .i64 m0.hi) (.int .u8 m0.la))
              have Q5 := Lib.hid (Q4.out.far8 (NPQ.out.symm) (.int .i64 m0.k) (.int .i64 m0.n) (.int .i64 m0.r) (.bool m0.on) (.bool m0.mo) (.int .i64 m0.lo) (.int .i64 m0.hi) (.int .u8 m0.la))
              refine hK.out _ _ ?s16 (fun hNew => ?r16)
              case s16 => exact ⟨H5.out.2.1, trivial⟩
              clear hK K hHeld
              have hHeld := hNew
              clear hNew
              generalize (World.setCell (World.setCell (World.setCell (World.setCell (World.setCell (World.setCell (World.setCell (World.setCell u4 ⟨pb, 0, none⟩ (.int .i64 m0.k)) ⟨pb, 1, none⟩ (.int .i64 m0.n)) ⟨pb, 2, none⟩ (.int .i64 m0.r)) ⟨pb, 3, none⟩ (.bool m0.on)) ⟨pb, 4, none⟩ (.bool m0.mo)) ⟨pb, 5, none⟩ (.int .i64 m0.lo)) ⟨pb, 6, none⟩ (.int .i64 m0.hi)) ⟨pb, 7, none⟩ (.int .u8 m0.la)) = u5 at hHeld B5 H5 P5 Q5 ⊢
              refine wpAnyH_ready (rs := [7]) (by kernel_rfl) (by simp) ?_
              refine (AllReadyH.cons (o := { dst := none, op := Go.Op.store 32 (Go.Operand.tmp 13) (Go.Operand.tmp 40), type := 0, pos := "law.go:42", after := #[{ on := 5, ground := Go.Ground.data }, { on := 3, ground := Go.Ground.data }, { on := 6, ground := Go.Ground.chain }, { on := 0, ground := Go.Ground.phase }, { on := 1, ground := Go.Ground.phase }, { on := 2, ground := Go.Ground.phase }, { on := 3, ground := Go.Ground.phase }, { on := 4, ground := Go.Ground.phase }, { on := 5, ground := Go.Ground.phase }, { on := 6, ground := Go.Ground.phase }], guard := none }) rfl (fun K hK => ?_) AllReadyH.nil)
              · skip
                obtain ⟨hcl, hfz⟩ := Q5.out.out
                go_simp
                clear hcl hfz
                have Q6 := Lib.hid (Q5.out.put8 (.int .i64 m0.k) (.int .i64 m0.n) (.int .i64 m0.r) (.bool m0.on) (.bool m0.mo) (.int .i64 m0.lo) (.int .i64 m0.hi) (.int .u8 m0.la))
                have B6 := Lib.hid (set8 B5.out qb LQ.out (.int .i64 m0.k) (.int .i64 m0.n) (.int .i64 m0.r) (.bool m0.on) (.bool m0.mo) (.int .i64 m0.lo) (.int .i64 m0.hi) (.int .u8 m0.la))
                have H6 := Lib.hid (H5.out.far8 NQ.out (.int .i64 m0.k) (.int .i64 m0.n) (.int .i64 m0.r) (.bool m0.on) (.bool m0.mo) (.int .i64 m0.lo) (.int .i64 m0.hi) (.int .u8 m0.la))
                have P6 := Lib.hid (P5.out.far8 (NPQ.out) (.int .i64 m0.k) (.int .i64 m0.n) (.int .i64 m0.r) (.bool m0.on) (.bool m0.mo) (.int .i64 m0.lo) (.int .i64 m0.hi) (.int .u8 m0.la))
                refine hK.out _ _ ?s17 (fun hNew => ?r17)
                case s17 => exact ⟨H6.out.2.1, trivial⟩
                clear hK K hHeld
                have hHeld := hNew
                clear hNew
                generalize (World.setCell (World.setCell (World.setCell (World.setCell (World.setCell (World.setCell (World.setCell (World.setCell u5 ⟨qb, 0, none⟩ (.int .i64 m0.k)) ⟨qb, 1, none⟩ (.int .i64 m0.n)) ⟨qb, 2, none⟩ (.int .i64 m0.r)) ⟨qb, 3, none⟩ (.bool m0.on)) ⟨qb, 4, none⟩ (.bool m0.mo)) ⟨qb, 5, none⟩ (.int .i64 m0.lo)) ⟨qb, 6, none⟩ (.int .i64 m0.hi)) ⟨qb, 7, none⟩ (.int .u8 m0.la)) = u6 at hHeld B6 H6 P6 Q6 ⊢
                refine wpAnyH_done (by kernel_rfl) ?_ _
                clear hHeld
                go_wp2
                go_meet
                exact ⟨pb, qb, rfl, rfl, B6.out, P6.out, Q6.out, NPQ.out, LP.out, LQ.out⟩
        · skip
          go_simp
          have hz := own1 u2 (.cells #[.int .i64 0, .int .i64 0, .int .i64 0, .bool false, .bool false, .int .i64 0, .int .i64 0, .int .u8 0] 32)
          have B3 := Lib.hid (via B2.out hz)
          have H3 := Lib.hid (H2.out.below hz)
          have Q3 := Lib.hid (Has.new u2 #[.int .i64 0, .int .i64 0, .int .i64 0, .bool false, .bool false, .int .i64 0, .int .i64 0, .int .u8 0] 32)
          have LQ := Lib.hid (show w.heap.size ≤ u2.heap.size from B2.out.size)
          have NQ := Lib.hid (show hb ≠ u2.heap.size by have := H2.out.1; omega)
          have P3 := Lib.hid (P2.out.below hz)
          have NPQ := Lib.hid (show pb ≠ u2.heap.size by have := P2.out.1; omega)
          clear hz
          refine hK.out _ _ ?s18 (fun hNew => ?r18)
          case s18 => exact ⟨H3.out.2.1, trivial⟩
          clear hK K hHeld
          have hHeld := hNew
          clear hNew
          generalize World.alloc u2 (.cells #[.int .i64 0, .int .i64 0, .int .i64 0, .bool false, .bool false, .int .i64 0, .int .i64 0, .int .u8 0] 32) = u3 at hHeld B3 H3 Q3 P3 ⊢
          generalize u2.heap.size = qb at Q3 LQ NQ NPQ ⊢
          refine wpAnyH_ready (rs := [3]) (by kernel_rfl) (by simp) ?_
          refine (AllReadyH.cons (o := { dst := some 40, op := Go.Op.call { callee := Go.Callee.value (Go.Operand.func 12), args := #[Go.Operand.tmp 39], argTypes := #[26] }, type := 32, pos := "law.go:42", after := #[{ on := 2, ground := Go.Ground.data }, { on := 1, ground := Go.Ground.chain }], guard := none }) rfl (fun K hK => ?_) AllReadyH.nil)
          · skip
            go_simp
            with_reducible refine (RC.out _).mono ?_
            rintro e u4 ⟨rfl, hz⟩
            have B4 := Lib.hid (via B3.out hz)
            have H4 := Lib.hid (H3.out.below hz)
            have P4 := Lib.hid (P3.out.below hz)
            have Q4 := Lib.hid (Q3.out.below hz)
            clear hz
            refine hK.out _ _ ?s19 (fun hNew => ?r19)
            case s19 => exact ⟨H4.out.2.1, trivial⟩
            clear hK K hHeld
            have hHeld := hNew
            clear hNew
            refine wpAnyH_ready (rs := [6]) (by kernel_rfl) (by simp) ?_
            refine (AllReadyH.cons (o := { dst := none, op := Go.Op.store 29 (Go.Operand.tmp 12) (Go.Operand.tmp 38), type := 0, pos := "law.go:42", after := #[{ on := 4, ground := Go.Ground.data }, { on := 1, ground := Go.Ground.data }, { on := 3, ground := Go.Ground.chain }, { on := 0, ground := Go.Ground.phase }, { on := 1, ground := Go.Ground.phase }, { on := 2, ground := Go.Ground.textOnly Go.Departure.lateStores }, { on := 3, ground := Go.Ground.textOnly Go.Departure.lateStoresUnsure }, { on := 4, ground := Go.Ground.phase }, { on := 5, ground := Go.Ground.phase }], guard := none }) rfl (fun K hK => ?_) AllReadyH.nil)
            · skip
              obtain ⟨hcl, hfz⟩ := P4.out.out
              go_simp
              clear hcl hfz
              have P5 := Lib.hid (P4.out.put8 (.int .i64 m0.k) (.int .i64 m0.n) (.int .i64 m0.r) (.bool m0.on) (.bool m0.mo) (.int .i64 m0.lo) (.int .i64 m0.hi) (.int .u8 m0.la))
              have B5 := Lib.hid (set8 B4.out pb LP.out (.int .i64 m0.k) (.int .i64 m0.n) (.int .i64 m0.r) (.bool m0.on) (.bool m0.mo) (.int .i64 m0.lo) (.int .i64 m0.hi) (.int .u8 m0.la))
              have H5 := Lib.hid (H4.out.far8 NP.out (.int .i64 m0.k) (.int .i64 m0.n) (.int .i64 m0.r) (.bool m0.on) (.bool m0.mo) (.int .i64 m0.lo) (.int .i64 m0.hi) (.int .u8 m0.la))
              have Q5 := Lib.hid (Q4.out.far8 (NPQ.out.symm) (.int .i64 m0.k) (.int .i64 m0.n) (.int .i64 m0.r) (.bool m0.on) (.bool m0.mo) (.int .i64 m0.lo) (.int .i64 m0.hi) (.int .u8 m0.la))
              refine hK.out _ _ ?s20 (fun hNew => ?r20)
              case s20 => exact ⟨H5.out.2.1, trivial⟩
              clear hK K hHeld
              have hHeld := hNew
              clear hNew
              generalize (World.setCell (World.setCell (World.setCell (World.setCell (World.setCell (World.setCell (World.setCell (World.setCell u4 ⟨pb, 0, none⟩ (.int .i64 m0.k)) ⟨pb, 1, none⟩ (.int .i64 m0.n)) ⟨pb, 2, none⟩ (.int .i64 m0.r)) ⟨pb, 3, none⟩ (.bool m0.on)) ⟨pb, 4, none⟩ (.bool m0.mo)) ⟨pb, 5, none⟩ (.int .i64 m0.lo)) ⟨pb, 6, none⟩ (.int .i64 m0.hi)) ⟨pb, 7, none⟩ (.int .u8 m0.la)) = u5 at hHeld B5 H5 P5 Q5 ⊢
              refine wpAnyH_ready (rs := [7]) (by kernel_rfl) (by simp) ?_
              refine (AllReadyH.cons (o := { dst := none, op := Go.Op.store 32 (Go.Operand.tmp 13) (Go.Operand.tmp 40), type := 0, pos := "law.go:42", after := #[{ on := 5, ground := Go.Ground.data }, { on := 3, ground := Go.Ground.data }, { on := 6, ground := Go.Ground.chain }, { on := 0, ground := Go.Ground.phase }, { on := 1, ground := Go.Ground.phase }, { on := 2, ground := Go.Ground.phase }, { on := 3, ground := Go.Ground.phase }, { on := 4, ground := Go.Ground.phase }, { on := 5, ground := Go.Ground.phase }, { on := 6, ground := Go.Ground.phase }], guard := none }) rfl (fun K hK => ?_) AllReadyH.nil)
              · skip
                obtain ⟨hcl, hfz⟩ := Q5.out.out
                go_simp
                clear hcl hfz
                have Q6 := Lib.hid (Q5.out.put8 (.int .i64 m0.k) (.int .i64 m0.n) (.int .i64 m0.r) (.bool m0.on) (.bool m0.mo) (.int .i64 m0.lo) (.int .i64 m0.hi) (.int .u8 m0.la))
                have B6 := Lib.hid (set8 B5.out qb LQ.out (.int .i64 m0.k) (.int .i64 m0.n) (.int .i64 m0.r) (.bool m0.on) (.bool m0.mo) (.int .i64 m0.lo) (.int .i64 m0.hi) (.int .u8 m0.la))
                have H6 := Lib.hid (H5.out.far8 NQ.out (.int .i64 m0.k) (.int .i64 m0.n) (.int .i64 m0.r) (.bool m0.on) (.bool m0.mo) (.int .i64 m0.lo) (.int .i64 m0.hi) (.int .u8 m0.la))
                have P6 := Lib.hid (P5.out.far8 (NPQ.out) (.int .i64 m0.k) (.int .i64 m0.n) (.int .i64 m0.r) (.bool m0.on) (.bool m0.mo) (.int .i64 m0.lo) (.int .i64 m0.hi) (.int .u8 m0.la))
                refine hK.out _ _ ?s21 (fun hNew => ?r21)
                case s21 => exact ⟨H6.out.2.1, trivial⟩
                clear hK K hHeld
                have hHeld := hNew
                clear hNew
                generalize (World.setCell (World.setCell (World.setCell (World.setCell (World.setCell (World.setCell (World.setCell (World.setCell u5 ⟨qb, 0, none⟩ (.int .i64 m0.k)) ⟨qb, 1, none⟩ (.int .i64 m0.n)) ⟨qb, 2, none⟩ (.int .i64 m0.r)) ⟨qb, 3, none⟩ (.bool m0.on)) ⟨qb, 4, none⟩ (.bool m0.mo)) ⟨qb, 5, none⟩ (.int .i64 m0.lo)) ⟨qb, 6, none⟩ (.int .i64 m0.hi)) ⟨qb, 7, none⟩ (.int .u8 m0.la)) = u6 at hHeld B6 H6 P6 Q6 ⊢
                refine wpAnyH_done (by kernel_rfl) ?_ _
                clear hHeld
                go_wp2
                go_meet
                exact ⟨pb, qb, rfl, rfl, B6.out, P6.out, Q6.out, NPQ.out, LP.out, LQ.out⟩
      · skip
        go_simp
        have hz := own1 u1 (.cells #[.int .i64 0, .int .i64 0, .int .i64 0, .bool false, .bool false, .int .i64 0, .int .i64 0, .int .u8 0] 32)
        have B2 := Lib.hid (via B1.out hz)
        have H2 := Lib.hid (H1.out.below hz)
        have Q2 := Lib.hid (Has.new u1 #[.int .i64 0, .int .i64 0, .int .i64 0, .bool false, .bool false, .int .i64 0, .int .i64 0, .int .u8 0] 32)
        have LQ := Lib.hid (show w.heap.size ≤ u1.heap.size from B1.out.size)
        have NQ := Lib.hid (show hb ≠ u1.heap.size by have := H1.out.1; omega)
        clear hz
        refine hK.out _ _ ?s22 (fun hNew => ?r22)
        case s22 => exact ⟨H2.out.2.1, trivial⟩
        clear hK K hHeld
        have hHeld := hNew
        clear hNew
        generalize World.alloc u1 (.cells #[.int .i64 0, .int .i64 0, .int .i64 0, .bool false, .bool false, .int .i64 0, .int .i64 0, .int .u8 0] 32) = u2 at hHeld B2 H2 Q2 ⊢
        generalize u1.heap.size = qb at Q2 LQ NQ ⊢
        refine wpAnyH_ready (rs := [3, 4]) (by kernel_rfl) (by simp) ?_
        refine (AllReadyH.cons (o := { dst := some 40, op := Go.Op.call { callee := Go.Callee.value (Go.Operand.func 12), args := #[Go.Operand.tmp 39], argTypes := #[26] }, type := 32, pos := "law.go:42", after := #[{ on := 2, ground := Go.Ground.data }, { on := 1, ground := Go.Ground.chain }], guard := none }) rfl (fun K hK => ?_) (AllReadyH.cons (o := { dst := some 12, op := Go.Op.alloc 29, type := 0, pos := "law.go:42", after := #[], guard := none }) rfl (fun K hK => ?_) AllReadyH.nil))
        · skip
          go_simp
          with_reducible refine (RC.out _).mono ?_
          rintro e u3 ⟨rfl, hz⟩
          have B3 := Lib.hid (via B2.out hz)
          have H3 := Lib.hid (H2.out.below hz)
          have Q3 := Lib.hid (Q2.out.below hz)
          clear hz
          refine hK.out _ _ ?s23 (fun hNew => ?r23)
          case s23 => exact ⟨H3.out.2.1, trivial⟩
          clear hK K hHeld
          have hHeld := hNew
          clear hNew
          refine wpAnyH_ready (rs := [4]) (by kernel_rfl) (by simp) ?_
          refine (AllReadyH.cons (o := { dst := some 12, op := Go.Op.alloc 29, type := 0, pos := "law.go:42", after := #[], guard := none }) rfl (fun K hK => ?_) AllReadyH.nil)
          · skip
            go_simp
            have hz := own1 u3 (.cells #[.int .i64 0, .int .i64 0, .int .i64 0, .bool false, .bool false, .int .i64 0, .int .i64 0, .int .u8 0] 29)
            have B4 := Lib.hid (via B3.out hz)
            have H4 := Lib.hid (H3.out.below hz)
            have P4 := Lib.hid (Has.new u3 #[.int .i64 0, .int .i64 0, .int .i64 0, .bool false, .bool false, .int .i64 0, .int .i64 0, .int .u8 0] 29)
            have LP := Lib.hid (show w.heap.size ≤ u3.heap.size from B3.out.size)
            have NP := Lib.hid (show hb ≠ u3.heap.size by have := H3.out.1; omega)
            have Q4 := Lib.hid (Q3.out.below hz)
            have NPQ := Lib.hid (show qb ≠ u3.heap.size by have := Q3.out.1; omega)
            clear hz
            refine hK.out _ _ ?s24 (fun hNew => ?r24)
            case s24 => exact ⟨H4.out.2.1, trivial⟩
            clear hK K hHeld
            have hHeld := hNew
            clear hNew
            generalize World.alloc u3 (.cells #[.int .i64 0, .int .i64 0, .int .i64 0, .bool false, .bool false, .int .i64 0, .int .i64 0, .int .u8 0] 29) = u4 at hHeld B4 H4 P4 Q4 ⊢
            generalize u3.heap.size = pb at P4 LP NP NPQ ⊢
            refine wpAnyH_ready (rs := [6]) (by kernel_rfl) (by simp) ?_
            refine (AllReadyH.cons (o := { dst := none, op := Go.Op.store 29 (Go.Operand.tmp 12) (Go.Operand.tmp 38), type := 0, pos := "law.go:42", after := #[{ on := 4, ground := Go.Ground.data }, { on := 1, ground := Go.Ground.data }, { on := 3, ground := Go.Ground.chain }, { on := 0, ground := Go.Ground.phase }, { on := 1, ground := Go.Ground.phase }, { on := 2, ground := Go.Ground.textOnly Go.Departure.lateStores }, { on := 3, ground := Go.Ground.textOnly Go.Departure.lateStoresUnsure }, { on := 4, ground := Go.Ground.phase }, { on := 5, ground := Go.Ground.phase }], guard := none }) rfl (fun K hK => ?_) AllReadyH.nil)
            · skip
              obtain ⟨hcl, hfz⟩ := P4.out.out
              go_simp
              clear hcl hfz
              have P5 := Lib.hid (P4.out.put8 (.int .i64 m0.k) (.int .i64 m0.n) (.int .i64 m0.r) (.bool m0.on) (.bool m0.mo) (.int .i64 m0.lo) (.int .i64 m0.hi) (.int .u8 m0.la))
              have B5 := Lib.hid (set8 B4.out pb LP.out (.int .i64 m0.k) (.int .i64 m0.n) (.int .i64 m0.r) (.bool m0.on) (.bool m0.mo) (.int .i64 m0.lo) (.int .i64 m0.hi) (.int .u8 m0.la))
              have H5 := Lib.hid (H4.out.far8 NP.out (.int .i64 m0.k) (.int .i64 m0.n) (.int .i64 m0.r) (.bool m0.on) (.bool m0.mo) (.int .i64 m0.lo) (.int .i64 m0.hi) (.int .u8 m0.la))
              have Q5 := Lib.hid (Q4.out.far8 (NPQ.out) (.int .i64 m0.k) (.int .i64 m0.n) (.int .i64 m0.r) (.bool m0.on) (.bool m0.mo) (.int .i64 m0.lo) (.int .i64 m0.hi) (.int .u8 m0.la))
              refine hK.out _ _ ?s25 (fun hNew => ?r25)
              case s25 => exact ⟨H5.out.2.1, trivial⟩
              clear hK K hHeld
              have hHeld := hNew
              clear hNew
              generalize (World.setCell (World.setCell (World.setCell (World.setCell (World.setCell (World.setCell (World.setCell (World.setCell u4 ⟨pb, 0, none⟩ (.int .i64 m0.k)) ⟨pb, 1, none⟩ (.int .i64 m0.n)) ⟨pb, 2, none⟩ (.int .i64 m0.r)) ⟨pb, 3, none⟩ (.bool m0.on)) ⟨pb, 4, none⟩ (.bool m0.mo)) ⟨pb, 5, none⟩ (.int .i64 m0.lo)) ⟨pb, 6, none⟩ (.int .i64 m0.hi)) ⟨pb, 7, none⟩ (.int .u8 m0.la)) = u5 at hHeld B5 H5 P5 Q5 ⊢
              refine wpAnyH_ready (rs := [7]) (by kernel_rfl) (by simp) ?_
              refine (AllReadyH.cons (o := { dst := none, op := Go.Op.store 32 (Go.Operand.tmp 13) (Go.Operand.tmp 40), type := 0, pos := "law.go:42", after := #[{ on := 5, ground := Go.Ground.data }, { on := 3, ground := Go.Ground.data }, { on := 6, ground := Go.Ground.chain }, { on := 0, ground := Go.Ground.phase }, { on := 1, ground := Go.Ground.phase }, { on := 2, ground := Go.Ground.phase }, { on := 3, ground := Go.Ground.phase }, { on := 4, ground := Go.Ground.phase }, { on := 5, ground := Go.Ground.phase }, { on := 6, ground := Go.Ground.phase }], guard := none }) rfl (fun K hK => ?_) AllReadyH.nil)
              · skip
                obtain ⟨hcl, hfz⟩ := Q5.out.out
                go_simp
                clear hcl hfz
                have Q6 := Lib.hid (Q5.out.put8 (.int .i64 m0.k) (.int .i64 m0.n) (.int .i64 m0.r) (.bool m0.on) (.bool m0.mo) (.int .i64 m0.lo) (.int .i64 m0.hi) (.int .u8 m0.la))
                have B6 := Lib.hid (set8 B5.out qb LQ.out (.int .i64 m0.k) (.int .i64 m0.n) (.int .i64 m0.r) (.bool m0.on) (.bool m0.mo) (.int .i64 m0.lo) (.int .i64 m0.hi) (.int .u8 m0.la))
                have H6 := Lib.hid (H5.out.far8 NQ.out (.int .i64 m0.k) (.int .i64 m0.n) (.int .i64 m0.r) (.bool m0.on) (.bool m0.mo) (.int .i64 m0.lo) (.int .i64 m0.hi) (.int .u8 m0.la))
                have P6 := Lib.hid (P5.out.far8 (NPQ.out.symm) (.int .i64 m0.k) (.int .i64 m0.n) (.int .i64 m0.r) (.bool m0.on) (.bool m0.mo) (.int .i64 m0.lo) (.int .i64 m0.hi) (.int .u8 m0.la))
                refine hK.out _ _ ?s26 (fun hNew => ?r26)
                case s26 => exact ⟨H6.out.2.1, trivial⟩
                clear hK K hHeld
                have hHeld := hNew
                clear hNew
                generalize (World.setCell (World.setCell (World.setCell (World.setCell (World.setCell (World.setCell (World.setCell (World.setCell u5 ⟨qb, 0, none⟩ (.int .i64 m0.k)) ⟨qb, 1, none⟩ (.int .i64 m0.n)) ⟨qb, 2, none⟩ (.int .i64 m0.r)) ⟨qb, 3, none⟩ (.bool m0.on)) ⟨qb, 4, none⟩ (.bool m0.mo)) ⟨qb, 5, none⟩ (.int .i64 m0.lo)) ⟨qb, 6, none⟩ (.int .i64 m0.hi)) ⟨qb, 7, none⟩ (.int .u8 m0.la)) = u6 at hHeld B6 H6 P6 Q6 ⊢
                refine wpAnyH_done (by kernel_rfl) ?_ _
                clear hHeld
                go_wp2
                go_meet
                exact ⟨pb, qb, rfl, rfl, B6.out, P6.out, Q6.out, NPQ.out.symm, LP.out, LQ.out⟩
        · skip
          go_simp
          have hz := own1 u2 (.cells #[.int .i64 0, .int .i64 0, .int .i64 0, .bool false, .bool false, .int .i64 0, .int .i64 0, .int .u8 0] 29)
          have B3 := Lib.hid (via B2.out hz)
          have H3 := Lib.hid (H2.out.below hz)
          have P3 := Lib.hid (Has.new u2 #[.int .i64 0, .int .i64 0, .int .i64 0, .bool false, .bool false, .int .i64 0, .int .i64 0, .int .u8 0] 29)
          have LP := Lib.hid (show w.heap.size ≤ u2.heap.size from B2.out.size)
          have NP := Lib.hid (show hb ≠ u2.heap.size by have := H2.out.1; omega)
          have Q3 := Lib.hid (Q2.out.below hz)
          have NPQ := Lib.hid (show qb ≠ u2.heap.size by have := Q2.out.1; omega)
          clear hz
          refine hK.out _ _ ?s27 (fun hNew => ?r27)
          case s27 => exact ⟨H3.out.2.1, trivial⟩
          clear hK K hHeld
          have hHeld := hNew
          clear hNew
          generalize World.alloc u2 (.cells #[.int .i64 0, .int .i64 0, .int .i64 0, .bool false, .bool false, .int .i64 0, .int .i64 0, .int .u8 0] 29) = u3 at hHeld B3 H3 P3 Q3 ⊢
          generalize u2.heap.size = pb at P3 LP NP NPQ ⊢
          refine wpAnyH_ready (rs := [3]) (by kernel_rfl) (by simp) ?_
          refine (AllReadyH.cons (o := { dst := some 40, op := Go.Op.call { callee := Go.Callee.value (Go.Operand.func 12), args := #[Go.Operand.tmp 39], argTypes := #[26] }, type := 32, pos := "law.go:42", after := #[{ on := 2, ground := Go.Ground.data }, { on := 1, ground := Go.Ground.chain }], guard := none }) rfl (fun K hK => ?_) AllReadyH.nil)
          · skip
            go_simp
            with_reducible refine (RC.out _).mono ?_
            rintro e u4 ⟨rfl, hz⟩
            have B4 := Lib.hid (via B3.out hz)
            have H4 := Lib.hid (H3.out.below hz)
            have P4 := Lib.hid (P3.out.below hz)
            have Q4 := Lib.hid (Q3.out.below hz)
            clear hz
            refine hK.out _ _ ?s28 (fun hNew => ?r28)
            case s28 => exact ⟨H4.out.2.1, trivial⟩
            clear hK K hHeld
            have hHeld := hNew
            clear hNew
            refine wpAnyH_ready (rs := [6]) (by kernel_rfl) (by simp) ?_
            refine (AllReadyH.cons (o := { dst := none, op := Go.Op.store 29 (Go.Operand.tmp 12) (Go.Operand.tmp 38), type := 0, pos := "law.go:42", after := #[{ on := 4, ground := Go.Ground.data }, { on := 1, ground := Go.Ground.data }, { on := 3, ground := Go.Ground.chain }, { on := 0, ground := Go.Ground.phase }, { on := 1, ground := Go.Ground.phase }, { on := 2, ground := Go.Ground.textOnly Go.Departure.lateStores }, { on := 3, ground := Go.Ground.textOnly Go.Departure.lateStoresUnsure }, { on := 4, ground := Go.Ground.phase }, { on := 5, ground := Go.Ground.phase }], guard := none }) rfl (fun K hK => ?_) AllReadyH.nil)
            · skip
              obtain ⟨hcl, hfz⟩ := P4.out.out
              go_simp
              clear hcl hfz
              have P5 := Lib.hid (P4.out.put8 (.int .i64 m0.k) (.int .i64 m0.n) (.int .i64 m0.r) (.bool m0.on) (.bool m0.mo) (.int .i64 m0.lo) (.int .i64 m0.hi) (.int .u8 m0.la))
              have B5 := Lib.hid (set8 B4.out pb LP.out (.int .i64 m0.k) (.int .i64 m0.n) (.int .i64 m0.r) (.bool m0.on) (.bool m0.mo) (.int .i64 m0.lo) (.int .i64 m0.hi) (.int .u8 m0.la))
              have H5 := Lib.hid (H4.out.far8 NP.out (.int .i64 m0.k) (.int .i64 m0.n) (.int .i64 m0.r) (.bool m0.on) (.bool m0.mo) (.int .i64 m0.lo) (.int .i64 m0.hi) (.int .u8 m0.la))
              have Q5 := Lib.hid (Q4.out.far8 (NPQ.out) (.int .i64 m0.k) (.int .i64 m0.n) (.int .i64 m0.r) (.bool m0.on) (.bool m0.mo) (.int .i64 m0.lo) (.int .i64 m0.hi) (.int .u8 m0.la))
              refine hK.out _ _ ?s29 (fun hNew => ?r29)
              case s29 => exact ⟨H5.out.2.1, trivial⟩
              clear hK K hHeld
              have hHeld := hNew
              clear hNew
              generalize (World.setCell (World.setCell (World.setCell (World.setCell (World.setCell (World.setCell (World.setCell (World.setCell u4 ⟨pb, 0, none⟩ (.int .i64 m0.k)) ⟨pb, 1, none⟩ (.int .i64 m0.n)) ⟨pb, 2, none⟩ (.int .i64 m0.r)) ⟨pb, 3, none⟩ (.bool m0.on)) ⟨pb, 4, none⟩ (.bool m0.mo)) ⟨pb, 5, none⟩ (.int .i64 m0.lo)) ⟨pb, 6, none⟩ (.int .i64 m0.hi)) ⟨pb, 7, none⟩ (.int .u8 m0.la)) = u5 at hHeld B5 H5 P5 Q5 ⊢
              refine wpAnyH_ready (rs := [7]) (by kernel_rfl) (by simp) ?_
              refine (AllReadyH.cons (o := { dst := none, op := Go.Op.store 32 (Go.Operand.tmp 13) (Go.Operand.tmp 40), type := 0, pos := "law.go:42", after := #[{ on := 5, ground := Go.Ground.data }, { on := 3, ground := Go.Ground.data }, { on := 6, ground := Go.Ground.chain }, { on := 0, ground := Go.Ground.phase }, { on := 1, ground := Go.Ground.phase }, { on := 2, ground := Go.Ground.phase }, { on := 3, ground := Go.Ground.phase }, { on := 4, ground := Go.Ground.phase }, { on := 5, ground := Go.Ground.phase }, { on := 6, ground := Go.Ground.phase }], guard := none }) rfl (fun K hK => ?_) AllReadyH.nil)
              · skip
                obtain ⟨hcl, hfz⟩ := Q5.out.out
                go_simp
                clear hcl hfz
                have Q6 := Lib.hid (Q5.out.put8 (.int .i64 m0.k) (.int .i64 m0.n) (.int .i64 m0.r) (.bool m0.on) (.bool m0.mo) (.int .i64 m0.lo) (.int .i64 m0.hi) (.int .u8 m0.la))
                have B6 := Lib.hid (set8 B5.out qb LQ.out (.int .i64 m0.k) (.int .i64 m0.n) (.int .i64 m0.r) (.bool m0.on) (.bool m0.mo) (.int .i64 m0.lo) (.int .i64 m0.hi) (.int .u8 m0.la))
                have H6 := Lib.hid (H5.out.far8 NQ.out (.int .i64 m0.k) (.int .i64 m0.n) (.int .i64 m0.r) (.bool m0.on) (.bool m0.mo) (.int .i64 m0.lo) (.int .i64 m0.hi) (.int .u8 m0.la))
                have P6 := Lib.hid (P5.out.far8 (NPQ.out.symm) (.int .i64 m0.k) (.int .i64 m0.n) (.int .i64 m0.r) (.bool m0.on) (.bool m0.mo) (.int .i64 m0.lo) (.int .i64 m0.hi) (.int .u8 m0.la))
                refine hK.out _ _ ?s30 (fun hNew => ?r30)
                case s30 => exact ⟨H6.out.2.1, trivial⟩
                clear hK K hHeld
                have hHeld := hNew
                clear hNew
                generalize (World.setCell (World.setCell (World.setCell (World.setCell (World.setCell (World.setCell (World.setCell (World.setCell u5 ⟨qb, 0, none⟩ (.int .i64 m0.k)) ⟨qb, 1, none⟩ (.int .i64 m0.n)) ⟨qb, 2, none⟩ (.int .i64 m0.r)) ⟨qb, 3, none⟩ (.bool m0.on)) ⟨qb, 4, none⟩ (.bool m0.mo)) ⟨qb, 5, none⟩ (.int .i64 m0.lo)) ⟨qb, 6, none⟩ (.int .i64 m0.hi)) ⟨qb, 7, none⟩ (.int .u8 m0.la)) = u6 at hHeld B6 H6 P6 Q6 ⊢
                refine wpAnyH_done (by kernel_rfl) ?_ _
                clear hHeld
                go_wp2
                go_meet
                exact ⟨pb, qb, rfl, rfl, B6.out, P6.out, Q6.out, NPQ.out.symm, LP.out, LQ.out⟩
    · skip
      go_simp
      have hz := own1 u0 (.cells #[.int .i64 0, .int .i64 0, .int .i64 0, .bool false, .bool false, .int .i64 0, .int .i64 0, .int .u8 0] 29)
      have B1 := Lib.hid (via B0.out hz)
      have H1 := Lib.hid (H0.out.below hz)
      have P1 := Lib.hid (Has.new u0 #[.int .i64 0, .int .i64 0, .int .i64 0, .bool false, .bool false, .int .i64 0, .int .i64 0, .int .u8 0] 29)
      have LP := Lib.hid (show w.heap.size ≤ u0.heap.size from B0.out.size)
      have NP := Lib.hid (show hb ≠ u0.heap.size by have := H0.out.1; omega)
      clear hz
      refine hK.out _ _ ?s31 (fun hNew => ?r31)
      case s31 => exact ⟨H1.out.2.1, trivial⟩
      clear hK K hHeld
      have hHeld := hNew
      clear hNew
      generalize World.alloc u0 (.cells #[.int .i64 0, .int .i64 0, .int .i64 0, .bool false, .bool false, .int .i64 0, .int .i64 0, .int .u8 0] 29) = u1 at hHeld B1 H1 P1 ⊢
      generalize u0.heap.size = pb at P1 LP NP ⊢
      refine wpAnyH_ready (rs := [1, 5]) (by kernel_rfl) (by simp) ?_
      refine (AllReadyH.cons (o := { dst := some 38, op := Go.Op.call { callee := Go.Callee.value (Go.Operand.func 11), args := #[Go.Operand.tmp 37], argTypes := #[31] }, type := 29, pos := "law.go:42", after := #[{ on := 0, ground := Go.Ground.data }], guard := none }) rfl (fun K hK => ?_) (AllReadyH.cons (o := { dst := some 13, op := Go.Op.alloc 32, type := 0, pos := "law.go:42", after := #[], guard := none }) rfl (fun K hK => ?_) AllReadyH.nil))
      · skip
        go_simp
        with_reducible refine (NC.out _).mono ?_
        rintro e u2 ⟨rfl, hz⟩
        have B2 := Lib.hid (via B1.out hz)
        have H2 := Lib.hid (H1.out.below hz)
        have P2 := Lib.hid (P1.out.below hz)
        clear hz
        refine hK.out _ _ ?s32 (fun hNew => ?r32)
        case s32 => exact ⟨H2.out.2.1, trivial⟩
        clear hK K hHeld
        have hHeld := hNew
        clear hNew
        refine wpAnyH_ready (rs := [3, 5]) (by kernel_rfl) (by simp) ?_
        refine (AllReadyH.cons (o := { dst := some 40, op := Go.Op.call { callee := Go.Callee.value (Go.Operand.func 12), args := #[Go.Operand.tmp 39], argTypes := #[26] }, type := 32, pos := "law.go:42", after := #[{ on := 2, ground := Go.Ground.data }, { on := 1, ground := Go.Ground.chain }], guard := none }) rfl (fun K hK => ?_) (AllReadyH.cons (o := { dst := some 13, op := Go.Op.alloc 32, type := 0, pos := "law.go:42", after := #[], guard := none }) rfl (fun K hK => ?_) AllReadyH.nil))
        · skip
          go_simp
          with_reducible refine (RC.out _).mono ?_
          rintro e u3 ⟨rfl, hz⟩
          have B3 := Lib.hid (via B2.out hz)
          have H3 := Lib.hid (H2.out.below hz)
          have P3 := Lib.hid (P2.out.below hz)
          clear hz
          refine hK.out _ _ ?s33 (fun hNew => ?r33)
          case s33 => exact ⟨H3.out.2.1, trivial⟩
          clear hK K hHeld
          have hHeld := hNew
          clear hNew
          refine wpAnyH_ready (rs := [5]) (by kernel_rfl) (by simp) ?_
          refine (AllReadyH.cons (o := { dst := some 13, op := Go.Op.alloc 32, type := 0, pos := "law.go:42", after := #[], guard := none }) rfl (fun K hK => ?_) AllReadyH.nil)
          · skip
            go_simp
            have hz := own1 u3 (.cells #[.int .i64 0, .int .i64 0, .int .i64 0, .bool false, .bool false, .int .i64 0, .int .i64 0, .int .u8 0] 32)
            have B4 := Lib.hid (via B3.out hz)
            have H4 := Lib.hid (H3.out.below hz)
            have Q4 := Lib.hid (Has.new u3 #[.int .i64 0, .int .i64 0, .int .i64 0, .bool false, .bool false, .int .i64 0, .int .i64 0, .int .u8 0] 32)
            have LQ := Lib.hid (show w.heap.size ≤ u3.heap.size from B3.out.size)
            have NQ := Lib.hid (show hb ≠ u3.heap.size by have := H3.out.1; omega)
            have P4 := Lib.hid (P3.out.below hz)
            have NPQ := Lib.hid (show pb ≠ u3.heap.size by have := P3.out.1; omega)
            clear hz
            refine hK.out _ _ ?s34 (fun hNew => ?r34)
            case s34 => exact ⟨H4.out.2.1, trivial⟩
            clear hK K hHeld
            have hHeld := hNew
            clear hNew
            generalize World.alloc u3 (.cells #[.int .i64 0, .int .i64 0, .int .i64 0, .bool false, .bool false, .int .i64 0, .int .i64 0, .int .u8 0] 32) = u4 at hHeld B4 H4 Q4 P4 ⊢
            generalize u3.heap.size = qb at Q4 LQ NQ NPQ ⊢
            refine wpAnyH_ready (rs := [6]) (by kernel_rfl) (by simp) ?_
            refine (AllReadyH.cons (o := { dst := none, op := Go.Op.store 29 (Go.Operand.tmp 12) (Go.Operand.tmp 38), type := 0, pos := "law.go:42", after := #[{ on := 4, ground := Go.Ground.data }, { on := 1, ground := Go.Ground.data }, { on := 3, ground := Go.Ground.chain }, { on := 0, ground := Go.Ground.phase }, { on := 1, ground := Go.Ground.phase }, { on := 2, ground := Go.Ground.textOnly Go.Departure.lateStores }, { on := 3, ground := Go.Ground.textOnly Go.Departure.lateStoresUnsure }, { on := 4, ground := Go.Ground.phase }, { on := 5, ground := Go.Ground.phase }], guard := none }) rfl (fun K hK => ?_) AllReadyH.nil)
            · skip
              obtain ⟨hcl, hfz⟩ := P4.out.out
              go_simp
              clear hcl hfz
              have P5 := Lib.hid (P4.out.put8 (.int .i64 m0.k) (.int .i64 m0.n) (.int .i64 m0.r) (.bool m0.on) (.bool m0.mo) (.int .i64 m0.lo) (.int .i64 m0.hi) (.int .u8 m0.la))
              have B5 := Lib.hid (set8 B4.out pb LP.out (.int .i64 m0.k) (.int .i64 m0.n) (.int .i64 m0.r) (.bool m0.on) (.bool m0.mo) (.int .i64 m0.lo) (.int .i64 m0.hi) (.int .u8 m0.la))
              have H5 := Lib.hid (H4.out.far8 NP.out (.int .i64 m0.k) (.int .i64 m0.n) (.int .i64 m0.r) (.bool m0.on) (.bool m0.mo) (.int .i64 m0.lo) (.int .i64 m0.hi) (.int .u8 m0.la))
              have Q5 := Lib.hid (Q4.out.far8 (NPQ.out.symm) (.int .i64 m0.k) (.int .i64 m0.n) (.int .i64 m0.r) (.bool m0.on) (.bool m0.mo) (.int .i64 m0.lo) (.int .i64 m0.hi) (.int .u8 m0.la))
              refine hK.out _ _ ?s35 (fun hNew => ?r35)
              case s35 => exact ⟨H5.out.2.1, trivial⟩
              clear hK K hHeld
              have hHeld := hNew
              clear hNew
              generalize (World.setCell (World.setCell (World.setCell (World.setCell (World.setCell (World.setCell (World.setCell (World.setCell u4 ⟨pb, 0, none⟩ (.int .i64 m0.k)) ⟨pb, 1, none⟩ (.int .i64 m0.n)) ⟨pb, 2, none⟩ (.int .i64 m0.r)) ⟨pb, 3, none⟩ (.bool m0.on)) ⟨pb, 4, none⟩ (.bool m0.mo)) ⟨pb, 5, none⟩ (.int .i64 m0.lo)) ⟨pb, 6, none⟩ (.int .i64 m0.hi)) ⟨pb, 7, none⟩ (.int .u8 m0.la)) = u5 at hHeld B5 H5 P5 Q5 ⊢
              refine wpAnyH_ready (rs := [7]) (by kernel_rfl) (by simp) ?_
              refine (AllReadyH.cons (o := { dst := none, op := Go.Op.store 32 (Go.Operand.tmp 13) (Go.Operand.tmp 40), type := 0, pos := "law.go:42", after := #[{ on := 5, ground := Go.Ground.data }, { on := 3, ground := Go.Ground.data }, { on := 6, ground := Go.Ground.chain }, { on := 0, ground := Go.Ground.phase }, { on := 1, ground := Go.Ground.phase }, { on := 2, ground := Go.Ground.phase }, { on := 3, ground := Go.Ground.phase }, { on := 4, ground := Go.Ground.phase }, { on := 5, ground := Go.Ground.phase }, { on := 6, ground := Go.Ground.phase }], guard := none }) rfl (fun K hK => ?_) AllReadyH.nil)
              · skip
                obtain ⟨hcl, hfz⟩ := Q5.out.out
                go_simp
                clear hcl hfz
                have Q6 := Lib.hid (Q5.out.put8 (.int .i64 m0.k) (.int .i64 m0.n) (.int .i64 m0.r) (.bool m0.on) (.bool m0.mo) (.int .i64 m0.lo) (.int .i64 m0.hi) (.int .u8 m0.la))
                have B6 := Lib.hid (set8 B5.out qb LQ.out (.int .i64 m0.k) (.int .i64 m0.n) (.int .i64 m0.r) (.bool m0.on) (.bool m0.mo) (.int .i64 m0.lo) (.int .i64 m0.hi) (.int .u8 m0.la))
                have H6 := Lib.hid (H5.out.far8 NQ.out (.int .i64 m0.k) (.int .i64 m0.n) (.int .i64 m0.r) (.bool m0.on) (.bool m0.mo) (.int .i64 m0.lo) (.int .i64 m0.hi) (.int .u8 m0.la))
                have P6 := Lib.hid (P5.out.far8 (NPQ.out) (.int .i64 m0.k) (.int .i64 m0.n) (.int .i64 m0.r) (.bool m0.on) (.bool m0.mo) (.int .i64 m0.lo) (.int .i64 m0.hi) (.int .u8 m0.la))
                refine hK.out _ _ ?s36 (fun hNew => ?r36)
                case s36 => exact ⟨H6.out.2.1, trivial⟩
                clear hK K hHeld
                have hHeld := hNew
                clear hNew
                generalize (World.setCell (World.setCell (World.setCell (World.setCell (World.setCell (World.setCell (World.setCell (World.setCell u5 ⟨qb, 0, none⟩ (.int .i64 m0.k)) ⟨qb, 1, none⟩ (.int .i64 m0.n)) ⟨qb, 2, none⟩ (.int .i64 m0.r)) ⟨qb, 3, none⟩ (.bool m0.on)) ⟨qb, 4, none⟩ (.bool m0.mo)) ⟨qb, 5, none⟩ (.int .i64 m0.lo)) ⟨qb, 6, none⟩ (.int .i64 m0.hi)) ⟨qb, 7, none⟩ (.int .u8 m0.la)) = u6 at hHeld B6 H6 P6 Q6 ⊢
                refine wpAnyH_done (by kernel_rfl) ?_ _
                clear hHeld
                go_wp2
                go_meet
                exact ⟨pb, qb, rfl, rfl, B6.out, P6.out, Q6.out, NPQ.out, LP.out, LQ.out⟩
        · skip
          go_simp
          have hz := own1 u2 (.cells #[.int .i64 0, .int .i64 0, .int .i64 0, .bool false, .bool false, .int .i64 0, .int .i64 0, .int .u8 0] 32)
          have B3 := Lib.hid (via B2.out hz)
          have H3 := Lib.hid (H2.out.below hz)
          have Q3 := Lib.hid (Has.new u2 #[.int .i64 0, .int .i64 0, .int .i64 0, .bool false, .bool false, .int .i64 0, .int .i64 0, .int .u8 0] 32)
          have LQ := Lib.hid (show w.heap.size ≤ u2.heap.size from B2.out.size)
          have NQ := Lib.hid (show hb ≠ u2.heap.size by have := H2.out.1; omega)
          have P3 := Lib.hid (P2.out.below hz)
          have NPQ := Lib.hid (show pb ≠ u2.heap.size by have := P2.out.1; omega)
          clear hz
          refine hK.out _ _ ?s37 (fun hNew => ?r37)
          case s37 => exact ⟨H3.out.2.1, trivial⟩
          clear hK K hHeld
          have hHeld := hNew
          clear hNew
          generalize World.alloc u2 (.cells #[.int .i64 0, .int .i64 0, .int .i64 0, .bool false, .bool false, .int .i64 0, .int .i64 0, .int .u8 0] 32) = u3 at hHeld B3 H3 Q3 P3 ⊢
          generalize u2.heap.size = qb at Q3 LQ NQ NPQ ⊢
          refine wpAnyH_ready (rs := [3]) (by kernel_rfl) (by simp) ?_
          refine (AllReadyH.cons (o := { dst := some 40, op := Go.Op.call { callee := Go.Callee.value (Go.Operand.func 12), args := #[Go.Operand.tmp 39], argTypes := #[26] }, type := 32, pos := "law.go:42", after := #[{ on := 2, ground := Go.Ground.data }, { on := 1, ground := Go.Ground.chain }], guard := none }) rfl (fun K hK => ?_) AllReadyH.nil)
          · skip
            go_simp
            with_reducible refine (RC.out _).mono ?_
            rintro e u4 ⟨rfl, hz⟩
            have B4 := Lib.hid (via B3.out hz)
            have H4 := Lib.hid (H3.out.below hz)
            have P4 := Lib.hid (P3.out.below hz)
            have Q4 := Lib.hid (Q3.out.below hz)
            clear hz
            refine hK.out _ _ ?s38 (fun hNew => ?r38)
            case s38 => exact ⟨H4.out.2.1, trivial⟩
            clear hK K hHeld
            have hHeld := hNew
            clear hNew
            refine wpAnyH_ready (rs := [6]) (by kernel_rfl) (by simp) ?_
            refine (AllReadyH.cons (o := { dst := none, op := Go.Op.store 29 (Go.Operand.tmp 12) (Go.Operand.tmp 38), type := 0, pos := "law.go:42", after := #[{ on := 4, ground := Go.Ground.data }, { on := 1, ground := Go.Ground.data }, { on := 3, ground := Go.Ground.chain }, { on := 0, ground := Go.Ground.phase }, { on := 1, ground := Go.Ground.phase }, { on := 2, ground := Go.Ground.textOnly Go.Departure.lateStores }, { on := 3, ground := Go.Ground.textOnly Go.Departure.lateStoresUnsure }, { on := 4, ground := Go.Ground.phase }, { on := 5, ground := Go.Ground.phase }], guard := none }) rfl (fun K hK => ?_) AllReadyH.nil)
            · skip
              obtain ⟨hcl, hfz⟩ := P4.out.out
              go_simp
              clear hcl hfz
              have P5 := Lib.hid (P4.out.put8 (.int .i64 m0.k) (.int .i64 m0.n) (.int .i64 m0.r) (.bool m0.on) (.bool m0.mo) (.int .i64 m0.lo) (.int .i64 m0.hi) (.int .u8 m0.la))
              have B5 := Lib.hid (set8 B4.out pb LP.out (.int .i64 m0.k) (.int .i64 m0.n) (.int .i64 m0.r) (.bool m0.on) (.bool m0.mo) (.int .i64 m0.lo) (.int .i64 m0.hi) (.int .u8 m0.la))
              have H5 := Lib.hid (H4.out.far8 NP.out (.int .i64 m0.k) (.int .i64 m0.n) (.int .i64 m0.r) (.bool m0.on) (.bool m0.mo) (.int .i64 m0.lo) (.int .i64 m0.hi) (.int .u8 m0.la))
              have Q5 := Lib.hid (Q4.out.far8 (NPQ.out.symm) (.int .i64 m0.k) (.int .i64 m0.n) (.int .i64 m0.r) (.bool m0.on) (.bool m0.mo) (.int .i64 m0.lo) (.int .i64 m0.hi) (.int .u8 m0.la))
              refine hK.out _ _ ?s39 (fun hNew => ?r39)
              case s39 => exact ⟨H5.out.2.1, trivial⟩
              clear hK K hHeld
              have hHeld := hNew
              clear hNew
              generalize (World.setCell (World.setCell (World.setCell (World.setCell (World.setCell (World.setCell (World.setCell (World.setCell u4 ⟨pb, 0, none⟩ (.int .i64 m0.k)) ⟨pb, 1, none⟩ (.int .i64 m0.n)) ⟨pb, 2, none⟩ (.int .i64 m0.r)) ⟨pb, 3, none⟩ (.bool m0.on)) ⟨pb, 4, none⟩ (.bool m0.mo)) ⟨pb, 5, none⟩ (.int .i64 m0.lo)) ⟨pb, 6, none⟩ (.int .i64 m0.hi)) ⟨pb, 7, none⟩ (.int .u8 m0.la)) = u5 at hHeld B5 H5 P5 Q5 ⊢
              refine wpAnyH_ready (rs := [7]) (by kernel_rfl) (by simp) ?_
              refine (AllReadyH.cons (o := { dst := none, op := Go.Op.store 32 (Go.Operand.tmp 13) (Go.Operand.tmp 40), type := 0, pos := "law.go:42", after := #[{ on := 5, ground := Go.Ground.data }, { on := 3, ground := Go.Ground.data }, { on := 6, ground := Go.Ground.chain }, { on := 0, ground := Go.Ground.phase }, { on := 1, ground := Go.Ground.phase }, { on := 2, ground := Go.Ground.phase }, { on := 3, ground := Go.Ground.phase }, { on := 4, ground := Go.Ground.phase }, { on := 5, ground := Go.Ground.phase }, { on := 6, ground := Go.Ground.phase }], guard := none }) rfl (fun K hK => ?_) AllReadyH.nil)
              · skip
                obtain ⟨hcl, hfz⟩ := Q5.out.out
                go_simp
                clear hcl hfz
                have Q6 := Lib.hid (Q5.out.put8 (.int .i64 m0.k) (.int .i64 m0.n) (.int .i64 m0.r) (.bool m0.on) (.bool m0.mo) (.int .i64 m0.lo) (.int .i64 m0.hi) (.int .u8 m0.la))
                have B6 := Lib.hid (set8 B5.out qb LQ.out (.int .i64 m0.k) (.int .i64 m0.n) (.int .i64 m0.r) (.bool m0.on) (.bool m0.mo) (.int .i64 m0.lo) (.int .i64 m0.hi) (.int .u8 m0.la))
                have H6 := Lib.hid (H5.out.far8 NQ.out (.int .i64 m0.k) (.int .i64 m0.n) (.int .i64 m0.r) (.bool m0.on) (.bool m0.mo) (.int .i64 m0.lo) (.int .i64 m0.hi) (.int .u8 m0.la))
                have P6 := Lib.hid (P5.out.far8 (NPQ.out) (.int .i64 m0.k) (.int .i64 m0.n) (.int .i64 m0.r) (.bool m0.on) (.bool m0.mo) (.int .i64 m0.lo) (.int .i64 m0.hi) (.int .u8 m0.la))
                refine hK.out _ _ ?s40 (fun hNew => ?r40)
                case s40 => exact ⟨H6.out.2.1, trivial⟩
                clear hK K hHeld
                have hHeld := hNew
                clear hNew
                generalize (World.setCell (World.setCell (World.setCell (World.setCell (World.setCell (World.setCell (World.setCell (World.setCell u5 ⟨qb, 0, none⟩ (.int .i64 m0.k)) ⟨qb, 1, none⟩ (.int .i64 m0.n)) ⟨qb, 2, none⟩ (.int .i64 m0.r)) ⟨qb, 3, none⟩ (.bool m0.on)) ⟨qb, 4, none⟩ (.bool m0.mo)) ⟨qb, 5, none⟩ (.int .i64 m0.lo)) ⟨qb, 6, none⟩ (.int .i64 m0.hi)) ⟨qb, 7, none⟩ (.int .u8 m0.la)) = u6 at hHeld B6 H6 P6 Q6 ⊢
                refine wpAnyH_done (by kernel_rfl) ?_ _
                clear hHeld
                go_wp2
                go_meet
                exact ⟨pb, qb, rfl, rfl, B6.out, P6.out, Q6.out, NPQ.out, LP.out, LQ.out⟩
      · skip
        go_simp
        have hz := own1 u1 (.cells #[.int .i64 0, .int .i64 0, .int .i64 0, .bool false, .bool false, .int .i64 0, .int .i64 0, .int .u8 0] 32)
        have B2 := Lib.hid (via B1.out hz)
        have H2 := Lib.hid (H1.out.below hz)
        have Q2 := Lib.hid (Has.new u1 #[.int .i64 0, .int .i64 0, .int .i64 0, .bool false, .bool false, .int .i64 0, .int .i64 0, .int .u8 0] 32)
        have LQ := Lib.hid (show w.heap.size ≤ u1.heap.size from B1.out.size)
        have NQ := Lib.hid (show hb ≠ u1.heap.size by have := H1.out.1; omega)
        have P2 := Lib.hid (P1.out.below hz)
        have NPQ := Lib.hid (show pb ≠ u1.heap.size by have := P1.out.1; omega)
        clear hz
        refine hK.out _ _ ?s41 (fun hNew => ?r41)
        case s41 => exact ⟨H2.out.2.1, trivial⟩
        clear hK K hHeld
        have hHeld := hNew
        clear hNew
        generalize World.alloc u1 (.cells #[.int .i64 0, .int .i64 0, .int .i64 0, .bool false, .bool false, .int .i64 0, .int .i64 0, .int .u8 0] 32) = u2 at hHeld B2 H2 Q2 P2 ⊢
        generalize u1.heap.size = qb at Q2 LQ NQ NPQ ⊢
        refine wpAnyH_ready (rs := [1]) (by kernel_rfl) (by simp) ?_
        refine (AllReadyH.cons (o := { dst := some 38, op := Go.Op.call { callee := Go.Callee.value (Go.Operand.func 11), args := #[Go.Operand.tmp 37], argTypes := #[31] }, type := 29, pos := "law.go:42", after := #[{ on := 0, ground := Go.Ground.data }], guard := none }) rfl (fun K hK => ?_) AllReadyH.nil)
        · skip
          go_simp
          with_reducible refine (NC.out _).mono ?_
          rintro e u3 ⟨rfl, hz⟩
          have B3 := Lib.hid (via B2.out hz)
          have H3 := Lib.hid (H2.out.below hz)
          have P3 := Lib.hid (P2.out.below hz)
          have Q3 := Lib.hid (Q2.out.below hz)
          clear hz
          refine hK.out _ _ ?s42 (fun hNew => ?r42)
          case s42 => exact ⟨H3.out.2.1, trivial⟩
          clear hK K hHeld
          have hHeld := hNew
          clear hNew
          refine wpAnyH_ready (rs := [3]) (by kernel_rfl) (by simp) ?_
          refine (AllReadyH.cons (o := { dst := some 40, op := Go.Op.call { callee := Go.Callee.value (Go.Operand.func 12), args := #[Go.Operand.tmp 39], argTypes := #[26] }, type := 32, pos := "law.go:42", after := #[{ on := 2, ground := Go.Ground.data }, { on := 1, ground := Go.Ground.chain }], guard := none }) rfl (fun K hK => ?_) AllReadyH.nil)
          · skip
            go_simp
            with_reducible refine (RC.out _).mono ?_
            rintro e u4 ⟨rfl, hz⟩
            have B4 := Lib.hid (via B3.out hz)
            have H4 := Lib.hid (H3.out.below hz)
            have P4 := Lib.hid (P3.out.below hz)
            have Q4 := Lib.hid (Q3.out.below hz)
            clear hz
            refine hK.out _ _ ?s43 (fun hNew => ?r43)
            case s43 => exact ⟨H4.out.2.1, trivial⟩
            clear hK K hHeld
            have hHeld := hNew
            clear hNew
            refine wpAnyH_ready (rs := [6]) (by kernel_rfl) (by simp) ?_
            refine (AllReadyH.cons (o := { dst := none, op := Go.Op.store 29 (Go.Operand.tmp 12) (Go.Operand.tmp 38), type := 0, pos := "law.go:42", after := #[{ on := 4, ground := Go.Ground.data }, { on := 1, ground := Go.Ground.data }, { on := 3, ground := Go.Ground.chain }, { on := 0, ground := Go.Ground.phase }, { on := 1, ground := Go.Ground.phase }, { on := 2, ground := Go.Ground.textOnly Go.Departure.lateStores }, { on := 3, ground := Go.Ground.textOnly Go.Departure.lateStoresUnsure }, { on := 4, ground := Go.Ground.phase }, { on := 5, ground := Go.Ground.phase }], guard := none }) rfl (fun K hK => ?_) AllReadyH.nil)
            · skip
              obtain ⟨hcl, hfz⟩ := P4.out.out
              go_simp
              clear hcl hfz
              have P5 := Lib.hid (P4.out.put8 (.int .i64 m0.k) (.int .i64 m0.n) (.int .i64 m0.r) (.bool m0.on) (.bool m0.mo) (.int .i64 m0.lo) (.int .i64 m0.hi) (.int .u8 m0.la))
              have B5 := Lib.hid (set8 B4.out pb LP.out (.int .i64 m0.k) (.int .i64 m0.n) (.int .i64 m0.r) (.bool m0.on) (.bool m0.mo) (.int .i64 m0.lo) (.int .i64 m0.hi) (.int .u8 m0.la))
              have H5 := Lib.hid (H4.out.far8 NP.out (.int .i64 m0.k) (.int .i64 m0.n) (.int .i64 m0.r) (.bool m0.on) (.bool m0.mo) (.int .i64 m0.lo) (.int .i64 m0.hi) (.int .u8 m0.la))
              have Q5 := Lib.hid (Q4.out.far8 (NPQ.out.symm) (.int .i64 m0.k) (.int .i64 m0.n) (.int .i64 m0.r) (.bool m0.on) (.bool m0.mo) (.int .i64 m0.lo) (.int .i64 m0.hi) (.int .u8 m0.la))
              refine hK.out _ _ ?s44 (fun hNew => ?r44)
              case s44 => exact ⟨H5.out.2.1, trivial⟩
              clear hK K hHeld
              have hHeld := hNew
              clear hNew
              generalize (World.setCell (World.setCell (World.setCell (World.setCell (World.setCell (World.setCell (World.setCell (World.setCell u4 ⟨pb, 0, none⟩ (.int .i64 m0.k)) ⟨pb, 1, none⟩ (.int .i64 m0.n)) ⟨pb, 2, none⟩ (.int .i64 m0.r)) ⟨pb, 3, none⟩ (.bool m0.on)) ⟨pb, 4, none⟩ (.bool m0.mo)) ⟨pb, 5, none⟩ (.int .i64 m0.lo)) ⟨pb, 6, none⟩ (.int .i64 m0.hi)) ⟨pb, 7, none⟩ (.int .u8 m0.la)) = u5 at hHeld B5 H5 P5 Q5 ⊢
              refine wpAnyH_ready (rs := [7]) (by kernel_rfl) (by simp) ?_
              refine (AllReadyH.cons (o := { dst := none, op := Go.Op.store 32 (Go.Operand.tmp 13) (Go.Operand.tmp 40), type := 0, pos := "law.go:42", after := #[{ on := 5, ground := Go.Ground.data }, { on := 3, ground := Go.Ground.data }, { on := 6, ground := Go.Ground.chain }, { on := 0, ground := Go.Ground.phase }, { on := 1, ground := Go.Ground.phase }, { on := 2, ground := Go.Ground.phase }, { on := 3, ground := Go.Ground.phase }, { on := 4, ground := Go.Ground.phase }, { on := 5, ground := Go.Ground.phase }, { on := 6, ground := Go.Ground.phase }], guard := none }) rfl (fun K hK => ?_) AllReadyH.nil)
              · skip
                obtain ⟨hcl, hfz⟩ := Q5.out.out
                go_simp
                clear hcl hfz
                have Q6 := Lib.hid (Q5.out.put8 (.int .i64 m0.k) (.int .i64 m0.n) (.int .i64 m0.r) (.bool m0.on) (.bool m0.mo) (.int .i64 m0.lo) (.int .i64 m0.hi) (.int .u8 m0.la))
                have B6 := Lib.hid (set8 B5.out qb LQ.out (.int .i64 m0.k) (.int .i64 m0.n) (.int .i64 m0.r) (.bool m0.on) (.bool m0.mo) (.int .i64 m0.lo) (.int .i64 m0.hi) (.int .u8 m0.la))
                have H6 := Lib.hid (H5.out.far8 NQ.out (.int .i64 m0.k) (.int .i64 m0.n) (.int .i64 m0.r) (.bool m0.on) (.bool m0.mo) (.int .i64 m0.lo) (.int .i64 m0.hi) (.int .u8 m0.la))
                have P6 := Lib.hid (P5.out.far8 (NPQ.out) (.int .i64 m0.k) (.int .i64 m0.n) (.int .i64 m0.r) (.bool m0.on) (.bool m0.mo) (.int .i64 m0.lo) (.int .i64 m0.hi) (.int .u8 m0.la))
                refine hK.out _ _ ?s45 (fun hNew => ?r45)
                case s45 => exact ⟨H6.out.2.1, trivial⟩
                clear hK K hHeld
                have hHeld := hNew
                clear hNew
                generalize (World.setCell (World.setCell (World.setCell (World.setCell (World.setCell (World.setCell (World.setCell (World.setCell u5 ⟨qb, 0, none⟩ (.int .i64 m0.k)) ⟨qb, 1, none⟩ (.int .i64 m0.n)) ⟨qb, 2, none⟩ (.int .i64 m0.r)) ⟨qb, 3, none⟩ (.bool m0.on)) ⟨qb, 4, none⟩ (.bool m0.mo)) ⟨qb, 5, none⟩ (.int .i64 m0.lo)) ⟨qb, 6, none⟩ (.int .i64 m0.hi)) ⟨qb, 7, none⟩ (.int .u8 m0.la)) = u6 at hHeld B6 H6 P6 Q6 ⊢
                refine wpAnyH_done (by kernel_rfl) ?_ _
                clear hHeld
                go_wp2
                go_meet
                exact ⟨pb, qb, rfl, rfl, B6.out, P6.out, Q6.out, NPQ.out, LP.out, LQ.out⟩
    · skip
      go_simp
      have hz := own1 u0 (.cells #[.int .i64 0, .int .i64 0, .int .i64 0, .bool false, .bool false, .int .i64 0, .int .i64 0, .int .u8 0] 32)
      have B1 := Lib.hid (via B0.out hz)
      have H1 := Lib.hid (H0.out.below hz)
      have Q1 := Lib.hid (Has.new u0 #[.int .i64 0, .int .i64 0, .int .i64 0, .bool false, .bool false, .int .i64 0, .int .i64 0, .int .u8 0] 32)
      have LQ := Lib.hid (show w.heap.size ≤ u0.heap.size from B0.out.size)
      have NQ := Lib.hid (show hb ≠ u0.heap.size by have := H0.out.1; omega)
      clear hz
      refine hK.out _ _ ?s46 (fun hNew => ?r46)
      case s46 => exact ⟨H1.out.2.1, trivial⟩
      clear hK K hHeld
      have hHeld := hNew
      clear hNew
      generalize World.alloc u0 (.cells #[.int .i64 0, .int .i64 0, .int .i64 0, .bool false, .bool false, .int .i64 0, .int .i64 0, .int .u8 0] 32) = u1 at hHeld B1 H1 Q1 ⊢
      generalize u0.heap.size = qb at Q1 LQ NQ ⊢
      refine wpAnyH_ready (rs := [1, 4]) (by kernel_rfl) (by simp) ?_
      refine (AllReadyH.cons (o := { dst := some 38, op := Go.Op.call { callee := Go.Callee.value (Go.Operand.func 11), args := #[Go.Operand.tmp 37], argTypes := #[31] }, type := 29, pos := "law.go:42", after := #[{ on := 0, ground := Go.Ground.data }], guard := none }) rfl (fun K hK => ?_) (AllReadyH.cons (o := { dst := some 12, op := Go.Op.alloc 29, type := 0, pos := "law.go:42", after := #[], guard := none }) rfl (fun K hK => ?_) AllReadyH.nil))
      · skip
        go_simp
        with_reducible refine (NC.out _).mono ?_
        rintro e u2 ⟨rfl, hz⟩
        have B2 := Lib.hid (via B1.out hz)
        have H2 := Lib.hid (H1.out.below hz)
        have Q2 := Lib.hid (Q1.out.below hz)
        clear hz
        refine hK.out _ _ ?s47 (fun hNew => ?r47)
        case s47 => exact ⟨H2.out.2.1, trivial⟩
        clear hK K hHeld
        have hHeld := hNew
        clear hNew
        refine wpAnyH_ready (rs := [3, 4]) (by kernel_rfl) (by simp) ?_
        refine (AllReadyH.cons (o := { dst := some 40, op := Go.Op.call { callee := Go.Callee.value (Go.Operand.func 12), args := #[Go.Operand.tmp 39], argTypes := #[26] }, type := 32, pos := "law.go:42", after := #[{ on := 2, ground := Go.Ground.data }, { on := 1, ground := Go.Ground.chain }], guard := none }) rfl (fun K hK => ?_) (AllReadyH.cons (o := { dst := some 12, op := Go.Op.alloc 29, type := 0, pos := "law.go:42", after := #[], guard := none }) rfl (fun K hK => ?_) AllReadyH.nil))
        · skip
          go_simp
          with_reducible refine (RC.out _).mono ?_
          rintro e u3 ⟨rfl, hz⟩
          have B3 := Lib.hid (via B2.out hz)
          have H3 := Lib.hid (H2.out.below hz)
          have Q3 := Lib.hid (Q2.out.below hz)
          clear hz
          refine hK.out _ _ ?s48 (fun hNew => ?r48)
          case s48 => exact ⟨H3.out.2.1, trivial⟩
          clear hK K hHeld
          have hHeld := hNew
          clear hNew
          refine wpAnyH_ready (rs := [4]) (by kernel_rfl) (by simp) ?_
          refine (AllReadyH.cons (o := { dst := some 12, op := Go.Op.alloc 29, type := 0, pos := "law.go:42", after := #[], guard := none }) rfl (fun K hK => ?_) AllReadyH.nil)
          · skip
            go_simp
            have hz := own1 u3 (.cells #[.int .i64 0, .int .i64 0, .int .i64 0, .bool false, .bool false, .int .i64 0, .int .i64 0, .int .u8 0] 29)
            have B4 := Lib.hid (via B3.out hz)
            have H4 := Lib.hid (H3.out.below hz)
            have P4 := Lib.hid (Has.new u3 #[.int .i64 0, .int .i64 0, .int .i64 0, .bool false, .bool false, .int .i64 0, .int .i64 0, .int .u8 0] 29)
            have LP := Lib.hid (show w.heap.size ≤ u3.heap.size from B3.out.size)
            have NP := Lib.hid (show hb ≠ u3.heap.size by have := H3.out.1; omega)
            have Q4 := Lib.hid (Q3.out.below hz)
            have NPQ := Lib.hid (show qb ≠ u3.heap.size by have := Q3.out.1; omega)
            clear hz
            refine hK.out _ _ ?s49 (fun hNew => ?r49)
            case s49 => exact ⟨H4.out.2.1, trivial⟩
            clear hK K hHeld
            have hHeld := hNew
            clear hNew
            generalize World.alloc u3 (.cells #[.int .i64 0, .int .i64 0, .int .i64 0, .bool false, .bool false, .int .i64 0, .int .i64 0, .int .u8 0] 29) = u4 at hHeld B4 H4 P4 Q4 ⊢
            generalize u3.heap.size = pb at P4 LP NP NPQ ⊢
            refine wpAnyH_ready (rs := [6]) (by kernel_rfl) (by simp) ?_
            refine (AllReadyH.cons (o := { dst := none, op := Go.Op.store 29 (Go.Operand.tmp 12) (Go.Operand.tmp 38), type := 0, pos := "law.go:42", after := #[{ on := 4, ground := Go.Ground.data }, { on := 1, ground := Go.Ground.data }, { on := 3, ground := Go.Ground.chain }, { on := 0, ground := Go.Ground.phase }, { on := 1, ground := Go.Ground.phase }, { on := 2, ground := Go.Ground.textOnly Go.Departure.lateStores }, { on := 3, ground := Go.Ground.textOnly Go.Departure.lateStoresUnsure }, { on := 4, ground := Go.Ground.phase }, { on := 5, ground := Go.Ground.phase }], guard := none }) rfl (fun K hK => ?_) AllReadyH.nil)
            · skip
              obtain ⟨hcl, hfz⟩ := P4.out.out
              go_simp
              clear hcl hfz
              have P5 := Lib.hid (P4.out.put8 (.int .i64 m0.k) (.int .i64 m0.n) (.int .i64 m0.r) (.bool m0.on) (.bool m0.mo) (.int .i64 m0.lo) (.int .i64 m0.hi) (.int .u8 m0.la))
              have B5 := Lib.hid (set8 B4.out pb LP.out (.int .i64 m0.k) (.int .i64 m0.n) (.int .i64 m0.r) (.bool m0.on) (.bool m0.mo) (.int .i64 m0.lo) (.int .i64 m0.hi) (.int .u8 m0.la))
              have H5 := Lib.hid (H4.out.far8 NP.out (.int .i64 m0.k) (.int .i64 m0.n) (.int .i64 m0.r) (.bool m0.on) (.bool m0.mo) (.int .i64 m0.lo) (.int .i64 m0.hi) (.int .u8 m0.la))
              have Q5 := Lib.hid (Q4.out.far8 (NPQ.out) (.int .i64 m0.k) (.int .i64 m0.n) (.int .i64 m0.r) (.bool m0.on) (.bool m0.mo) (.int .i64 m0.lo) (.int .i64 m0.hi) (.int .u8 m0.la))
              refine hK.out _ _ ?s50 (fun hNew => ?r50)
              case s50 => exact ⟨H5.out.2.1, trivial⟩
              clear hK K hHeld
              have hHeld := hNew
              clear hNew
              generalize (World.setCell (World.setCell (World.setCell (World.setCell (World.setCell (World.setCell (World.setCell (World.setCell u4 ⟨pb, 0, none⟩ (.int .i64 m0.k)) ⟨pb, 1, none⟩ (.int .i64 m0.n)) ⟨pb, 2, none⟩ (.int .i64 m0.r)) ⟨pb, 3, none⟩ (.bool m0.on)) ⟨pb, 4, none⟩ (.bool m0.mo)) ⟨pb, 5, none⟩ (.int .i64 m0.lo)) ⟨pb, 6, none⟩ (.int .i64 m0.hi)) ⟨pb, 7, none⟩ (.int .u8 m0.la)) = u5 at hHeld B5 H5 P5 Q5 ⊢
              refine wpAnyH_ready (rs := [7]) (by kernel_rfl) (by simp) ?_
              refine (AllReadyH.cons (o := { dst := none, op := Go.Op.store 32 (Go.Operand.tmp 13) (Go.Operand.tmp 40), type := 0, pos := "law.go:42", after := #[{ on := 5, ground := Go.Ground.data }, { on := 3, ground := Go.Ground.data }, { on := 6, ground := Go.Ground.chain }, { on := 0, ground := Go.Ground.phase }, { on := 1, ground := Go.Ground.phase }, { on := 2, ground := Go.Ground.phase }, { on := 3, ground := Go.Ground.phase }, { on := 4, ground := Go.Ground.phase }, { on := 5, ground := Go.Ground.phase }, { on := 6, ground := Go.Ground.phase }], guard := none }) rfl (fun K hK => ?_) AllReadyH.nil)
              · skip
                obtain ⟨hcl, hfz⟩ := Q5.out.out
                go_simp
                clear hcl hfz
                have Q6 := Lib.hid (Q5.out.put8 (.int .i64 m0.k) (.int .i64 m0.n) (.int .i64 m0.r) (.bool m0.on) (.bool m0.mo) (.int .i64 m0.lo) (.int .i64 m0.hi) (.int .u8 m0.la))
                have B6 := Lib.hid (set8 B5.out qb LQ.out (.int .i64 m0.k) (.int .i64 m0.n) (.int .i64 m0.r) (.bool m0.on) (.bool m0.mo) (.int .i64 m0.lo) (.int .i64 m0.hi) (.int .u8 m0.la))
                have H6 := Lib.hid (H5.out.far8 NQ.out (.int .i64 m0.k) (.int .i64 m0.n) (.int .i64 m0.r) (.bool m0.on) (.bool m0.mo) (.int .i64 m0.lo) (.int .i64 m0.hi) (.int .u8 m0.la))
                have P6 := Lib.hid (P5.out.far8 (NPQ.out.symm) (.int .i64 m0.k) (.int .i64 m0.n) (.int .i64 m0.r) (.bool m0.on) (.bool m0.mo) (.int .i64 m0.lo) (.int .i64 m0.hi) (.int .u8 m0.la))
                refine hK.out _ _ ?s51 (fun hNew => ?r51)
                case s51 => exact ⟨H6.out.2.1, trivial⟩
                clear hK K hHeld
                have hHeld := hNew
                clear hNew
                generalize (World.setCell (World.setCell (World.setCell (World.setCell (World.setCell (World.setCell (World.setCell (World.setCell u5 ⟨qb, 0, none⟩ (.int .i64 m0.k)) ⟨qb, 1, none⟩ (.int .i64 m0.n)) ⟨qb, 2, none⟩ (.int .i64 m0.r)) ⟨qb, 3, none⟩ (.bool m0.on)) ⟨qb, 4, none⟩ (.bool m0.mo)) ⟨qb, 5, none⟩ (.int .i64 m0.lo)) ⟨qb, 6, none⟩ (.int .i64 m0.hi)) ⟨qb, 7, none⟩ (.int .u8 m0.la)) = u6 at hHeld B6 H6 P6 Q6 ⊢
                refine wpAnyH_done (by kernel_rfl) ?_ _
                clear hHeld
                go_wp2
                go_meet
                exact ⟨pb, qb, rfl, rfl, B6.out, P6.out, Q6.out, NPQ.out.symm, LP.out, LQ.out⟩
        · skip
          go_simp
          have hz := own1 u2 (.cells #[.int .i64 0, .int .i64 0, .int .i64 0, .bool false, .bool false, .int .i64 0, .int .i64 0, .int .u8 0] 29)
          have B3 := Lib.hid (via B2.out hz)
          have H3 := Lib.hid (H2.out.below hz)
          have P3 := Lib.hid (Has.new u2 #[.int .i64 0, .int .i64 0, .int .i64 0, .bool false, .bool false, .int .i64 0, .int .i64 0, .int .u8 0] 29)
          have LP := Lib.hid (show w.heap.size ≤ u2.heap.size from B2.out.size)
          have NP := Lib.hid (show hb ≠ u2.heap.size by have := H2.out.1; omega)
          have Q3 := Lib.hid (Q2.out.below hz)
          have NPQ := Lib.hid (show qb ≠ u2.heap.size by have := Q2.out.1; omega)
          clear hz
          refine hK.out _ _ ?s52 (fun hNew => ?r52)
          case s52 => exact ⟨H3.out.2.1, trivial⟩
          clear hK K hHeld
          have hHeld := hNew
          clear hNew
          generalize World.alloc u2 (.cells #[.int .i64 0, .int .i64 0, .int .i64 0, .bool false, .bool false, .int .i64 0, .int .i64 0, .int .u8 0] 29) = u3 at hHeld B3 H3 P3 Q3 ⊢
          generalize u2.heap.size = pb at P3 LP NP NPQ ⊢
          refine wpAnyH_ready (rs := [3]) (by kernel_rfl) (by simp) ?_
          refine (AllReadyH.cons (o := { dst := some 40, op := Go.Op.call { callee := Go.Callee.value (Go.Operand.func 12), args := #[Go.Operand.tmp 39], argTypes := #[26] }, type := 32, pos := "law.go:42", after := #[{ on := 2, ground := Go.Ground.data }, { on := 1, ground := Go.Ground.chain }], guard := none }) rfl (fun K hK => ?_) AllReadyH.nil)
          · skip
            go_simp
            with_reducible refine (RC.out _).mono ?_
            rintro e u4 ⟨rfl, hz⟩
            have B4 := Lib.hid (via B3.out hz)
            have H4 := Lib.hid (H3.out.below hz)
            have P4 := Lib.hid (P3.out.below hz)
            have Q4 := Lib.hid (Q3.out.below hz)
            clear hz
            refine hK.out _ _ ?s53 (fun hNew => ?r53)
            case s53 => exact ⟨H4.out.2.1, trivial⟩
            clear hK K hHeld
            have hHeld := hNew
            clear hNew
            refine wpAnyH_ready (rs := [6]) (by kernel_rfl) (by simp) ?_
            refine (AllReadyH.cons (o := { dst := none, op := Go.Op.store 29 (Go.Operand.tmp 12) (Go.Operand.tmp 38), type := 0, pos := "law.go:42", after := #[{ on := 4, ground := Go.Ground.data }, { on := 1, ground := Go.Ground.data }, { on := 3, ground := Go.Ground.chain }, { on := 0, ground := Go.Ground.phase }, { on := 1, ground := Go.Ground.phase }, { on := 2, ground := Go.Ground.textOnly Go.Departure.lateStores }, { on := 3, ground := Go.Ground.textOnly Go.Departure.lateStoresUnsure }, { on := 4, ground := Go.Ground.phase }, { on := 5, ground := Go.Ground.phase }], guard := none }) rfl (fun K hK => ?_) AllReadyH.nil)
            · skip
              obtain ⟨hcl, hfz⟩ := P4.out.out
              go_simp
              clear hcl hfz
              have P5 := Lib.hid (P4.out.put8 (.int .i64 m0.k) (.int .i64 m0.n) (.int .i64 m0.r) (.bool m0.on) (.bool m0.mo) (.int .i64 m0.lo) (.int .i64 m0.hi) (.int .u8 m0.la))
              have B5 := Lib.hid (set8 B4.out pb LP.out (.int .i64 m0.k) (.int .i64 m0.n) (.int .i64 m0.r) (.bool m0.on) (.bool m0.mo) (.int .i64 m0.lo) (.int .i64 m0.hi) (.int .u8 m0.la))
              have H5 := Lib.hid (H4.out.far8 NP.out (.int .i64 m0.k) (.int .i64 m0.n) (.int .i64 m0.r) (.bool m0.on) (.bool m0.mo) (.int .i64 m0.lo) (.int .i64 m0.hi) (.int .u8 m0.la))
              have Q5 := Lib.hid (Q4.out.far8 (NPQ.out) (.int .i64 m0.k) (.int .i64 m0.n) (.int .i64 m0.r) (.bool m0.on) (.bool m0.mo) (.int .i64 m0.lo) (.int .i64 m0.hi) (.int .u8 m0.la))
              refine hK.out _ _ ?s54 (fun hNew => ?r54)
              case s54 => exact ⟨H5.out.2.1, trivial⟩
              clear hK K hHeld
              have hHeld := hNew
              clear hNew
              generalize (World.setCell (World.setCell (World.setCell (World.setCell (World.setCell (World.setCell (World.setCell (World.setCell u4 ⟨pb, 0, none⟩ (.int .i64 m0.k)) ⟨pb, 1, none⟩ (.int .i64 m0.n)) ⟨pb, 2, none⟩ (.int .i64 m0.r)) ⟨pb, 3, none⟩ (.bool m0.on)) ⟨pb, 4, none⟩ (.bool m0.mo)) ⟨pb, 5, none⟩ (.int .i64 m0.lo)) ⟨pb, 6, none⟩ (.int .i64 m0.hi)) ⟨pb, 7, none⟩ (.int .u8 m0.la)) = u5 at hHeld B5 H5 P5 Q5 ⊢
              refine wpAnyH_ready (rs := [7]) (by kernel_rfl) (by simp) ?_
              refine (AllReadyH.cons (o := { dst := none, op := Go.Op.store 32 (Go.Operand.tmp 13) (Go.Operand.tmp 40), type := 0, pos := "law.go:42", after := #[{ on := 5, ground := Go.Ground.data }, { on := 3, ground := Go.Ground.data }, { on := 6, ground := Go.Ground.chain }, { on := 0, ground := Go.Ground.phase }, { on := 1, ground := Go.Ground.phase }, { on := 2, ground := Go.Ground.phase }, { on := 3, ground := Go.Ground.phase }, { on := 4, ground := Go.Ground.phase }, { on := 5, ground := Go.Ground.phase }, { on := 6, ground := Go.Ground.phase }], guard := none }) rfl (fun K hK => ?_) AllReadyH.nil)
              · skip
                obtain ⟨hcl, hfz⟩ := Q5.out.out
                go_simp
                clear hcl hfz
                have Q6 := Lib.hid (Q5.out.put8 (.int .i64 m0.k) (.int .i64 m0.n) (.int .i64 m0.r) (.bool m0.on) (.bool m0.mo) (.int .i64 m0.lo) (.int .i64 m0.hi) (.int .u8 m0.la))
                have B6 := Lib.hid (set8 B5.out qb LQ.out (.int .i64 m0.k) (.int .i64 m0.n) (.int .i64 m0.r) (.bool m0.on) (.bool m0.mo) (.int .i64 m0.lo) (.int .i64 m0.hi) (.int .u8 m0.la))
                have H6 := Lib.hid (H5.out.far8 NQ.out (.int .i64 m0.k) (.int .i64 m0.n) (.int .i64 m0.r) (.bool m0.on) (.bool m0.mo) (.int .i64 m0.lo) (.int .i64 m0.hi) (.int .u8 m0.la))
                have P6 := Lib.hid (P5.out.far8 (NPQ.out.symm) (.int .i64 m0.k) (.int .i64 m0.n) (.int .i64 m0.r) (.bool m0.on) (.bool m0.mo) (.int .i64 m0.lo) (.int .i64 m0.hi) (.int .u8 m0.la))
                refine hK.out _ _ ?s55 (fun hNew => ?r55)
                case s55 => exact ⟨H6.out.2.1, trivial⟩
                clear hK K hHeld
                have hHeld := hNew
                clear hNew
                generalize (World.setCell (World.setCell (World.setCell (World.setCell (World.setCell (World.setCell (World.setCell (World.setCell u5 ⟨qb, 0, none⟩ (.int .i64 m0.k)) ⟨qb, 1, none⟩ (.int .i64 m0.n)) ⟨qb, 2, none⟩ (.int .i64 m0.r)) ⟨qb, 3, none⟩ (.bool m0.on)) ⟨qb, 4, none⟩ (.bool m0.mo)) ⟨qb, 5, none⟩ (.int .i64 m0.lo)) ⟨qb, 6, none⟩ (.int .i64 m0.hi)) ⟨qb, 7, none⟩ (.int .u8 m0.la)) = u6 at hHeld B6 H6 P6 Q6 ⊢
                refine wpAnyH_done (by kernel_rfl) ?_ _
                clear hHeld
                go_wp2
                go_meet
                exact ⟨pb, qb, rfl, rfl, B6.out, P6.out, Q6.out, NPQ.out.symm, LP.out, LQ.out⟩
      · skip
        go_simp
        have hz := own1 u1 (.cells #[.int .i64 0, .int .i64 0, .int .i64 0, .bool false, .bool false, .int .i64 0, .int .i64 0, .int .u8 0] 29)
        have B2 := Lib.hid (via B1.out hz)
        have H2 := Lib.hid (H1.out.below hz)
        have P2 := Lib.hid (Has.new u1 #[.int .i64 0, .int .i64 0, .int .i64 0, .bool false, .bool false, .int .i64 0, .int .i64 0, .int .u8 0] 29)
        have LP := Lib.hid (show w.heap.size ≤ u1.heap.size from B1.out.size)
        have NP := Lib.hid (show hb ≠ u1.heap.size by have := H1.out.1; omega)
        have Q2 := Lib.hid (Q1.out.below hz)
        have NPQ := Lib.hid (show qb ≠ u1.heap.size by have := Q1.out.1; omega)
        clear hz
        refine hK.out _ _ ?s56 (fun hNew => ?r56)
        case s56 => exact ⟨H2.out.2.1, trivial⟩
        clear hK K hHeld
        have hHeld := hNew
        clear hNew
        generalize World.alloc u1 (.cells #[.int .i64 0, .int .i64 0, .int .i64 0, .bool false, .bool false, .int .i64 0, .int .i64 0, .int .u8 0] 29) = u2 at hHeld B2 H2 P2 Q2 ⊢
        generalize u1.heap.size = pb at P2 LP NP NPQ ⊢
        refine wpAnyH_ready (rs := [1]) (by kernel_rfl) (by simp) ?_
        refine (AllReadyH.cons (o := { dst := some 38, op := Go.Op.call { callee := Go.Callee.value (Go.Operand.func 11), args := #[Go.Operand.tmp 37], argTypes := #[31] }, type := 29, pos := "law.go:42", after := #[{ on := 0, ground := Go.Ground.data }], guard := none }) rfl (fun K hK => ?_) AllReadyH.nil)
        · skip
          go_simp
          with_reducible refine (NC.out _).mono ?_
          rintro e u3 ⟨rfl, hz⟩
          have B3 := Lib.hid (via B2.out hz)
          have H3 := Lib.hid (H2.out.below hz)
          have P3 := Lib.hid (P2.out.below hz)
          have Q3 := Lib.hid (Q2.out.below hz)
          clear hz
          refine hK.out _ _ ?s57 (fun hNew => ?r57)
          case s57 => exact ⟨H3.out.2.1, trivial⟩
          clear hK K hHeld
          have hHeld := hNew
          clear hNew
          refine wpAnyH_ready (rs := [3]) (by kernel_rfl) (by simp) ?_
          refine (AllReadyH.cons (o := { dst := some 40, op := Go.Op.call { callee := Go.Callee.value (Go.Operand.func 12), args := #[Go.Operand.tmp 39], argTypes := #[26] }, type := 32, pos := "law.go:42", after := #[{ on := 2, ground := Go.Ground.data }, { on := 1, ground := Go.Ground.chain }], guard := none }) rfl (fun K hK => ?_) AllReadyH.nil)
          · skip
            go_simp
            with_reducible refine (RC.out _).mono ?_
            rintro e u4 ⟨rfl, hz⟩
            have B4 := Lib.hid (via B3.out hz)
            have H4 := Lib.hid (H3.out.below hz)
            have P4 := Lib.hid (P3.out.below hz)
            have Q4 := Lib.hid (Q3.out.below hz)
            clear hz
            refine hK.out _ _ ?s58 (fun hNew => ?r58)
            case s58 => exact ⟨H4.out.2.1, trivial⟩
            clear hK K hHeld
            have hHeld := hNew
            clear hNew
            refine wpAnyH_ready (rs := [6]) (by kernel_rfl) (by simp) ?_
            refine (AllReadyH.cons (o := { dst := none, op := Go.Op.store 29 (Go.Operand.tmp 12) (Go.Operand.tmp 38), type := 0, pos := "law.go:42", after := #[{ on := 4, ground := Go.Ground.data }, { on := 1, ground := Go.Ground.data }, { on := 3, ground := Go.Ground.chain }, { on := 0, ground := Go.Ground.phase }, { on := 1, ground := Go.Ground.phase }, { on := 2, ground := Go.Ground.textOnly Go.Departure.lateStores }, { on := 3, ground := Go.Ground.textOnly Go.Departure.lateStoresUnsure }, { on := 4, ground := Go.Ground.phase }, { on := 5, ground := Go.Ground.phase }], guard := none }) rfl (fun K hK => ?_) AllReadyH.nil)
            · skip
              obtain ⟨hcl, hfz⟩ := P4.out.out
              go_simp
              clear hcl hfz
              have P5 := Lib.hid (P4.out.put8 (.int .i64 m0.k) (.int .i64 m0.n) (.int .i64 m0.r) (.bool m0.on) (.bool m0.mo) (.int .i64 m0.lo) (.int .i64 m0.hi) (.int .u8 m0.la))
              have B5 := Lib.hid (set8 B4.out pb LP.out (.int .i64 m0.k) (.int .i64 m0.n) (.int .i64 m0.r) (.bool m0.on) (.bool m0.mo) (.int .i64 m0.lo) (.int .i64 m0.hi) (.int .u8 m0.la))
              have H5 := Lib.hid (H4.out.far8 NP.out (.int .i64 m0.k) (.int .i64 m0.n) (.int .i64 m0.r) (.bool m0.on) (.bool m0.mo) (.int .i64 m0.lo) (.int .i64 m0.hi) (.int .u8 m0.la))
              have Q5 := Lib.hid (Q4.out.far8 (NPQ.out) (.int .i64 m0.k) (.int .i64 m0.n) (.int .i64 m0.r) (.bool m0.on) (.bool m0.mo) (.int .i64 m0.lo) (.int .i64 m0.hi) (.int .u8 m0.la))
              refine hK.out _ _ ?s59 (fun hNew => ?r59)
              case s59 => exact ⟨H5.out.2.1, trivial⟩
              clear hK K hHeld
              have hHeld := hNew
              clear hNew
              generalize (World.setCell (World.setCell (World.setCell (World.setCell (World.setCell (World.setCell (World.setCell (World.setCell u4 ⟨pb, 0, none⟩ (.int .i64 m0.k)) ⟨pb, 1, none⟩ (.int .i64 m0.n)) ⟨pb, 2, none⟩ (.int .i64 m0.r)) ⟨pb, 3, none⟩ (.bool m0.on)) ⟨pb, 4, none⟩ (.bool m0.mo)) ⟨pb, 5, none⟩ (.int .i64 m0.lo)) ⟨pb, 6, none⟩ (.int .i64 m0.hi)) ⟨pb, 7, none⟩ (.int .u8 m0.la)) = u5 at hHeld B5 H5 P5 Q5 ⊢
              refine wpAnyH_ready (rs := [7]) (by kernel_rfl) (by simp) ?_
              refine (AllReadyH.cons (o := { dst := none, op := Go.Op.store 32 (Go.Operand.tmp 13) (Go.Operand.tmp 40), type := 0, pos := "law.go:42", after := #[{ on := 5, ground := Go.Ground.data }, { on := 3, ground := Go.Ground.data }, { on := 6, ground := Go.Ground.chain }, { on := 0, ground := Go.Ground.phase }, { on := 1, ground := Go.Ground.phase }, { on := 2, ground := Go.Ground.phase }, { on := 3, ground := Go.Ground.phase }, { on := 4, ground := Go.Ground.phase }, { on := 5, ground := Go.Ground.phase }, { on := 6, ground := Go.Ground.phase }], guard := none }) rfl (fun K hK => ?_) AllReadyH.nil)
              · skip
                obtain ⟨hcl, hfz⟩ := Q5.out.out
                go_simp
                clear hcl hfz
                have Q6 := Lib.hid (Q5.out.put8 (.int .i64 m0.k) (.int .i64 m0.n) (.int .i64 m0.r) (.bool m0.on) (.bool m0.mo) (.int .i64 m0.lo) (.int .i64 m0.hi) (.int .u8 m0.la))
                have B6 := Lib.hid (set8 B5.out qb LQ.out (.int .i64 m0.k) (.int .i64 m0.n) (.int .i64 m0.r) (.bool m0.on) (.bool m0.mo) (.int .i64 m0.lo) (.int .i64 m0.hi) (.int .u8 m0.la))
                have H6 := Lib.hid (H5.out.far8 NQ.out (.int .i64 m0.k) (.int .i64 m0.n) (.int .i64 m0.r) (.bool m0.on) (.bool m0.mo) (.int .i64 m0.lo) (.int .i64 m0.hi) (.int .u8 m0.la))
                have P6 := Lib.hid (P5.out.far8 (NPQ.out.symm) (.int .i64 m0.k) (.int .i64 m0.n) (.int .i64 m0.r) (.bool m0.on) (.bool m0.mo) (.int .i64 m0.lo) (.int .i64 m0.hi) (.int .u8 m0.la))
                refine hK.out _ _ ?s60 (fun hNew => ?r60)
                case s60 => exact ⟨H6.out.2.1, trivial⟩
                clear hK K hHeld
                have hHeld := hNew
                clear hNew
                generalize (World.setCell (World.setCell (World.setCell (World.setCell (World.setCell (World.setCell (World.setCell (World.setCell u5 ⟨qb, 0, none⟩ (.int .i64 m0.k)) ⟨qb, 1, none⟩ (.int .i64 m0.n)) ⟨qb, 2, none⟩ (.int .i64 m0.r)) ⟨qb, 3, none⟩ (.bool m0.on)) ⟨qb, 4, none⟩ (.bool m0.mo)) ⟨qb, 5, none⟩ (.int .i64 m0.lo)) ⟨qb, 6, none⟩ (.int .i64 m0.hi)) ⟨qb, 7, none⟩ (.int .u8 m0.la)) = u6 at hHeld B6 H6 P6 Q6 ⊢
                refine wpAnyH_done (by kernel_rfl) ?_ _
                clear hHeld
                go_wp2
                go_meet
                exact ⟨pb, qb, rfl, rfl, B6.out, P6.out, Q6.out, NPQ.out.symm, LP.out, LQ.out⟩
  case rest =>
    obtain ⟨h, h2, rfl, rfl, hB4, hM4, hP4, hNE, hLH, hLH2⟩ := hcut
    have B4 := Lib.hid hB4
    have M4 := Lib.hid hM4
    have P4 := Lib.hid hP4
    have NE := Lib.hid hNE
    have LH := Lib.hid hLH
    have LH2 := Lib.hid hLH2
    clear hB4 hM4 hP4 hNE hLH hLH2 B0 H0 CC NC RC
    go_wp2
    go_loopg [43] n (fun g' i wr => ∃ (t : Nat) (m : MV), t ≤ n ∧ g' + t = n ∧ i = .int .i64 t ∧ m.ok ∧ Below w.heap.size w wr ∧ Has wr h #[.int .i64 m.k, .int .i64 m.n, .int .i64 m.r, .bool m.on, .bool m.mo, .int .i64 m.lo, .int .i64 m.hi, .int .u8 m.la] ∧ Has wr h2 #[.int .i64 m.k, .int .i64 m.n, .int .i64 m.r, .bool m.on, .bool m.mo, .int .i64 m.lo, .int .i64 m.hi, .int .u8 m.la])
    case atStart => exact ⟨0, m0, by omega, by omega, rfl, M0.out, B4.out, M4.out, P4.out⟩
    case round =>
      obtain ⟨t, m, ht, hg, rfl, hok, hB, hM, hP⟩ := hrel
      have TG := Lib.hid hg
      have OK := Lib.hid hok
      have TB := Lib.hid hB
      have TM := Lib.hid hM
      have TP := Lib.hid hP
      clear hg hok hB hM hP B4 M4 P4
      by_cases hlt : t < n
      · have l1 : (t : Int) < n := by omega
        have l0 : (0 : Int) ≤ t := by omega
        obtain ⟨qb, qo, rfl, hqb, hcells⟩ := HIN.out (by omega)
        have QQ := Lib.hid hqb
        have QL := Lib.hid (Nat.lt_of_lt_of_le hqb TB.out.drew.size)
        have hq1 : (World.drew wr).cell? ⟨qb, qo + t * 2, none⟩ = some (.int .u16 (f t)) := (TB.out.drew.cell (p := ⟨qb, qo + t * 2, none⟩) hqb).trans (hcells t hlt).1
        have hq2 : (World.drew wr).cell? ⟨qb, qo + t * 2 + 1, none⟩ = some (.int .u8 (g t)) := (TB.out.drew.cell (p := ⟨qb, qo + t * 2 + 1, none⟩) hqb).trans (hcells t hlt).2
        have fb := HF.out t
        have gb := HG.out t
        generalize f t = pf at hq1 fb
        generalize g t = pg at hq2 gb
        clear hcells
        obtain ⟨m', hm'⟩ : ∃ q_, wrV m (pf % 32768) pg = q_ := ⟨_, rfl⟩
        obtain ⟨hh, hhh⟩ : ∃ q_, heldV m (pf % 32768) pg = q_ := ⟨_, rfl⟩
        have WC := Lib.hid (fun W => write_c m m' pf pg hh OK.out fb.1 fb.2 gb.1 gb.2 hm' hhh W)
        have WC2 := Lib.hid (fun W => rwrite_c m m' pf pg hh OK.out fb.1 fb.2 gb.1 gb.2 hm' hhh W)
        have OK' := Lib.hid (show m'.ok from hm' ▸ wrV_ok OK.out _ _ gb)
        clear hm' hhh
        obtain ⟨okb, hokb⟩ : ∃ q_, isV (atV m' at_) = q_ := ⟨_, rfl⟩
        obtain ⟨nv, hnv⟩ : ∃ q_, numV (atV m' at_) = q_ := ⟨_, rfl⟩
        obtain ⟨clb, hclb⟩ : ∃ q_, isV (clV m') = q_ := ⟨_, rfl⟩
        obtain ⟨cv, hcv⟩ : ∃ q_, numV (clV m') = q_ := ⟨_, rfl⟩
        obtain ⟨bv, hbv⟩ : ∃ q_, bankV m' (at_ % 32768) = q_ := ⟨_, rfl⟩
        obtain ⟨rv, hrv⟩ : ∃ q_, romV m' at_ = q_ := ⟨_, rfl⟩
        have AT := Lib.hid (fun W => at_c m' at_ nv okb OK'.out ha0 haI hnv hokb W)
        have RAT := Lib.hid (fun W => rat_c m' at_ nv okb OK'.out ha0 haI hnv hokb W)
        have CL := Lib.hid (fun W => clock_c m' cv clb OK'.out hcv hclb W)
        have RCL := Lib.hid (fun W => rclock_c m' cv clb OK'.out hcv hclb W)
        have BK := Lib.hid (fun W => bank_c m' at_ bv OK'.out ha0 haI hbv W)
        have RBK := Lib.hid (fun W => rbank_c m' at_ bv OK'.out ha0 haI hbv W)
        have RM := Lib.hid (fun W => rom_c m' at_ rv OK'.out ha0 haI hrv W)
        have RRM := Lib.hid (fun W => rrom_c m' at_ rv OK'.out ha0 haI hrv W)
        clear hokb hnv hclb hcv hbv hrv
        have QH := Lib.hid (show qb ≠ h by have := LH.out; omega)
        have QH2 := Lib.hid (show qb ≠ h2 by have := LH2.out; omega)
        have N1 := Lib.hid NE.out.symm
        clear hqb
        go_upto_region 9 with (fail)
        have TM := Lib.hid TM.out.drew
        have TB := Lib.hid TB.out.drew
        have TP := Lib.hid TP.out.drew
        have QA0 := Lib.hid (show (World.drew wr).cell? ⟨qb, qo + t * 2, none⟩ = some (.int .u16 pf) from hq1)
        have QA1 := Lib.hid (show (World.drew wr).cell? ⟨qb, qo + t * 2 + 1, none⟩ = some (.int .u8 pg) from hq2)
        clear hq1 hq2
        refine wp_region_held_drew (S := (fun w' => (w'.cell? ⟨qb, qo + t * 2, none⟩ = some (.int .u16 pf)) ∧ (w'.cell? ⟨qb, qo + t * 2 + 1, none⟩ = some (.int .u8 pg)))) (by kernel_rfl) ⟨QA0.out, QA1.out⟩ (fun hHeld => ?_)
        generalize World.drew wr = u0 at hHeld TM TB QL QA0 QA1 TP  ⊢
        refine wpAnyH_take (i := 1) (oi := { dst := some 48, op := Go.Op.move (Go.Operand.tmp 3), type := 22, pos := "law.go:45", after := #[], guard := none }) (v := ?v124) rfl (by kernel_rfl) (by kernel_rfl) (by kernel_rfl) (fun _ _ _ h => h) (Or.inl ⟨by rfl, ?y124⟩) (by assumption) ?z124
        case y124 => (intro w hSw; (try dsimp only at hSw); go_simp) <;> with_reducible rfl
        try simp only [Act.put, List.setIfInBounds_toArray, List.set_cons_zero, List.set_cons_succ]
        refine wpAnyH_take (i := 2) (oi := { dst := some 49, op := Go.Op.move (Go.Operand.tmp 14), type := 3, pos := "law.go:45", after := #[], guard := none }) (v := ?v125) rfl (by kernel_rfl) (by kernel_rfl) (by kernel_rfl) (fun _ _ _ h => h) (Or.inl ⟨by rfl, ?y125⟩) (by assumption) ?z125
        case y125 => (intro w hSw; (try dsimp only at hSw); go_simp) <;> with_reducible rfl
        try simp only [Act.put, List.setIfInBounds_toArray, List.set_cons_zero, List.set_cons_succ]
        refine wpAnyH_take (i := 3) (oi := { dst := some 50, op := Go.Op.indexAddr 22 (Go.Operand.tmp 48) (Go.Operand.tmp 49), type := 0, pos := "law.go:45", after := #[{ on := 1, ground := Go.Ground.data }, { on := 2, ground := Go.Ground.data }], guard := none }) (v := ?v126) rfl (by kernel_rfl) (by kernel_rfl) (by kernel_rfl) (fun _ _ _ h => h) (Or.inl ⟨by rfl, ?y126⟩) (by assumption) ?z126
        case y126 => (intro w hSw; (try dsimp only at hSw); go_simp) <;> with_reducible rfl
        try simp only [Act.put, List.setIfInBounds_toArray, List.set_cons_zero, List.set_cons_succ]
        refine wpAnyH_take (i := 4) (oi := { dst := some 51, op := Go.Op.fieldAddr 37 (Go.Operand.tmp 50) 0, type := 0, pos := "law.go:45", after := #[{ on := 3, ground := Go.Ground.data }], guard := none }) (v := ?v127) rfl (by kernel_rfl) (by kernel_rfl) (by kernel_rfl) (fun _ _ _ h => h) (Or.inl ⟨by rfl, ?y127⟩) (by assumption) ?z127
        case y127 => (intro w hSw; (try dsimp only at hSw); go_simp) <;> with_reducible rfl
        try simp only [Act.put, List.setIfInBounds_toArray, List.set_cons_zero, List.set_cons_succ]
        refine wpAnyH_take (i := 5) (oi := { dst := some 52, op := Go.Op.load 23 (Go.Operand.tmp 51), type := 23, pos := "law.go:45", after := #[{ on := 4, ground := Go.Ground.data }], guard := none }) (v := ?v128) rfl (by kernel_rfl) (by kernel_rfl) (by kernel_rfl) (fun _ _ _ h => h) (Or.inl ⟨by rfl, ?y128⟩) (by assumption) ?z128
        case y128 => (intro w hSw; (try dsimp only at hSw); go_simp) <;> with_reducible rfl
        try simp only [Act.put, List.setIfInBounds_toArray, List.set_cons_zero, List.set_cons_succ]
        refine wpAnyH_take (i := 6) (oi := { dst := some 53, op := Go.Op.move (Go.Operand.tmp 3), type := 22, pos := "law.go:45", after := #[], guard := none }) (v := ?v129) rfl (by kernel_rfl) (by kernel_rfl) (by kernel_rfl) (fun _ _ _ h => h) (Or.inl ⟨by rfl, ?y129⟩) (by assumption) ?z129
        case y129 => (intro w hSw; (try dsimp only at hSw); go_simp) <;> with_reducible rfl
        try simp only [Act.put, List.setIfInBounds_toArray, List.set_cons_zero, List.set_cons_succ]
        refine wpAnyH_take (i := 7) (oi := { dst := some 54, op := Go.Op.move (Go.Operand.tmp 14), type := 3, pos := "law.go:45", after := #[], guard := none }) (v := ?v130) rfl (by kernel_rfl) (by kernel_rfl) (by kernel_rfl) (fun _ _ _ h => h) (Or.inl ⟨by rfl, ?y130⟩) (by assumption) ?z130
        case y130 => (intro w hSw; (try dsimp only at hSw); go_simp) <;> with_reducible rfl
        try simp only [Act.put, List.setIfInBounds_toArray, List.set_cons_zero, List.set_cons_succ]
        refine wpAnyH_take (i := 8) (oi := { dst := some 55, op := Go.Op.indexAddr 22 (Go.Operand.tmp 53) (Go.Operand.tmp 54), type := 0, pos := "law.go:45", after := #[{ on := 6, ground := Go.Ground.data }, { on := 7, ground := Go.Ground.data }], guard := none }) (v := ?v131) rfl (by kernel_rfl) (by kernel_rfl) (by kernel_rfl) (fun _ _ _ h => h) (Or.inl ⟨by rfl, ?y131⟩) (by assumption) ?z131
        case y131 => (intro w hSw; (try dsimp only at hSw); go_simp) <;> with_reducible rfl
        try simp only [Act.put, List.setIfInBounds_toArray, List.set_cons_zero, List.set_cons_succ]
        refine wpAnyH_take (i := 9) (oi := { dst := some 56, op := Go.Op.fieldAddr 37 (Go.Operand.tmp 55) 1, type := 0, pos := "law.go:45", after := #[{ on := 8, ground := Go.Ground.data }], guard := none }) (v := ?v132) rfl (by kernel_rfl) (by kernel_rfl) (by kernel_rfl) (fun _ _ _ h => h) (Or.inl ⟨by rfl, ?y132⟩) (by assumption) ?z132
        case y132 => (intro w hSw; (try dsimp only at hSw); go_simp) <;> with_reducible rfl
        try simp only [Act.put, List.setIfInBounds_toArray, List.set_cons_zero, List.set_cons_succ]
        refine wpAnyH_take (i := 10) (oi := { dst := some 57, op := Go.Op.load 5 (Go.Operand.tmp 56), type := 5, pos := "law.go:45", after := #[{ on := 9, ground := Go.Ground.data }], guard := none }) (v := ?v133) rfl (by kernel_rfl) (by kernel_rfl) (by kernel_rfl) (fun _ _ _ h => h) (Or.inl ⟨by rfl, ?y133⟩) (by assumption) ?z133
        case y133 => (intro w hSw; (try dsimp only at hSw); go_simp) <;> with_reducible rfl
        try simp only [Act.put, List.setIfInBounds_toArray, List.set_cons_zero, List.set_cons_succ]
        refine wpAnyH_ready (rs := [0]) (by kernel_rfl) (by simp) ?_
        refine (AllReadyH.cons (o := { dst := some 47, op := Go.Op.load 29 (Go.Operand.tmp 12), type := 29, pos := "law.go:45", after := #[], guard := none }) rfl (fun K hK => ?_) AllReadyH.nil)
        · skip
          obtain ⟨hc, hfz⟩ := TM.out.out
          go_simp
          clear hc hfz
          refine hK.out _ _ ?s134 (fun hNew => ?r134)
          case s134 => exact ⟨QA0.out, QA1.out⟩
          clear hK K hHeld
          have hHeld := hNew
          clear hNew
          refine wpAnyH_ready (rs := [11]) (by kernel_rfl) (by simp) ?_
          refine (AllReadyH.cons (o := { dst := some 58, op := Go.Op.call { callee := Go.Callee.value (Go.Operand.func 13), args := #[Go.Operand.tmp 47, Go.Operand.tmp 52, Go.Operand.tmp 57], argTypes := #[29, 23, 5] }, type := 34, pos := "law.go:45", after := #[{ on := 0, ground := Go.Ground.data }, { on := 5, ground := Go.Ground.data }, { on := 10, ground := Go.Ground.data }], guard := none }) rfl (fun K hK => ?_) AllReadyH.nil)
          · skip
            go_simp
            with_reducible refine (WC.out _).mono ?_
            rintro e u1 ⟨rfl, hb⟩
            have TB1 := Lib.hid (via TB.out hb)
            have TM1 := Lib.hid (TM.out.below hb)
            have QB0 := Lib.hid ((hb.cell (p := ⟨qb, qo + t * 2, none⟩) QL.out).trans QA0.out)
            have QB1 := Lib.hid ((hb.cell (p := ⟨qb, qo + t * 2 + 1, none⟩) QL.out).trans QA1.out)
            have TP1 := Lib.hid (TP.out.below hb)
            clear hb
            refine hK.out _ _ ?s135 (fun hNew => ?r135)
            case s135 => exact ⟨QB0.out, QB1.out⟩
            clear hK K hHeld
            have hHeld := hNew
            clear hNew
            refine wpAnyH_take (i := 12) (oi := { dst := some 46, op := Go.Op.move (Go.Operand.tmp 58), type := 34, pos := "law.go:45", after := #[{ on := 11, ground := Go.Ground.data }], guard := none }) (v := ?v136) rfl (by kernel_rfl) (by kernel_rfl) (by kernel_rfl) (fun _ _ _ h => h) (Or.inl ⟨by rfl, ?y136⟩) (by assumption) ?z136
            case y136 => (intro w hSw; (try dsimp only at hSw); go_simp) <;> with_reducible rfl
            try simp only [Act.put, List.setIfInBounds_toArray, List.set_cons_zero, List.set_cons_succ]
            refine wpAnyH_take (i := 13) (oi := { dst := some 59, op := Go.Op.extract (Go.Operand.tmp 46) 0, type := 29, pos := "law.go:45", after := #[{ on := 12, ground := Go.Ground.data }], guard := none }) (v := ?v137) rfl (by kernel_rfl) (by kernel_rfl) (by kernel_rfl) (fun _ _ _ h => h) (Or.inl ⟨by rfl, ?y137⟩) (by assumption) ?z137
            case y137 => (intro w hSw; (try dsimp only at hSw); go_simp) <;> with_reducible rfl
            try simp only [Act.put, List.setIfInBounds_toArray, List.set_cons_zero, List.set_cons_succ]
            refine wpAnyH_take (i := 14) (oi := { dst := some 60, op := Go.Op.extract (Go.Operand.tmp 46) 1, type := 4, pos := "law.go:45", after := #[{ on := 12, ground := Go.Ground.data }, { on := 15, ground := Go.Ground.gcOnly Go.Departure.lateStores }], guard := none }) (v := ?v138) rfl (by kernel_rfl) (by kernel_rfl) (by kernel_rfl) (fun _ _ _ h => h) (Or.inl ⟨by rfl, ?y138⟩) (by assumption) ?z138
            case y138 => (intro w hSw; (try dsimp only at hSw); go_simp) <;> with_reducible rfl
            try simp only [Act.put, List.setIfInBounds_toArray, List.set_cons_zero, List.set_cons_succ]
            refine wpAnyH_ready (rs := [15]) (by kernel_rfl) (by simp) ?_
            refine (AllReadyH.cons (o := { dst := none, op := Go.Op.store 29 (Go.Operand.tmp 12) (Go.Operand.tmp 59), type := 0, pos := "law.go:45", after := #[{ on := 13, ground := Go.Ground.data }, { on := 11, ground := Go.Ground.chain }, { on := 0, ground := Go.Ground.phase }, { on := 1, ground := Go.Ground.phase }, { on := 2, ground := Go.Ground.phase }, { on := 3, ground := Go.Ground.phase }, { on := 4, ground := Go.Ground.phase }, { on := 5, ground := Go.Ground.phase }, { on := 6, ground := Go.Ground.phase }, { on := 7, ground := Go.Ground.phase }, { on := 8, ground := Go.Ground.phase }, { on := 9, ground := Go.Ground.phase }, { on := 10, ground := Go.Ground.phase }, { on := 11, ground := Go.Ground.phase }, { on := 12, ground := Go.Ground.phase }, { on := 13, ground := Go.Ground.phase }, { on := 14, ground := Go.Ground.textOnly Go.Departure.lateStores }], guard := none }) rfl (fun K hK => ?_) AllReadyH.nil)
            · skip
              obtain ⟨hc, hfz⟩ := TM1.out.out
              go_simp
              clear hc hfz
              have TM2 := Lib.hid (TM1.out.put8 (.int .i64 m'.k) (.int .i64 m'.n) (.int .i64 m'.r) (.bool m'.on) (.bool m'.mo) (.int .i64 m'.lo) (.int .i64 m'.hi) (.int .u8 m'.la))
              have TB2 := Lib.hid (set8 TB1.out h LH.out (.int .i64 m'.k) (.int .i64 m'.n) (.int .i64 m'.r) (.bool m'.on) (.bool m'.mo) (.int .i64 m'.lo) (.int .i64 m'.hi) (.int .u8 m'.la))
              have TP2 := Lib.hid (TP1.out.far8 N1.out (.int .i64 m'.k) (.int .i64 m'.n) (.int .i64 m'.r) (.bool m'.on) (.bool m'.mo) (.int .i64 m'.lo) (.int .i64 m'.hi) (.int .u8 m'.la))
              have QC0 := Lib.hid (far8c QB0.out QH.out (.int .i64 m'.k) (.int .i64 m'.n) (.int .i64 m'.r) (.bool m'.on) (.bool m'.mo) (.int .i64 m'.lo) (.int .i64 m'.hi) (.int .u8 m'.la))
              have QC1 := Lib.hid (far8c QB1.out QH.out (.int .i64 m'.k) (.int .i64 m'.n) (.int .i64 m'.r) (.bool m'.on) (.bool m'.mo) (.int .i64 m'.lo) (.int .i64 m'.hi) (.int .u8 m'.la))
              refine hK.out _ _ ?s139 (fun hNew => ?r139)
              case s139 => exact ⟨QC0.out, QC1.out⟩
              clear hK K hHeld
              have hHeld := hNew
              clear hNew
              generalize (World.setCell (World.setCell (World.setCell (World.setCell (World.setCell (World.setCell (World.setCell (World.setCell u1 ⟨h, 0, none⟩ (.int .i64 m'.k)) ⟨h, 1, none⟩ (.int .i64 m'.n)) ⟨h, 2, none⟩ (.int .i64 m'.r)) ⟨h, 3, none⟩ (.bool m'.on)) ⟨h, 4, none⟩ (.bool m'.mo)) ⟨h, 5, none⟩ (.int .i64 m'.lo)) ⟨h, 6, none⟩ (.int .i64 m'.hi)) ⟨h, 7, none⟩ (.int .u8 m'.la)) = u2 at hHeld TM2 TB2 QC0 QC1 TP2 ⊢
              refine wpAnyH_take (i := 16) (oi := { dst := some 15, op := Go.Op.assign (Go.Operand.tmp 60), type := 4, pos := "law.go:45", after := #[{ on := 14, ground := Go.Ground.data }, { on := 15, ground := Go.Ground.chain }, { on := 0, ground := Go.Ground.phase }, { on := 1, ground := Go.Ground.phase }, { on := 2, ground := Go.Ground.phase }, { on := 3, ground := Go.Ground.phase }, { on := 4, ground := Go.Ground.phase }, { on := 5, ground := Go.Ground.phase }, { on := 6, ground := Go.Ground.phase }, { on := 7, ground := Go.Ground.phase }, { on := 8, ground := Go.Ground.phase }, { on := 9, ground := Go.Ground.phase }, { on := 10, ground := Go.Ground.phase }, { on := 11, ground := Go.Ground.phase }, { on := 12, ground := Go.Ground.phase }, { on := 13, ground := Go.Ground.phase }, { on := 14, ground := Go.Ground.phase }, { on := 15, ground := Go.Ground.phase }], guard := none }) (v := ?v140) rfl (by kernel_rfl) (by kernel_rfl) (by kernel_rfl) (fun _ _ _ h => h) (Or.inl ⟨by rfl, ?y140⟩) (by assumption) ?z140
              case y140 => (intro w hSw; (try dsimp only at hSw); go_simp) <;> with_reducible rfl
              try simp only [Act.put, List.setIfInBounds_toArray, List.set_cons_zero, List.set_cons_succ]
              refine wpAnyH_done (by kernel_rfl) ?_ _
              clear hHeld
              go_upto_region 10 with (fail)
              have ZB := TB2
              have ZM := TP2
              have ZP := TM2
              have QL2 := Lib.hid (Nat.lt_of_lt_of_le QQ.out TB2.out.drew.size)
              have hq1 : (World.drew u2).cell? ⟨qb, qo + t * 2, none⟩ = some (.int .u16 pf) := QC0.out
              have hq2 : (World.drew u2).cell? ⟨qb, qo + t * 2 + 1, none⟩ = some (.int .u8 pg) := QC1.out
              clear TB2 TP2 TM2 QC0 QC1
              have ZM := Lib.hid ZM.out.drew
              have ZB := Lib.hid ZB.out.drew
              have ZP := Lib.hid ZP.out.drew
              have QD0 := Lib.hid (show (World.drew u2).cell? ⟨qb, qo + t * 2, none⟩ = some (.int .u16 pf) from hq1)
              have QD1 := Lib.hid (show (World.drew u2).cell? ⟨qb, qo + t * 2 + 1, none⟩ = some (.int .u8 pg) from hq2)
              clear hq1 hq2
              refine wp_region_held_drew (S := (fun w' => (w'.cell? ⟨qb, qo + t * 2, none⟩ = some (.int .u16 pf)) ∧ (w'.cell? ⟨qb, qo + t * 2 + 1, none⟩ = some (.int .u8 pg)))) (by kernel_rfl) ⟨QD0.out, QD1.out⟩ (fun hHeld => ?_)
              generalize World.drew u2 = y0 at hHeld ZM ZB QL2 QD0 QD1 ZP  ⊢
              refine wpAnyH_take (i := 1) (oi := { dst := some 63, op := Go.Op.move (Go.Operand.tmp 3), type := 22, pos := "law.go:46", after := #[], guard := none }) (v := ?v107) rfl (by kernel_rfl) (by kernel_rfl) (by kernel_rfl) (fun _ _ _ h => h) (Or.inl ⟨by rfl, ?y107⟩) (by assumption) ?z107
              case y107 => (intro w hSw; (try dsimp only at hSw); go_simp) <;> with_reducible rfl
              try simp only [Act.put, List.setIfInBounds_toArray, List.set_cons_zero, List.set_cons_succ]
              refine wpAnyH_take (i := 2) (oi := { dst := some 64, op := Go.Op.move (Go.Operand.tmp 14), type := 3, pos := "law.go:46", after := #[], guard := none }) (v := ?v108) rfl (by kernel_rfl) (by kernel_rfl) (by kernel_rfl) (fun _ _ _ h => h) (Or.inl ⟨by rfl, ?y108⟩) (by assumption) ?z108
              case y108 => (intro w hSw; (try dsimp only at hSw); go_simp) <;> with_reducible rfl
              try simp only [Act.put, List.setIfInBounds_toArray, List.set_cons_zero, List.set_cons_succ]
              refine wpAnyH_take (i := 3) (oi := { dst := some 65, op := Go.Op.indexAddr 22 (Go.Operand.tmp 63) (Go.Operand.tmp 64), type := 0, pos := "law.go:46", after := #[{ on := 1, ground := Go.Ground.data }, { on := 2, ground := Go.Ground.data }], guard := none }) (v := ?v109) rfl (by kernel_rfl) (by kernel_rfl) (by kernel_rfl) (fun _ _ _ h => h) (Or.inl ⟨by rfl, ?y109⟩) (by assumption) ?z109
              case y109 => (intro w hSw; (try dsimp only at hSw); go_simp) <;> with_reducible rfl
              try simp only [Act.put, List.setIfInBounds_toArray, List.set_cons_zero, List.set_cons_succ]
              refine wpAnyH_take (i := 4) (oi := { dst := some 66, op := Go.Op.fieldAddr 37 (Go.Operand.tmp 65) 0, type := 0, pos := "law.go:46", after := #[{ on := 3, ground := Go.Ground.data }], guard := none }) (v := ?v110) rfl (by kernel_rfl) (by kernel_rfl) (by kernel_rfl) (fun _ _ _ h => h) (Or.inl ⟨by rfl, ?y110⟩) (by assumption) ?z110
              case y110 => (intro w hSw; (try dsimp only at hSw); go_simp) <;> with_reducible rfl
              try simp only [Act.put, List.setIfInBounds_toArray, List.set_cons_zero, List.set_cons_succ]
              refine wpAnyH_take (i := 5) (oi := { dst := some 67, op := Go.Op.load 23 (Go.Operand.tmp 66), type := 23, pos := "law.go:46", after := #[{ on := 4, ground := Go.Ground.data }], guard := none }) (v := ?v111) rfl (by kernel_rfl) (by kernel_rfl) (by kernel_rfl) (fun _ _ _ h => h) (Or.inl ⟨by rfl, ?y111⟩) (by assumption) ?z111
              case y111 => (intro w hSw; (try dsimp only at hSw); go_simp) <;> with_reducible rfl
              try simp only [Act.put, List.setIfInBounds_toArray, List.set_cons_zero, List.set_cons_succ]
              refine wpAnyH_take (i := 6) (oi := { dst := some 68, op := Go.Op.move (Go.Operand.tmp 3), type := 22, pos := "law.go:46", after := #[], guard := none }) (v := ?v112) rfl (by kernel_rfl) (by kernel_rfl) (by kernel_rfl) (fun _ _ _ h => h) (Or.inl ⟨by rfl, ?y112⟩) (by assumption) ?z112
              case y112 => (intro w hSw; (try dsimp only at hSw); go_simp) <;> with_reducible rfl
              try simp only [Act.put, List.setIfInBounds_toArray, List.set_cons_zero, List.set_cons_succ]
              refine wpAnyH_take (i := 7) (oi := { dst := some 69, op := Go.Op.move (Go.Operand.tmp 14), type := 3, pos := "law.go:46", after := #[], guard := none }) (v := ?v113) rfl (by kernel_rfl) (by kernel_rfl) (by kernel_rfl) (fun _ _ _ h => h) (Or.inl ⟨by rfl, ?y113⟩) (by assumption) ?z113
              case y113 => (intro w hSw; (try dsimp only at hSw); go_simp) <;> with_reducible rfl
              try simp only [Act.put, List.setIfInBounds_toArray, List.set_cons_zero, List.set_cons_succ]
              refine wpAnyH_take (i := 8) (oi := { dst := some 70, op := Go.Op.indexAddr 22 (Go.Operand.tmp 68) (Go.Operand.tmp 69), type := 0, pos := "law.go:46", after := #[{ on := 6, ground := Go.Ground.data }, { on := 7, ground := Go.Ground.data }], guard := none }) (v := ?v114) rfl (by kernel_rfl) (by kernel_rfl) (by kernel_rfl) (fun _ _ _ h => h) (Or.inl ⟨by rfl, ?y114⟩) (by assumption) ?z114
              case y114 => (intro w hSw; (try dsimp only at hSw); go_simp) <;> with_reducible rfl
              try simp only [Act.put, List.setIfInBounds_toArray, List.set_cons_zero, List.set_cons_succ]
              refine wpAnyH_take (i := 9) (oi := { dst := some 71, op := Go.Op.fieldAddr 37 (Go.Operand.tmp 70) 1, type := 0, pos := "law.go:46", after := #[{ on := 8, ground := Go.Ground.data }], guard := none }) (v := ?v115) rfl (by kernel_rfl) (by kernel_rfl) (by kernel_rfl) (fun _ _ _ h => h) (Or.inl ⟨by rfl, ?y115⟩) (by assumption) ?z115
              case y115 => (intro w hSw; (try dsimp only at hSw); go_simp) <;> with_reducible rfl
              try simp only [Act.put, List.setIfInBounds_toArray, List.set_cons_zero, List.set_cons_succ]
              refine wpAnyH_take (i := 10) (oi := { dst := some 72, op := Go.Op.load 5 (Go.Operand.tmp 71), type := 5, pos := "law.go:46", after := #[{ on := 9, ground := Go.Ground.data }], guard := none }) (v := ?v116) rfl (by kernel_rfl) (by kernel_rfl) (by kernel_rfl) (fun _ _ _ h => h) (Or.inl ⟨by rfl, ?y116⟩) (by assumption) ?z116
              case y116 => (intro w hSw; (try dsimp only at hSw); go_simp) <;> with_reducible rfl
              try simp only [Act.put, List.setIfInBounds_toArray, List.set_cons_zero, List.set_cons_succ]
              refine wpAnyH_ready (rs := [0]) (by kernel_rfl) (by simp) ?_
              refine (AllReadyH.cons (o := { dst := some 62, op := Go.Op.load 32 (Go.Operand.tmp 13), type := 32, pos := "law.go:46", after := #[], guard := none }) rfl (fun K hK => ?_) AllReadyH.nil)
              · skip
                obtain ⟨hc, hfz⟩ := ZM.out.out
                go_simp
                clear hc hfz
                refine hK.out _ _ ?s117 (fun hNew => ?r117)
                case s117 => exact ⟨QD0.out, QD1.out⟩
                clear hK K hHeld
                have hHeld := hNew
                clear hNew
                refine wpAnyH_ready (rs := [11]) (by kernel_rfl) (by simp) ?_
                refine (AllReadyH.cons (o := { dst := some 73, op := Go.Op.call { callee := Go.Callee.value (Go.Operand.func 14), args := #[Go.Operand.tmp 62, Go.Operand.tmp 67, Go.Operand.tmp 72], argTypes := #[32, 23, 5] }, type := 38, pos := "law.go:46", after := #[{ on := 0, ground := Go.Ground.data }, { on := 5, ground := Go.Ground.data }, { on := 10, ground := Go.Ground.data }], guard := none }) rfl (fun K hK => ?_) AllReadyH.nil)
                · skip
                  go_simp
                  with_reducible refine (WC2.out _).mono ?_
                  rintro e y1 ⟨rfl, hb⟩
                  have ZB1 := Lib.hid (via ZB.out hb)
                  have ZM1 := Lib.hid (ZM.out.below hb)
                  have QE0 := Lib.hid ((hb.cell (p := ⟨qb, qo + t * 2, none⟩) QL2.out).trans QD0.out)
                  have QE1 := Lib.hid ((hb.cell (p := ⟨qb, qo + t * 2 + 1, none⟩) QL2.out).trans QD1.out)
                  have ZP1 := Lib.hid (ZP.out.below hb)
                  clear hb
                  refine hK.out _ _ ?s118 (fun hNew => ?r118)
                  case s118 => exact ⟨QE0.out, QE1.out⟩
                  clear hK K hHeld
                  have hHeld := hNew
                  clear hNew
                  refine wpAnyH_take (i := 12) (oi := { dst := some 61, op := Go.Op.move (Go.Operand.tmp 73), type := 38, pos := "law.go:46", after := #[{ on := 11, ground := Go.Ground.data }], guard := none }) (v := ?v119) rfl (by kernel_rfl) (by kernel_rfl) (by kernel_rfl) (fun _ _ _ h => h) (Or.inl ⟨by rfl, ?y119⟩) (by assumption) ?z119
                  case y119 => (intro w hSw; (try dsimp only at hSw); go_simp) <;> with_reducible rfl
                  try simp only [Act.put, List.setIfInBounds_toArray, List.set_cons_zero, List.set_cons_succ]
                  refine wpAnyH_take (i := 13) (oi := { dst := some 74, op := Go.Op.extract (Go.Operand.tmp 61) 0, type := 32, pos := "law.go:46", after := #[{ on := 12, ground := Go.Ground.data }], guard := none }) (v := ?v120) rfl (by kernel_rfl) (by kernel_rfl) (by kernel_rfl) (fun _ _ _ h => h) (Or.inl ⟨by rfl, ?y120⟩) (by assumption) ?z120
                  case y120 => (intro w hSw; (try dsimp only at hSw); go_simp) <;> with_reducible rfl
                  try simp only [Act.put, List.setIfInBounds_toArray, List.set_cons_zero, List.set_cons_succ]
                  refine wpAnyH_take (i := 14) (oi := { dst := some 75, op := Go.Op.extract (Go.Operand.tmp 61) 1, type := 4, pos := "law.go:46", after := #[{ on := 12, ground := Go.Ground.data }, { on := 15, ground := Go.Ground.gcOnly Go.Departure.lateStores }], guard := none }) (v := ?v121) rfl (by kernel_rfl) (by kernel_rfl) (by kernel_rfl) (fun _ _ _ h => h) (Or.inl ⟨by rfl, ?y121⟩) (by assumption) ?z121
                  case y121 => (intro w hSw; (try dsimp only at hSw); go_simp) <;> with_reducible rfl
                  try simp only [Act.put, List.setIfInBounds_toArray, List.set_cons_zero, List.set_cons_succ]
                  refine wpAnyH_ready (rs := [15]) (by kernel_rfl) (by simp) ?_
                  refine (AllReadyH.cons (o := { dst := none, op := Go.Op.store 32 (Go.Operand.tmp 13) (Go.Operand.tmp 74), type := 0, pos := "law.go:46", after := #[{ on := 13, ground := Go.Ground.data }, { on := 11, ground := Go.Ground.chain }, { on := 0, ground := Go.Ground.phase }, { on := 1, ground := Go.Ground.phase }, { on := 2, ground := Go.Ground.phase }, { on := 3, ground := Go.Ground.phase }, { on := 4, ground := Go.Ground.phase }, { on := 5, ground := Go.Ground.phase }, { on := 6, ground := Go.Ground.phase }, { on := 7, ground := Go.Ground.phase }, { on := 8, ground := Go.Ground.phase }, { on := 9, ground := Go.Ground.phase }, { on := 10, ground := Go.Ground.phase }, { on := 11, ground := Go.Ground.phase }, { on := 12, ground := Go.Ground.phase }, { on := 13, ground := Go.Ground.phase }, { on := 14, ground := Go.Ground.textOnly Go.Departure.lateStores }], guard := none }) rfl (fun K hK => ?_) AllReadyH.nil)
                  · skip
                    obtain ⟨hc, hfz⟩ := ZM1.out.out
                    go_simp
                    clear hc hfz
                    have ZM2 := Lib.hid (ZM1.out.put8 (.int .i64 m'.k) (.int .i64 m'.n) (.int .i64 m'.r) (.bool m'.on) (.bool m'.mo) (.int .i64 m'.lo) (.int .i64 m'.hi) (.int .u8 m'.la))
                    have ZB2 := Lib.hid (set8 ZB1.out h2 LH2.out (.int .i64 m'.k) (.int .i64 m'.n) (.int .i64 m'.r) (.bool m'.on) (.bool m'.mo) (.int .i64 m'.lo) (.int .i64 m'.hi) (.int .u8 m'.la))
                    have ZP2 := Lib.hid (ZP1.out.far8 NE.out (.int .i64 m'.k) (.int .i64 m'.n) (.int .i64 m'.r) (.bool m'.on) (.bool m'.mo) (.int .i64 m'.lo) (.int .i64 m'.hi) (.int .u8 m'.la))
                    have QF0 := Lib.hid (far8c QE0.out QH2.out (.int .i64 m'.k) (.int .i64 m'.n) (.int .i64 m'.r) (.bool m'.on) (.bool m'.mo) (.int .i64 m'.lo) (.int .i64 m'.hi) (.int .u8 m'.la))
                    have QF1 := Lib.hid (far8c QE1.out QH2.out (.int .i64 m'.k) (.int .i64 m'.n) (.int .i64 m'.r) (.bool m'.on) (.bool m'.mo) (.int .i64 m'.lo) (.int .i64 m'.hi) (.int .u8 m'.la))
                    refine hK.out _ _ ?s122 (fun hNew => ?r122)
                    case s122 => exact ⟨QF0.out, QF1.out⟩
                    clear hK K hHeld
                    have hHeld := hNew
                    clear hNew
                    generalize (World.setCell (World.setCell (World.setCell (World.setCell (World.setCell (World.setCell (World.setCell (World.setCell y1 ⟨h2, 0, none⟩ (.int .i64 m'.k)) ⟨h2, 1, none⟩ (.int .i64 m'.n)) ⟨h2, 2, none⟩ (.int .i64 m'.r)) ⟨h2, 3, none⟩ (.bool m'.on)) ⟨h2, 4, none⟩ (.bool m'.mo)) ⟨h2, 5, none⟩ (.int .i64 m'.lo)) ⟨h2, 6, none⟩ (.int .i64 m'.hi)) ⟨h2, 7, none⟩ (.int .u8 m'.la)) = y2 at hHeld ZM2 ZB2 QF0 QF1 ZP2 ⊢
                    refine wpAnyH_take (i := 16) (oi := { dst := some 16, op := Go.Op.assign (Go.Operand.tmp 75), type := 4, pos := "law.go:46", after := #[{ on := 14, ground := Go.Ground.data }, { on := 15, ground := Go.Ground.chain }, { on := 0, ground := Go.Ground.phase }, { on := 1, ground := Go.Ground.phase }, { on := 2, ground := Go.Ground.phase }, { on := 3, ground := Go.Ground.phase }, { on := 4, ground := Go.Ground.phase }, { on := 5, ground := Go.Ground.phase }, { on := 6, ground := Go.Ground.phase }, { on := 7, ground := Go.Ground.phase }, { on := 8, ground := Go.Ground.phase }, { on := 9, ground := Go.Ground.phase }, { on := 10, ground := Go.Ground.phase }, { on := 11, ground := Go.Ground.phase }, { on := 12, ground := Go.Ground.phase }, { on := 13, ground := Go.Ground.phase }, { on := 14, ground := Go.Ground.phase }, { on := 15, ground := Go.Ground.phase }], guard := none }) (v := ?v123) rfl (by kernel_rfl) (by kernel_rfl) (by kernel_rfl) (fun _ _ _ h => h) (Or.inl ⟨by rfl, ?y123⟩) (by assumption) ?z123
                    case y123 => (intro w hSw; (try dsimp only at hSw); go_simp) <;> with_reducible rfl
                    try simp only [Act.put, List.setIfInBounds_toArray, List.set_cons_zero, List.set_cons_succ]
                    refine wpAnyH_done (by kernel_rfl) ?_ _
                    clear hHeld
                    have hc := ZP2.out.2.1
                    go_wp2_with fail
                    with_reducible refine (AT.out _).mono ?_
                    rintro e v3 ⟨rfl, hz⟩
                    clear hc
                    have YB3 := Lib.hid (via ZB2.out hz)
                    have YM3 := Lib.hid (ZP2.out.below hz)
                    have YP3 := Lib.hid (ZM2.out.below hz)
                    clear hz
                    have hc := YP3.out.2.1
                    go_wp2_with fail
                    with_reducible refine (RAT.out _).mono ?_
                    rintro e v4 ⟨rfl, hz⟩
                    clear hc
                    have YB4 := Lib.hid (via YB3.out hz)
                    have YM4 := Lib.hid (YM3.out.below hz)
                    have YP4 := Lib.hid (YP3.out.below hz)
                    clear hz
                    have hc := YM4.out.2.1
                    go_wp2_with fail
                    with_reducible refine (CL.out _).mono ?_
                    rintro e v5 ⟨rfl, hz⟩
                    clear hc
                    have YB5 := Lib.hid (via YB4.out hz)
                    have YM5 := Lib.hid (YM4.out.below hz)
                    have YP5 := Lib.hid (YP4.out.below hz)
                    clear hz
                    have hc := YP5.out.2.1
                    go_wp2_with fail
                    with_reducible refine (RCL.out _).mono ?_
                    rintro e v6 ⟨rfl, hz⟩
                    clear hc
                    have YB6 := Lib.hid (via YB5.out hz)
                    have YM6 := Lib.hid (YM5.out.below hz)
                    have YP6 := Lib.hid (YP5.out.below hz)
                    clear hz
                    go_upto_region 15 with (fail)
                    have XB0 := Lib.hid YB6.out.drew
                    have XM0 := Lib.hid YM6.out.drew
                    have XP0 := Lib.hid YP6.out.drew
                    refine wp_region_held_drew (S := (fun w' => (∀ o, w'.cell? ⟨h, o, none⟩ = #[.int .i64 m'.k, .int .i64 m'.n, .int .i64 m'.r, .bool m'.on, .bool m'.mo, .int .i64 m'.lo, .int .i64 m'.hi, .int .u8 m'.la][o]?) ∧ (∀ o, w'.cell? ⟨h2, o, none⟩ = #[.int .i64 m'.k, .int .i64 m'.n, .int .i64 m'.r, .bool m'.on, .bool m'.mo, .int .i64 m'.lo, .int .i64 m'.hi, .int .u8 m'.la][o]?))) (by kernel_rfl) ⟨XM0.out.2.1, XP0.out.2.1⟩ (fun hHeld => ?_)
                    generalize World.drew v6 = x0 at hHeld XB0 XM0 XP0 ⊢
                    refine wpAnyH_take (i := 0) (oi := { dst := some 98, op := Go.Op.move (Go.Operand.tmp 15), type := 4, pos := "law.go:51", after := #[], guard := none }) (v := ?v61) rfl (by kernel_rfl) (by kernel_rfl) (by kernel_rfl) (fun _ _ _ h => h) (Or.inl ⟨by rfl, ?y61⟩) (by assumption) ?z61
                    case y61 => (intro w hSw; (try dsimp only at hSw); go_simp) <;> with_reducible rfl
                    try simp only [Act.put, List.setIfInBounds_toArray, List.set_cons_zero, List.set_cons_succ]
                    refine wpAnyH_take (i := 1) (oi := { dst := some 99, op := Go.Op.move (Go.Operand.tmp 16), type := 4, pos := "law.go:51", after := #[], guard := none }) (v := ?v62) rfl (by kernel_rfl) (by kernel_rfl) (by kernel_rfl) (fun _ _ _ h => h) (Or.inl ⟨by rfl, ?y62⟩) (by assumption) ?z62
                    case y62 => (intro w hSw; (try dsimp only at hSw); go_simp) <;> with_reducible rfl
                    try simp only [Act.put, List.setIfInBounds_toArray, List.set_cons_zero, List.set_cons_succ]
                    refine wpAnyH_take (i := 2) (oi := { dst := some 100, op := Go.Op.binOp Go.BinOp.neq 4 (Go.Operand.tmp 98) (Go.Operand.tmp 99) 4, type := 4, pos := "law.go:51", after := #[{ on := 0, ground := Go.Ground.data }, { on := 1, ground := Go.Ground.data }], guard := none }) (v := ?v63) rfl (by kernel_rfl) (by kernel_rfl) (by kernel_rfl) (fun _ _ _ h => h) (Or.inl ⟨by rfl, ?y63⟩) (by assumption) ?z63
                    case y63 => (intro w hSw; (try dsimp only at hSw); go_simp) <;> with_reducible rfl
                    try simp only [Act.put, List.setIfInBounds_toArray, List.set_cons_zero, List.set_cons_succ]
                    refine wpAnyH_take (i := 3) (oi := { dst := some 101, op := Go.Op.move (Go.Operand.tmp 100), type := 4, pos := "law.go:51", after := #[{ on := 2, ground := Go.Ground.data }], guard := none }) (v := ?v64) rfl (by kernel_rfl) (by kernel_rfl) (by kernel_rfl) (fun _ _ _ h => h) (Or.inl ⟨by rfl, ?y64⟩) (by assumption) ?z64
                    case y64 => (intro w hSw; (try dsimp only at hSw); go_simp) <;> with_reducible rfl
                    try simp only [Act.put, List.setIfInBounds_toArray, List.set_cons_zero, List.set_cons_succ]
                    refine wpAnyH_take (i := 4) (oi := { dst := some 102, op := Go.Op.load 29 (Go.Operand.tmp 12), type := 29, pos := "law.go:51", after := #[{ on := 3, ground := Go.Ground.guard }], guard := some (3, false) }) (v := ?v65) rfl (by kernel_rfl) (by kernel_rfl) (by kernel_rfl) (fun _ _ _ h => h) (Or.inl ⟨by rfl, ?y65⟩) (by assumption) ?z65
                    case y65 => (intro w hSw; (try dsimp only at hSw); go_simp) <;> with_reducible rfl
                    try simp only [Act.put, List.setIfInBounds_toArray, List.set_cons_zero, List.set_cons_succ]
                    refine wpAnyH_take (i := 5) (oi := { dst := some 103, op := Go.Op.load 32 (Go.Operand.tmp 13), type := 32, pos := "law.go:51", after := #[{ on := 3, ground := Go.Ground.guard }], guard := some (3, false) }) (v := ?v66) rfl (by kernel_rfl) (by kernel_rfl) (by kernel_rfl) (fun _ _ _ h => h) (Or.inl ⟨by rfl, ?y66⟩) (by assumption) ?z66
                    case y66 => (intro w hSw; (try dsimp only at hSw); go_simp) <;> with_reducible rfl
                    try simp only [Act.put, List.setIfInBounds_toArray, List.set_cons_zero, List.set_cons_succ]
                    refine wpAnyH_take (i := 6) (oi := { dst := some 104, op := Go.Op.binOp Go.BinOp.neq 32 (Go.Operand.tmp 102) (Go.Operand.tmp 103) 32, type := 4, pos := "law.go:51", after := #[{ on := 4, ground := Go.Ground.data }, { on := 5, ground := Go.Ground.data }, { on := 3, ground := Go.Ground.guard }], guard := some (3, false) }) (v := ?v67) rfl (by kernel_rfl) (by kernel_rfl) (by kernel_rfl) (fun _ _ _ h => h) (Or.inl ⟨by rfl, ?y67⟩) (by assumption) ?z67
                    case y67 => (intro w hSw; (try dsimp only at hSw); go_simp) <;> with_reducible rfl
                    try simp only [Act.put, List.setIfInBounds_toArray, List.set_cons_zero, List.set_cons_succ]
                    refine wpAnyH_take (i := 7) (oi := { dst := some 105, op := Go.Op.pick (Go.Operand.tmp 101) (Go.Operand.const (Go.Value.bool true)) (Go.Operand.tmp 104), type := 4, pos := "law.go:51", after := #[{ on := 3, ground := Go.Ground.data }, { on := 6, ground := Go.Ground.data }], guard := none }) (v := ?v68) rfl (by kernel_rfl) (by kernel_rfl) (by kernel_rfl) (fun _ _ _ h => h) (Or.inl ⟨by rfl, ?y68⟩) (by assumption) ?z68
                    case y68 => (intro w hSw; (try dsimp only at hSw); go_simp) <;> with_reducible rfl
                    try simp only [Act.put, List.setIfInBounds_toArray, List.set_cons_zero, List.set_cons_succ]
                    refine wpAnyH_take (i := 8) (oi := { dst := some 106, op := Go.Op.move (Go.Operand.tmp 105), type := 4, pos := "law.go:51", after := #[{ on := 7, ground := Go.Ground.data }, { on := 3, ground := Go.Ground.chain }], guard := none }) (v := ?v69) rfl (by kernel_rfl) (by kernel_rfl) (by kernel_rfl) (fun _ _ _ h => h) (Or.inl ⟨by rfl, ?y69⟩) (by assumption) ?z69
                    case y69 => (intro w hSw; (try dsimp only at hSw); go_simp) <;> with_reducible rfl
                    try simp only [Act.put, List.setIfInBounds_toArray, List.set_cons_zero, List.set_cons_succ]
                    refine wpAnyH_take (i := 9) (oi := { dst := some 107, op := Go.Op.load 29 (Go.Operand.tmp 12), type := 29, pos := "law.go:51", after := #[{ on := 8, ground := Go.Ground.guard }], guard := some (8, false) }) (v := ?v70) rfl (by kernel_rfl) (by kernel_rfl) (by kernel_rfl) (fun _ _ _ h => h) (Or.inl ⟨by rfl, ?y70⟩) (by assumption) ?z70
                    case y70 => (intro w hSw; (try dsimp only at hSw); go_simp) <;> with_reducible rfl
                    try simp only [Act.put, List.setIfInBounds_toArray, List.set_cons_zero, List.set_cons_succ]
                    refine wpAnyH_take (i := 10) (oi := { dst := some 108, op := Go.Op.move (Go.Operand.tmp 4), type := 23, pos := "law.go:51", after := #[{ on := 8, ground := Go.Ground.guard }], guard := some (8, false) }) (v := ?v71) rfl (by kernel_rfl) (by kernel_rfl) (by kernel_rfl) (fun _ _ _ h => h) (Or.inl ⟨by rfl, ?y71⟩) (by assumption) ?z71
                    case y71 => (intro w hSw; (try dsimp only at hSw); go_simp) <;> with_reducible rfl
                    try simp only [Act.put, List.setIfInBounds_toArray, List.set_cons_zero, List.set_cons_succ]
                    refine wpAnyH_take (i := 12) (oi := { dst := some 110, op := Go.Op.load 32 (Go.Operand.tmp 13), type := 32, pos := "law.go:51", after := #[{ on := 8, ground := Go.Ground.guard }], guard := some (8, false) }) (v := ?v72) rfl (by kernel_rfl) (by kernel_rfl) (by kernel_rfl) (fun _ _ _ h => h) (Or.inl ⟨by rfl, ?y72⟩) (by assumption) ?z72
                    case y72 => (intro w hSw; (try dsimp only at hSw); go_simp) <;> with_reducible rfl
                    try simp only [Act.put, List.setIfInBounds_toArray, List.set_cons_zero, List.set_cons_succ]
                    refine wpAnyH_take (i := 13) (oi := { dst := some 111, op := Go.Op.move (Go.Operand.tmp 4), type := 23, pos := "law.go:51", after := #[{ on := 8, ground := Go.Ground.guard }], guard := some (8, false) }) (v := ?v73) rfl (by kernel_rfl) (by kernel_rfl) (by kernel_rfl) (fun _ _ _ h => h) (Or.inl ⟨by rfl, ?y73⟩) (by assumption) ?z73
                    case y73 => (intro w hSw; (try dsimp only at hSw); go_simp) <;> with_reducible rfl
                    try simp only [Act.put, List.setIfInBounds_toArray, List.set_cons_zero, List.set_cons_succ]
                    refine wpAnyH_ready (rs := [11]) (by kernel_rfl) (by simp) ?_
                    refine (AllReadyH.cons (o := { dst := some 109, op := Go.Op.call { callee := Go.Callee.value (Go.Operand.func 19), args := #[Go.Operand.tmp 107, Go.Operand.tmp 108], argTypes := #[29, 23] }, type := 3, pos := "law.go:51", after := #[{ on := 9, ground := Go.Ground.data }, { on := 10, ground := Go.Ground.data }, { on := 8, ground := Go.Ground.chain }, { on := 8, ground := Go.Ground.guard }], guard := some (8, false) }) rfl (fun K hK => ?_) AllReadyH.nil)
                    · skip
                      go_simp
                      with_reducible refine (BK.out _).mono ?_
                      rintro e x1 ⟨rfl, hz⟩
                      have XB1 := Lib.hid (via XB0.out hz)
                      have XM1 := Lib.hid (XM0.out.below hz)
                      have XP1 := Lib.hid (XP0.out.below hz)
                      clear hz
                      refine hK.out _ _ ?s74 (fun hNew => ?r74)
                      case s74 => exact ⟨XM1.out.2.1, XP1.out.2.1⟩
                      clear hK K hHeld
                      have hHeld := hNew
                      clear hNew
                      refine wpAnyH_ready (rs := [14]) (by kernel_rfl) (by simp) ?_
                      refine (AllReadyH.cons (o := { dst := some 112, op := Go.Op.call { callee := Go.Callee.value (Go.Operand.func 20), args := #[Go.Operand.tmp 110, Go.Operand.tmp 111], argTypes := #[32, 23] }, type := 3, pos := "law.go:51", after := #[{ on := 12, ground := Go.Ground.data }, { on := 13, ground := Go.Ground.data }, { on := 11, ground := Go.Ground.chain }, { on := 8, ground := Go.Ground.guard }], guard := some (8, false) }) rfl (fun K hK => ?_) AllReadyH.nil)
                      · skip
                        go_simp
                        with_reducible refine (RBK.out _).mono ?_
                        rintro e x2 ⟨rfl, hz⟩
                        have XB2 := Lib.hid (via XB1.out hz)
                        have XM2 := Lib.hid (XM1.out.below hz)
                        have XP2 := Lib.hid (XP1.out.below hz)
                        clear hz
                        refine hK.out _ _ ?s75 (fun hNew => ?r75)
                        case s75 => exact ⟨XM2.out.2.1, XP2.out.2.1⟩
                        clear hK K hHeld
                        have hHeld := hNew
                        clear hNew
                        refine wpAnyH_take (i := 15) (oi := { dst := some 113, op := Go.Op.binOp Go.BinOp.neq 3 (Go.Operand.tmp 109) (Go.Operand.tmp 112) 3, type := 4, pos := "law.go:51", after := #[{ on := 11, ground := Go.Ground.data }, { on := 14, ground := Go.Ground.data }, { on := 8, ground := Go.Ground.guard }], guard := some (8, false) }) (v := ?v76) rfl (by kernel_rfl) (by kernel_rfl) (by kernel_rfl) (fun _ _ _ h => h) (Or.inl ⟨by rfl, ?y76⟩) (by assumption) ?z76
                        case y76 => (intro w hSw; (try dsimp only at hSw); go_simp) <;> with_reducible rfl
                        try simp only [Act.put, List.setIfInBounds_toArray, List.set_cons_zero, List.set_cons_succ]
                        refine wpAnyH_take (i := 16) (oi := { dst := some 114, op := Go.Op.pick (Go.Operand.tmp 106) (Go.Operand.const (Go.Value.bool true)) (Go.Operand.tmp 113), type := 4, pos := "law.go:51", after := #[{ on := 8, ground := Go.Ground.data }, { on := 15, ground := Go.Ground.data }], guard := none }) (v := ?v77) rfl (by kernel_rfl) (by kernel_rfl) (by kernel_rfl) (fun _ _ _ h => h) (Or.inl ⟨by rfl, ?y77⟩) (by assumption) ?z77
                        case y77 => (intro w hSw; (try dsimp only at hSw); go_simp) <;> with_reducible rfl
                        try simp only [Act.put, List.setIfInBounds_toArray, List.set_cons_zero, List.set_cons_succ]
                        refine wpAnyH_take (i := 17) (oi := { dst := some 115, op := Go.Op.move (Go.Operand.tmp 114), type := 4, pos := "law.go:51", after := #[{ on := 16, ground := Go.Ground.data }, { on := 14, ground := Go.Ground.chain }], guard := none }) (v := ?v78) rfl (by kernel_rfl) (by kernel_rfl) (by kernel_rfl) (fun _ _ _ h => h) (Or.inl ⟨by rfl, ?y78⟩) (by assumption) ?z78
                        case y78 => (intro w hSw; (try dsimp only at hSw); go_simp) <;> with_reducible rfl
                        try simp only [Act.put, List.setIfInBounds_toArray, List.set_cons_zero, List.set_cons_succ]
                        refine wpAnyH_take (i := 18) (oi := { dst := some 116, op := Go.Op.load 29 (Go.Operand.tmp 12), type := 29, pos := "law.go:51", after := #[{ on := 17, ground := Go.Ground.guard }], guard := some (17, false) }) (v := ?v79) rfl (by kernel_rfl) (by kernel_rfl) (by kernel_rfl) (fun _ _ _ h => h) (Or.inl ⟨by rfl, ?y79⟩) (by assumption) ?z79
                        case y79 => (intro w hSw; (try dsimp only at hSw); go_simp) <;> with_reducible rfl
                        try simp only [Act.put, List.setIfInBounds_toArray, List.set_cons_zero, List.set_cons_succ]
                        refine wpAnyH_take (i := 19) (oi := { dst := some 117, op := Go.Op.move (Go.Operand.tmp 4), type := 23, pos := "law.go:51", after := #[{ on := 17, ground := Go.Ground.guard }], guard := some (17, false) }) (v := ?v80) rfl (by kernel_rfl) (by kernel_rfl) (by kernel_rfl) (fun _ _ _ h => h) (Or.inl ⟨by rfl, ?y80⟩) (by assumption) ?z80
                        case y80 => (intro w hSw; (try dsimp only at hSw); go_simp) <;> with_reducible rfl
                        try simp only [Act.put, List.setIfInBounds_toArray, List.set_cons_zero, List.set_cons_succ]
                        refine wpAnyH_take (i := 21) (oi := { dst := some 119, op := Go.Op.load 32 (Go.Operand.tmp 13), type := 32, pos := "law.go:51", after := #[{ on := 17, ground := Go.Ground.guard }], guard := some (17, false) }) (v := ?v81) rfl (by kernel_rfl) (by kernel_rfl) (by kernel_rfl) (fun _ _ _ h => h) (Or.inl ⟨by rfl, ?y81⟩) (by assumption) ?z81
                        case y81 => (intro w hSw; (try dsimp only at hSw); go_simp) <;> with_reducible rfl
                        try simp only [Act.put, List.setIfInBounds_toArray, List.set_cons_zero, List.set_cons_succ]
                        refine wpAnyH_take (i := 22) (oi := { dst := some 120, op := Go.Op.move (Go.Operand.tmp 4), type := 23, pos := "law.go:51", after := #[{ on := 17, ground := Go.Ground.guard }], guard := some (17, false) }) (v := ?v82) rfl (by kernel_rfl) (by kernel_rfl) (by kernel_rfl) (fun _ _ _ h => h) (Or.inl ⟨by rfl, ?y82⟩) (by assumption) ?z82
                        case y82 => (intro w hSw; (try dsimp only at hSw); go_simp) <;> with_reducible rfl
                        try simp only [Act.put, List.setIfInBounds_toArray, List.set_cons_zero, List.set_cons_succ]
                        refine wpAnyH_ready (rs := [20]) (by kernel_rfl) (by simp) ?_
                        refine (AllReadyH.cons (o := { dst := some 118, op := Go.Op.call { callee := Go.Callee.value (Go.Operand.func 21), args := #[Go.Operand.tmp 116, Go.Operand.tmp 117], argTypes := #[29, 23] }, type := 3, pos := "law.go:51", after := #[{ on := 18, ground := Go.Ground.data }, { on := 19, ground := Go.Ground.data }, { on := 17, ground := Go.Ground.chain }, { on := 17, ground := Go.Ground.guard }], guard := some (17, false) }) rfl (fun K hK => ?_) AllReadyH.nil)
                        · skip
                          go_simp
                          with_reducible refine (RM.out _).mono ?_
                          rintro e x3 ⟨rfl, hz⟩
                          have XB3 := Lib.hid (via XB2.out hz)
                          have XM3 := Lib.hid (XM2.out.below hz)
                          have XP3 := Lib.hid (XP2.out.below hz)
                          clear hz
                          refine hK.out _ _ ?s83 (fun hNew => ?r83)
                          case s83 => exact ⟨XM3.out.2.1, XP3.out.2.1⟩
                          clear hK K hHeld
                          have hHeld := hNew
                          clear hNew
                          refine wpAnyH_ready (rs := [23]) (by kernel_rfl) (by simp) ?_
                          refine (AllReadyH.cons (o := { dst := some 121, op := Go.Op.call { callee := Go.Callee.value (Go.Operand.func 22), args := #[Go.Operand.tmp 119, Go.Operand.tmp 120], argTypes := #[32, 23] }, type := 3, pos := "law.go:51", after := #[{ on := 21, ground := Go.Ground.data }, { on := 22, ground := Go.Ground.data }, { on := 20, ground := Go.Ground.chain }, { on := 17, ground := Go.Ground.guard }], guard := some (17, false) }) rfl (fun K hK => ?_) AllReadyH.nil)
                          · skip
                            go_simp
                            with_reducible refine (RRM.out _).mono ?_
                            rintro e x4 ⟨rfl, hz⟩
                            have XB4 := Lib.hid (via XB3.out hz)
                            have XM4 := Lib.hid (XM3.out.below hz)
                            have XP4 := Lib.hid (XP3.out.below hz)
                            clear hz
                            refine hK.out _ _ ?s84 (fun hNew => ?r84)
                            case s84 => exact ⟨XM4.out.2.1, XP4.out.2.1⟩
                            clear hK K hHeld
                            have hHeld := hNew
                            clear hNew
                            refine wpAnyH_take (i := 24) (oi := { dst := some 122, op := Go.Op.binOp Go.BinOp.neq 3 (Go.Operand.tmp 118) (Go.Operand.tmp 121) 3, type := 4, pos := "law.go:51", after := #[{ on := 20, ground := Go.Ground.data }, { on := 23, ground := Go.Ground.data }, { on := 17, ground := Go.Ground.guard }], guard := some (17, false) }) (v := ?v85) rfl (by kernel_rfl) (by kernel_rfl) (by kernel_rfl) (fun _ _ _ h => h) (Or.inl ⟨by rfl, ?y85⟩) (by assumption) ?z85
                            case y85 => (intro w hSw; (try dsimp only at hSw); go_simp) <;> with_reducible rfl
                            try simp only [Act.put, List.setIfInBounds_toArray, List.set_cons_zero, List.set_cons_succ]
                            refine wpAnyH_take (i := 25) (oi := { dst := some 123, op := Go.Op.pick (Go.Operand.tmp 115) (Go.Operand.const (Go.Value.bool true)) (Go.Operand.tmp 122), type := 4, pos := "law.go:51", after := #[{ on := 17, ground := Go.Ground.data }, { on := 24, ground := Go.Ground.data }], guard := none }) (v := ?v86) rfl (by kernel_rfl) (by kernel_rfl) (by kernel_rfl) (fun _ _ _ h => h) (Or.inl ⟨by rfl, ?y86⟩) (by assumption) ?z86
                            case y86 => (intro w hSw; (try dsimp only at hSw); go_simp) <;> with_reducible rfl
                            try simp only [Act.put, List.setIfInBounds_toArray, List.set_cons_zero, List.set_cons_succ]
                            refine wpAnyH_take (i := 26) (oi := { dst := some 124, op := Go.Op.move (Go.Operand.tmp 123), type := 4, pos := "law.go:51", after := #[{ on := 25, ground := Go.Ground.data }, { on := 23, ground := Go.Ground.chain }], guard := none }) (v := ?v87) rfl (by kernel_rfl) (by kernel_rfl) (by kernel_rfl) (fun _ _ _ h => h) (Or.inl ⟨by rfl, ?y87⟩) (by assumption) ?z87
                            case y87 => (intro w hSw; (try dsimp only at hSw); go_simp) <;> with_reducible rfl
                            try simp only [Act.put, List.setIfInBounds_toArray, List.set_cons_zero, List.set_cons_succ]
                            refine wpAnyH_take (i := 27) (oi := { dst := some 125, op := Go.Op.move (Go.Operand.tmp 17), type := 3, pos := "law.go:51", after := #[{ on := 26, ground := Go.Ground.guard }], guard := some (26, false) }) (v := ?v88) rfl (by kernel_rfl) (by kernel_rfl) (by kernel_rfl) (fun _ _ _ h => h) (Or.inl ⟨by rfl, ?y88⟩) (by assumption) ?z88
                            case y88 => (intro w hSw; (try dsimp only at hSw); go_simp) <;> with_reducible rfl
                            try simp only [Act.put, List.setIfInBounds_toArray, List.set_cons_zero, List.set_cons_succ]
                            refine wpAnyH_take (i := 28) (oi := { dst := some 126, op := Go.Op.move (Go.Operand.tmp 19), type := 3, pos := "law.go:51", after := #[{ on := 26, ground := Go.Ground.guard }], guard := some (26, false) }) (v := ?v89) rfl (by kernel_rfl) (by kernel_rfl) (by kernel_rfl) (fun _ _ _ h => h) (Or.inl ⟨by rfl, ?y89⟩) (by assumption) ?z89
                            case y89 => (intro w hSw; (try dsimp only at hSw); go_simp) <;> with_reducible rfl
                            try simp only [Act.put, List.setIfInBounds_toArray, List.set_cons_zero, List.set_cons_succ]
                            refine wpAnyH_take (i := 29) (oi := { dst := some 127, op := Go.Op.binOp Go.BinOp.neq 3 (Go.Operand.tmp 125) (Go.Operand.tmp 126) 3, type := 4, pos := "law.go:51", after := #[{ on := 27, ground := Go.Ground.data }, { on := 28, ground := Go.Ground.data }, { on := 26, ground := Go.Ground.guard }], guard := some (26, false) }) (v := ?v90) rfl (by kernel_rfl) (by kernel_rfl) (by kernel_rfl) (fun _ _ _ h => h) (Or.inl ⟨by rfl, ?y90⟩) (by assumption) ?z90
                            case y90 => (intro w hSw; (try dsimp only at hSw); go_simp) <;> with_reducible rfl
                            try simp only [Act.put, List.setIfInBounds_toArray, List.set_cons_zero, List.set_cons_succ]
                            refine wpAnyH_take (i := 30) (oi := { dst := some 128, op := Go.Op.pick (Go.Operand.tmp 124) (Go.Operand.const (Go.Value.bool true)) (Go.Operand.tmp 127), type := 4, pos := "law.go:51", after := #[{ on := 26, ground := Go.Ground.data }, { on := 29, ground := Go.Ground.data }], guard := none }) (v := ?v91) rfl (by kernel_rfl) (by kernel_rfl) (by kernel_rfl) (fun _ _ _ h => h) (Or.inl ⟨by rfl, ?y91⟩) (by assumption) ?z91
                            case y91 => (intro w hSw; (try dsimp only at hSw); go_simp) <;> with_reducible rfl
                            try simp only [Act.put, List.setIfInBounds_toArray, List.set_cons_zero, List.set_cons_succ]
                            refine wpAnyH_take (i := 31) (oi := { dst := some 129, op := Go.Op.move (Go.Operand.tmp 128), type := 4, pos := "law.go:51", after := #[{ on := 30, ground := Go.Ground.data }, { on := 26, ground := Go.Ground.chain }], guard := none }) (v := ?v92) rfl (by kernel_rfl) (by kernel_rfl) (by kernel_rfl) (fun _ _ _ h => h) (Or.inl ⟨by rfl, ?y92⟩) (by assumption) ?z92
                            case y92 => (intro w hSw; (try dsimp only at hSw); go_simp) <;> with_reducible rfl
                            try simp only [Act.put, List.setIfInBounds_toArray, List.set_cons_zero, List.set_cons_succ]
                            refine wpAnyH_take (i := 32) (oi := { dst := some 130, op := Go.Op.move (Go.Operand.tmp 18), type := 4, pos := "law.go:51", after := #[{ on := 31, ground := Go.Ground.guard }], guard := some (31, false) }) (v := ?v93) rfl (by kernel_rfl) (by kernel_rfl) (by kernel_rfl) (fun _ _ _ h => h) (Or.inl ⟨by rfl, ?y93⟩) (by assumption) ?z93
                            case y93 => (intro w hSw; (try dsimp only at hSw); go_simp) <;> with_reducible rfl
                            try simp only [Act.put, List.setIfInBounds_toArray, List.set_cons_zero, List.set_cons_succ]
                            refine wpAnyH_take (i := 33) (oi := { dst := some 131, op := Go.Op.move (Go.Operand.tmp 20), type := 4, pos := "law.go:51", after := #[{ on := 31, ground := Go.Ground.guard }], guard := some (31, false) }) (v := ?v94) rfl (by kernel_rfl) (by kernel_rfl) (by kernel_rfl) (fun _ _ _ h => h) (Or.inl ⟨by rfl, ?y94⟩) (by assumption) ?z94
                            case y94 => (intro w hSw; (try dsimp only at hSw); go_simp) <;> with_reducible rfl
                            try simp only [Act.put, List.setIfInBounds_toArray, List.set_cons_zero, List.set_cons_succ]
                            refine wpAnyH_take (i := 34) (oi := { dst := some 132, op := Go.Op.binOp Go.BinOp.neq 4 (Go.Operand.tmp 130) (Go.Operand.tmp 131) 4, type := 4, pos := "law.go:51", after := #[{ on := 32, ground := Go.Ground.data }, { on := 33, ground := Go.Ground.data }, { on := 31, ground := Go.Ground.guard }], guard := some (31, false) }) (v := ?v95) rfl (by kernel_rfl) (by kernel_rfl) (by kernel_rfl) (fun _ _ _ h => h) (Or.inl ⟨by rfl, ?y95⟩) (by assumption) ?z95
                            case y95 => (intro w hSw; (try dsimp only at hSw); go_simp) <;> with_reducible rfl
                            try simp only [Act.put, List.setIfInBounds_toArray, List.set_cons_zero, List.set_cons_succ]
                            refine wpAnyH_take (i := 35) (oi := { dst := some 133, op := Go.Op.pick (Go.Operand.tmp 129) (Go.Operand.const (Go.Value.bool true)) (Go.Operand.tmp 132), type := 4, pos := "law.go:51", after := #[{ on := 31, ground := Go.Ground.data }, { on := 34, ground := Go.Ground.data }], guard := none }) (v := ?v96) rfl (by kernel_rfl) (by kernel_rfl) (by kernel_rfl) (fun _ _ _ h => h) (Or.inl ⟨by rfl, ?y96⟩) (by assumption) ?z96
                            case y96 => (intro w hSw; (try dsimp only at hSw); go_simp) <;> with_reducible rfl
                            try simp only [Act.put, List.setIfInBounds_toArray, List.set_cons_zero, List.set_cons_succ]
                            refine wpAnyH_take (i := 36) (oi := { dst := some 134, op := Go.Op.move (Go.Operand.tmp 133), type := 4, pos := "law.go:51", after := #[{ on := 35, ground := Go.Ground.data }, { on := 31, ground := Go.Ground.chain }], guard := none }) (v := ?v97) rfl (by kernel_rfl) (by kernel_rfl) (by kernel_rfl) (fun _ _ _ h => h) (Or.inl ⟨by rfl, ?y97⟩) (by assumption) ?z97
                            case y97 => (intro w hSw; (try dsimp only at hSw); go_simp) <;> with_reducible rfl
                            try simp only [Act.put, List.setIfInBounds_toArray, List.set_cons_zero, List.set_cons_succ]
                            refine wpAnyH_take (i := 37) (oi := { dst := some 135, op := Go.Op.move (Go.Operand.tmp 21), type := 3, pos := "law.go:51", after := #[{ on := 36, ground := Go.Ground.guard }], guard := some (36, false) }) (v := ?v98) rfl (by kernel_rfl) (by kernel_rfl) (by kernel_rfl) (fun _ _ _ h => h) (Or.inl ⟨by rfl, ?y98⟩) (by assumption) ?z98
                            case y98 => (intro w hSw; (try dsimp only at hSw); go_simp) <;> with_reducible rfl
                            try simp only [Act.put, List.setIfInBounds_toArray, List.set_cons_zero, List.set_cons_succ]
                            refine wpAnyH_take (i := 38) (oi := { dst := some 136, op := Go.Op.move (Go.Operand.tmp 23), type := 3, pos := "law.go:51", after := #[{ on := 36, ground := Go.Ground.guard }], guard := some (36, false) }) (v := ?v99) rfl (by kernel_rfl) (by kernel_rfl) (by kernel_rfl) (fun _ _ _ h => h) (Or.inl ⟨by rfl, ?y99⟩) (by assumption) ?z99
                            case y99 => (intro w hSw; (try dsimp only at hSw); go_simp) <;> with_reducible rfl
                            try simp only [Act.put, List.setIfInBounds_toArray, List.set_cons_zero, List.set_cons_succ]
                            refine wpAnyH_take (i := 39) (oi := { dst := some 137, op := Go.Op.binOp Go.BinOp.neq 3 (Go.Operand.tmp 135) (Go.Operand.tmp 136) 3, type := 4, pos := "law.go:51", after := #[{ on := 37, ground := Go.Ground.data }, { on := 38, ground := Go.Ground.data }, { on := 36, ground := Go.Ground.guard }], guard := some (36, false) }) (v := ?v100) rfl (by kernel_rfl) (by kernel_rfl) (by kernel_rfl) (fun _ _ _ h => h) (Or.inl ⟨by rfl, ?y100⟩) (by assumption) ?z100
                            case y100 => (intro w hSw; (try dsimp only at hSw); go_simp) <;> with_reducible rfl
                            try simp only [Act.put, List.setIfInBounds_toArray, List.set_cons_zero, List.set_cons_succ]
                            refine wpAnyH_take (i := 40) (oi := { dst := some 138, op := Go.Op.pick (Go.Operand.tmp 134) (Go.Operand.const (Go.Value.bool true)) (Go.Operand.tmp 137), type := 4, pos := "law.go:51", after := #[{ on := 36, ground := Go.Ground.data }, { on := 39, ground := Go.Ground.data }], guard := none }) (v := ?v101) rfl (by kernel_rfl) (by kernel_rfl) (by kernel_rfl) (fun _ _ _ h => h) (Or.inl ⟨by rfl, ?y101⟩) (by assumption) ?z101
                            case y101 => (intro w hSw; (try dsimp only at hSw); go_simp) <;> with_reducible rfl
                            try simp only [Act.put, List.setIfInBounds_toArray, List.set_cons_zero, List.set_cons_succ]
                            refine wpAnyH_take (i := 41) (oi := { dst := some 139, op := Go.Op.move (Go.Operand.tmp 138), type := 4, pos := "law.go:51", after := #[{ on := 40, ground := Go.Ground.data }, { on := 36, ground := Go.Ground.chain }], guard := none }) (v := ?v102) rfl (by kernel_rfl) (by kernel_rfl) (by kernel_rfl) (fun _ _ _ h => h) (Or.inl ⟨by rfl, ?y102⟩) (by assumption) ?z102
                            case y102 => (intro w hSw; (try dsimp only at hSw); go_simp) <;> with_reducible rfl
                            try simp only [Act.put, List.setIfInBounds_toArray, List.set_cons_zero, List.set_cons_succ]
                            refine wpAnyH_take (i := 42) (oi := { dst := some 140, op := Go.Op.move (Go.Operand.tmp 22), type := 4, pos := "law.go:51", after := #[{ on := 41, ground := Go.Ground.guard }], guard := some (41, false) }) (v := ?v103) rfl (by kernel_rfl) (by kernel_rfl) (by kernel_rfl) (fun _ _ _ h => h) (Or.inl ⟨by rfl, ?y103⟩) (by assumption) ?z103
                            case y103 => (intro w hSw; (try dsimp only at hSw); go_simp) <;> with_reducible rfl
                            try simp only [Act.put, List.setIfInBounds_toArray, List.set_cons_zero, List.set_cons_succ]
                            refine wpAnyH_take (i := 43) (oi := { dst := some 141, op := Go.Op.move (Go.Operand.tmp 24), type := 4, pos := "law.go:51", after := #[{ on := 41, ground := Go.Ground.guard }], guard := some (41, false) }) (v := ?v104) rfl (by kernel_rfl) (by kernel_rfl) (by kernel_rfl) (fun _ _ _ h => h) (Or.inl ⟨by rfl, ?y104⟩) (by assumption) ?z104
                            case y104 => (intro w hSw; (try dsimp only at hSw); go_simp) <;> with_reducible rfl
                            try simp only [Act.put, List.setIfInBounds_toArray, List.set_cons_zero, List.set_cons_succ]
                            refine wpAnyH_take (i := 44) (oi := { dst := some 142, op := Go.Op.binOp Go.BinOp.neq 4 (Go.Operand.tmp 140) (Go.Operand.tmp 141) 4, type := 4, pos := "law.go:51", after := #[{ on := 42, ground := Go.Ground.data }, { on := 43, ground := Go.Ground.data }, { on := 41, ground := Go.Ground.guard }], guard := some (41, false) }) (v := ?v105) rfl (by kernel_rfl) (by kernel_rfl) (by kernel_rfl) (fun _ _ _ h => h) (Or.inl ⟨by rfl, ?y105⟩) (by assumption) ?z105
                            case y105 => (intro w hSw; (try dsimp only at hSw); go_simp) <;> with_reducible rfl
                            try simp only [Act.put, List.setIfInBounds_toArray, List.set_cons_zero, List.set_cons_succ]
                            refine wpAnyH_take (i := 45) (oi := { dst := some 143, op := Go.Op.pick (Go.Operand.tmp 139) (Go.Operand.const (Go.Value.bool true)) (Go.Operand.tmp 142), type := 4, pos := "law.go:51", after := #[{ on := 41, ground := Go.Ground.data }, { on := 44, ground := Go.Ground.data }], guard := none }) (v := ?v106) rfl (by kernel_rfl) (by kernel_rfl) (by kernel_rfl) (fun _ _ _ h => h) (Or.inl ⟨by rfl, ?y106⟩) (by assumption) ?z106
                            case y106 => (intro w hSw; (try dsimp only at hSw); go_simp) <;> with_reducible rfl
                            try simp only [Act.put, List.setIfInBounds_toArray, List.set_cons_zero, List.set_cons_succ]
                            refine wpAnyH_done (by kernel_rfl) ?_ _
                            clear hHeld
                            go_wp2
                            go_roundg (gk - 1)
                            exact ⟨t + 1, m', by omega, by have := TG.out; omega, by simp, OK'.out, XB4.out, XM4.out, XP4.out⟩
                            case measure => have := TG.out; omega
      · have et : t = n := by omega
        subst et
        have hc1 := TM.out.2.1
        have hc2 := TP.out.2.1
        go_wp2
        go_ret
        exact ⟨rfl, TB.out⟩
theorem plays_walk (k b r : Nat) (v : Value) (at_ : Int) (hk : k < 256) (hb : b < 256) (hr : r < 256) (ha0 : 0 ≤ at_) (haI : at_ < 65536) (w : World) (h : PkIn w v) : Calls Try.prog 3 #[.int .u8 k, .int .u8 b, .int .u8 r, v, .int .u16 at_] w fun e w' => e = .returned (.bool true) ∧ Below w.heap.size w w' := by
  obtain ⟨a, n, c, rfl, hm, f, g, hf, hg, hin⟩ := h
  by_cases h0 : 100 < n
  · exact plays_long k b r at_ a n c h0 w
  · exact plays_some k b r at_ hk hb hr ha0 haI a n c h0 f g hf hg w hin
end Go.Proofs.Ytafmmffgenolaaa
