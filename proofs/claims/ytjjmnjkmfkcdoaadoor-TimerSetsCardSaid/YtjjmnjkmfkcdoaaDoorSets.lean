/-
  The walk through TimerSets: for every timer; no condition but that each number fits, and that the table lies as it is laid.
-/
import Derived.Test.YtjjmnjkmfkcdoaaDoorOpn
import Derived.Test.YtjjmnjkmfkcdoaaDoorAwk
import Derived.Deep.Cut
import Derived.Deep.DeepCutAuto
namespace Go.Proofs.YtjjmnjkmfkcdoaaDoor
open Go.ChangeShapes Go.WideShapes Go.ChangeAt Go.RowKit
set_option linter.unusedVariables false
set_option linter.unusedSimpArgs false
set_option maxRecDepth 100000
/-- Two new blocks hold two timers. -/
def TwoT (n_ : Nat) (W0 : World) (vb tb : Nat) (A B V : Array Value) (wx : World) (x y : Value) : Prop := ∃ p q : Nat, x = .pointer (some ⟨p, 0, none⟩) ∧ y = .pointer (some ⟨q, 0, none⟩) ∧ Below n_ W0 wx ∧ Has wx p A ∧ Has wx q B ∧ Has wx vb V ∧ Has wx tb V
theorem sets_ways (c a m k x : Int) (o s : Bool) (RA RB : TV) (hs : sigV c k = s) (hA : wrV ⟨c, a, m, k, o⟩ 0 x = RA) (hB : wrV ⟨c, a, m, k, o⟩ 3 0 = RB) :
    (s = false ∧ RA = ⟨0, a, m, k, o⟩ ∧ RB = ⟨c, a, m, 0, o⟩) ∨ (s = true ∧ RA = ⟨0, (a + 1) % 256, m, k, if (a + 1) % 256 = 0 then true else o⟩ ∧ RB = ⟨c, (a + 1) % 256, m, 0, if (a + 1) % 256 = 0 then true else o⟩) := by
  have z1 : sigV 0 k = false := by
    by_cases h : k / 4 % 2 = 1
    · exact sig_eq 0 k false h (by rw [Int.zero_ediv]; rfl)
    · exact sig_0 0 k (by omega)
  have z2 : sigV c 0 = false := sig_0 c 0 rfl
  have hA' : fallV s ⟨0, a, m, k, o⟩ = RA := by rw [← hs]; exact hA
  have hB' : fallV s ⟨c, a, m, 0, o⟩ = RB := by rw [← hs]; exact hB
  cases s with
  | false =>
    rw [fall_not _ _ (Or.inl rfl)] at hA' hB'
    exact Or.inl ⟨rfl, hA'.symm, hB'.symm⟩
  | true =>
    rw [fall_yes _ z1] at hA'
    rw [fall_yes _ z2] at hB'
    exact Or.inr ⟨rfl, hA'.symm, hB'.symm⟩
set_option maxHeartbeats 8000000 in
theorem sets_f (c a m k : Int) (o : Bool) (kk x : Int) (RA RB : TV) (s : Bool) (hk0 : 0 ≤ k) (hk1 : k < 256) (hkk : k % 8 = kk) (h1_ : ∀ W, Glob W → Calls Tryd.prog 12 #[.agg #[.int .u16 c, .int .u8 a, .int .u8 m, .int .u8 kk, .bool o], .int .i64 0, .int .u8 x] W fun q_ w' => q_ = .returned (.agg #[.int .u16 RA.c, .int .u8 RA.a, .int .u8 RA.m, .int .u8 RA.k, .bool RA.o]) ∧ Below W.heap.size W w') (h2_ : ∀ W, Glob W → Calls Tryd.prog 12 #[.agg #[.int .u16 c, .int .u8 a, .int .u8 m, .int .u8 kk, .bool o], .int .i64 3, .int .u8 0] W fun q_ w' => q_ = .returned (.agg #[.int .u16 RB.c, .int .u8 RB.a, .int .u8 RB.m, .int .u8 RB.k, .bool RB.o]) ∧ Below W.heap.size W w') (h3_ : ∀ W, Calls Tryd.prog 16 #[.agg #[.int .u16 c, .int .u8 a, .int .u8 m, .int .u8 kk, .bool o]] W fun q_ w' => q_ = .returned (.bool s) ∧ Below W.heap.size W w') (h4_ : ∀ W, Calls Tryd.prog 14 #[.agg #[.int .u16 RA.c, .int .u8 RA.a, .int .u8 RA.m, .int .u8 RA.k, .bool RA.o], .int .i64 0] W fun q_ w' => q_ = .returned (.int .u8 0) ∧ Below W.heap.size W w') (h5_ : ∀ W, Calls Tryd.prog 14 #[.agg #[.int .u16 RB.c, .int .u8 RB.a, .int .u8 RB.m, .int .u8 RB.k, .bool RB.o], .int .i64 3] W fun q_ w' => q_ = .returned (.int .u8 248) ∧ Below W.heap.size W w') (ha0 : 0 ≤ a) (ha1 : a < 256) (u : Int) (hu : (a + 1) % 256 = u) (hw_ : (s = false ∧ RA = ⟨0, a, m, kk, o⟩ ∧ RB = ⟨c, a, m, 0, o⟩) ∨ (s = true ∧ RA = ⟨0, u, m, kk, if u = 0 then true else o⟩ ∧ RB = ⟨c, u, m, 0, if u = 0 then true else o⟩)) (w : World) (hglob : Glob w) : Calls Tryd.prog 6 #[.agg #[.int .u16 c, .int .u8 a, .int .u8 m, .int .u8 k, .bool o], .int .u8 x] w fun q_ w' => q_ = .returned (.bool true) ∧ Below w.heap.size w w' := by
  suffices hall : ∀ (n_ : Nat) (W0 : World), n_ ≤ W0.heap.size → Below n_ W0 w → Tab n_ W0 → Calls Tryd.prog 6 #[.agg #[.int .u16 c, .int .u8 a, .int .u8 m, .int .u8 k, .bool o], .int .u8 x] w fun q_ w' => q_ = .returned (.bool true) ∧ Below n_ W0 w' from hall _ _ (Nat.le_refl _) (Below.refl _ _) ⟨hglob.1, hglob⟩
  intro n_ W0 hn hB hT
  have HN := Lib.hid hn
  have BB := Lib.hid hB
  have TT := Lib.hid hT
  clear hn hB hT hglob
  have AW := Lib.hid awake_c
  have hnot : ∀ (x : Bool) (w : World), (Op.unary .not (.bool x)).run Tryd.prog w = .ok (.bool (!x)) w := fun _ _ => rfl
  have H1 := Lib.hid h1_
  have H2 := Lib.hid h2_
  have H3 := Lib.hid h3_
  have H4 := Lib.hid h4_
  have H5 := Lib.hid h5_
  have WAY := Lib.hid hw_
  clear h1_ h2_ h3_ h4_ h5_ hw_
  have wu : IntKind.u8.wrap (a + 1) = u := by rw [IntKind.wrap_u8']; exact hu
  have u0 : 0 ≤ u := by omega
  have u1 : u < 256 := by omega
  have kk0 : 0 ≤ kk := by omega
  have kk1 : kk < 256 := by omega
  go_enter Tryd.func6, Tryd.ntmps6
  have B0 := Lib.hid (vian HN.out BB.out (own1 w (.cells #[.int .u16 c, .int .u8 a, .int .u8 m, .int .u8 k, .bool o] 24)))
  have V0 := Lib.hid (Has.new w #[.int .u16 c, .int .u8 a, .int .u8 m, .int .u8 k, .bool o] 24)
  have LV := Lib.hid (Nat.le_trans HN.out BB.out.size)
  go_upto_region 1 with (fail)
  generalize w.alloc (.cells #[.int .u16 c, .int .u8 a, .int .u8 m, .int .u8 k, .bool o] 24) = w0 at B0 V0 ⊢
  generalize w.heap.size = vb at V0 LV ⊢
  go_wp2_with fail
  with_reducible refine (AW.out _ (TT.out.next B0.out).g).mono ?_
  rintro q_ w1 ⟨rfl, hb⟩
  have B1 := Lib.hid (vian HN.out B0.out hb)
  have V1 := Lib.hid (V0.out.below hb)
  clear hb B0 V0
  have V2 := Lib.hid (show Has (w1.setCell ⟨vb, 3, none⟩ (.int .u8 kk)) vb #[.int .u16 c, .int .u8 a, .int .u8 m, .int .u8 kk, .bool o] by simpa using V1.out.set 3 (.int .u8 kk) (by simp))
  have B2 := Lib.hid (store1 B1.out LV.out 3 (.int .u8 kk))
  obtain ⟨hc, hf⟩ := V1.out.out
  go_upto_region 4 with (fail)
  clear hc hf
  generalize w1.setCell ⟨vb, 3, none⟩ (.int .u8 kk) = w2 at V2 B2 ⊢
  clear V1 B1
  have T3 := Lib.hid (Has.new w2 #[.int .u16 c, .int .u8 a, .int .u8 m, .int .u8 kk, .bool o] 27)
  have V3 := Lib.hid (V2.out.alloc (.cells #[.int .u16 c, .int .u8 a, .int .u8 m, .int .u8 kk, .bool o] 27))
  have B3 := Lib.hid (vian HN.out B2.out (own1 w2 (.cells #[.int .u16 c, .int .u8 a, .int .u8 m, .int .u8 kk, .bool o] 27)))
  have LT := Lib.hid (Nat.le_trans HN.out B2.out.size)
  have NVT := Lib.hid (show vb ≠ w2.heap.size from fun e => absurd V2.out.1 (Nat.not_lt.2 (Nat.le_of_eq e.symm)))
  obtain ⟨hc, hf⟩ := V2.out.out
  go_upto_region 5 with (fail)
  generalize w2.alloc (.cells #[.int .u16 c, .int .u8 a, .int .u8 m, .int .u8 kk, .bool o] 27) = w3 at T3 V3 B3 ⊢
  generalize w2.heap.size = tb at T3 LT NVT ⊢
  clear B2 V2
  clear hc hf
  have B0 := Lib.hid B3.out.drew
  have V0 := Lib.hid V3.out.drew
  have T0 := Lib.hid T3.out.drew
  clear B3 V3 T3
  go_cut [6, 7] (fun x6 x7 wx => TwoT n_ W0 vb tb #[.int .u16 RA.c, .int .u8 RA.a, .int .u8 RA.m, .int .u8 RA.k, .bool RA.o] #[.int .u16 RB.c, .int .u8 RB.a, .int .u8 RB.m, .int .u8 RB.k, .bool RB.o] #[.int .u16 c, .int .u8 a, .int .u8 m, .int .u8 kk, .bool o] wx x6 x7)
  case first =>
    refine wp_region_held_drew (S := (fun w' => ∀ o_, w'.cell? ⟨tb, o_, none⟩ = #[.int .u16 c, .int .u8 a, .int .u8 m, .int .u8 kk, .bool o][o_]?)) (by kernel_rfl) T0.out.2.1 (fun hHeld => ?_)
    generalize World.drew w3 = u0 at hHeld B0 V0 T0 ⊢
    refine wpAnyH_take (i := 0) (oi := { dst := some 16, op := Go.Op.load 27 (Go.Operand.tmp 5), type := 27, pos := "law.go:110", after := #[], guard := none }) (v := ?v1) rfl (by kernel_rfl) (by kernel_rfl) (by kernel_rfl) (fun _ _ _ h => h) (Or.inl ⟨by rfl, ?y1⟩) (by assumption) ?z1
    case y1 => (intro w hSw; (try dsimp only at hSw); go_simp) <;> with_reducible rfl
    try simp only [Act.put, List.setIfInBounds_toArray, List.set_cons_zero, List.set_cons_succ]
    refine wpAnyH_take (i := 1) (oi := { dst := some 17, op := Go.Op.move (Go.Operand.tmp 1), type := 5, pos := "law.go:110", after := #[], guard := none }) (v := ?v2) rfl (by kernel_rfl) (by kernel_rfl) (by kernel_rfl) (fun _ _ _ h => h) (Or.inl ⟨by rfl, ?y2⟩) (by assumption) ?z2
    case y2 => (intro w hSw; (try dsimp only at hSw); go_simp) <;> with_reducible rfl
    try simp only [Act.put, List.setIfInBounds_toArray, List.set_cons_zero, List.set_cons_succ]
    refine wpAnyH_take (i := 3) (oi := { dst := some 19, op := Go.Op.load 27 (Go.Operand.tmp 5), type := 27, pos := "law.go:110", after := #[], guard := none }) (v := ?v3) rfl (by kernel_rfl) (by kernel_rfl) (by kernel_rfl) (fun _ _ _ h => h) (Or.inl ⟨by rfl, ?y3⟩) (by assumption) ?z3
    case y3 => (intro w hSw; (try dsimp only at hSw); go_simp) <;> with_reducible rfl
    try simp only [Act.put, List.setIfInBounds_toArray, List.set_cons_zero, List.set_cons_succ]
    refine wpAnyH_ready (rs := [2, 5, 6]) (by kernel_rfl) (by simp) ?_
    refine (AllReadyH.cons (o := { dst := some 18, op := Go.Op.call { callee := Go.Callee.value (Go.Operand.func 12), args := #[Go.Operand.tmp 16, Go.Operand.const (Go.Value.int Go.IntKind.i64 0), Go.Operand.tmp 17], argTypes := #[27, 3, 5] }, type := 27, pos := "law.go:110", after := #[{ on := 0, ground := Go.Ground.data }, { on := 1, ground := Go.Ground.data }], guard := none }) rfl (fun K hK => ?_) (AllReadyH.cons (o := { dst := some 6, op := Go.Op.alloc 27, type := 0, pos := "law.go:110", after := #[], guard := none }) rfl (fun K hK => ?_) (AllReadyH.cons (o := { dst := some 7, op := Go.Op.alloc 27, type := 0, pos := "law.go:110", after := #[], guard := none }) rfl (fun K hK => ?_) AllReadyH.nil)))
    · skip
      go_simp
      with_reducible refine (H1.out _ (TT.out.next B0.out).g).mono ?_
      rintro q_ u1 ⟨rfl, hz⟩
      have B1 := Lib.hid (vian HN.out B0.out hz)
      have V1 := Lib.hid (V0.out.below hz)
      have T1 := Lib.hid (T0.out.below hz)
      clear hz
      refine hK.out _ _ ?s4 (fun hNew => ?r4)
      case s4 => exact T1.out.2.1
      clear hK K hHeld
      have hHeld := hNew
      clear hNew
      refine wpAnyH_ready (rs := [4, 5, 6]) (by kernel_rfl) (by simp) ?_
      refine (AllReadyH.cons (o := { dst := some 20, op := Go.Op.call { callee := Go.Callee.value (Go.Operand.func 12), args := #[Go.Operand.tmp 19, Go.Operand.const (Go.Value.int Go.IntKind.i64 3), Go.Operand.const (Go.Value.int Go.IntKind.u8 0)], argTypes := #[27, 3, 5] }, type := 27, pos := "law.go:110", after := #[{ on := 3, ground := Go.Ground.data }, { on := 2, ground := Go.Ground.chain }], guard := none }) rfl (fun K hK => ?_) (AllReadyH.cons (o := { dst := some 6, op := Go.Op.alloc 27, type := 0, pos := "law.go:110", after := #[], guard := none }) rfl (fun K hK => ?_) (AllReadyH.cons (o := { dst := some 7, op := Go.Op.alloc 27, type := 0, pos := "law.go:110", after := #[], guard := none }) rfl (fun K hK => ?_) AllReadyH.nil)))
      · skip
        go_simp
        with_reducible refine (H2.out _ (TT.out.next B1.out).g).mono ?_
        rintro q_ u2 ⟨rfl, hz⟩
        have B2 := Lib.hid (vian HN.out B1.out hz)
        have V2 := Lib.hid (V1.out.below hz)
        have T2 := Lib.hid (T1.out.below hz)
        clear hz
        refine hK.out _ _ ?s5 (fun hNew => ?r5)
        case s5 => exact T2.out.2.1
        clear hK K hHeld
        have hHeld := hNew
        clear hNew
        refine wpAnyH_ready (rs := [5, 6]) (by kernel_rfl) (by simp) ?_
        refine (AllReadyH.cons (o := { dst := some 6, op := Go.Op.alloc 27, type := 0, pos := "law.go:110", after := #[], guard := none }) rfl (fun K hK => ?_) (AllReadyH.cons (o := { dst := some 7, op := Go.Op.alloc 27, type := 0, pos := "law.go:110", after := #[], guard := none }) rfl (fun K hK => ?_) AllReadyH.nil))
        · skip
          go_simp
          have hz := own1 u2 (.cells #[.int .u16 0, .int .u8 0, .int .u8 0, .int .u8 0, .bool false] 27)
          have B3 := Lib.hid (vian HN.out B2.out hz)
          have V3 := Lib.hid (V2.out.below hz)
          have T3 := Lib.hid (T2.out.below hz)
          have P3 := Lib.hid (Has.new u2 #[.int .u16 0, .int .u8 0, .int .u8 0, .int .u8 0, .bool false] 27)
          have LP := Lib.hid (Nat.le_trans HN.out B2.out.size)
          have NTP := Lib.hid (show tb ≠ u2.heap.size by have := T2.out.1; omega)
          have NVP := Lib.hid (show vb ≠ u2.heap.size by have := V2.out.1; omega)
          clear hz
          refine hK.out _ _ ?s6 (fun hNew => ?r6)
          case s6 => exact T3.out.2.1
          clear hK K hHeld
          have hHeld := hNew
          clear hNew
          generalize World.alloc u2 (.cells #[.int .u16 0, .int .u8 0, .int .u8 0, .int .u8 0, .bool false] 27) = u3 at hHeld B3 V3 T3 P3 ⊢
          generalize u2.heap.size = pb at P3 LP NTP NVP ⊢
          refine wpAnyH_ready (rs := [6]) (by kernel_rfl) (by simp) ?_
          refine (AllReadyH.cons (o := { dst := some 7, op := Go.Op.alloc 27, type := 0, pos := "law.go:110", after := #[], guard := none }) rfl (fun K hK => ?_) AllReadyH.nil)
          · skip
            go_simp
            have hz := own1 u3 (.cells #[.int .u16 0, .int .u8 0, .int .u8 0, .int .u8 0, .bool false] 27)
            have B4 := Lib.hid (vian HN.out B3.out hz)
            have V4 := Lib.hid (V3.out.below hz)
            have T4 := Lib.hid (T3.out.below hz)
            have P4 := Lib.hid (P3.out.below hz)
            have Q4 := Lib.hid (Has.new u3 #[.int .u16 0, .int .u8 0, .int .u8 0, .int .u8 0, .bool false] 27)
            have LQ := Lib.hid (Nat.le_trans HN.out B3.out.size)
            have NTQ := Lib.hid (show tb ≠ u3.heap.size by have := T3.out.1; omega)
            have NVQ := Lib.hid (show vb ≠ u3.heap.size by have := V3.out.1; omega)
            have NPQ := Lib.hid (show pb ≠ u3.heap.size by have := P3.out.1; omega)
            clear hz
            refine hK.out _ _ ?s7 (fun hNew => ?r7)
            case s7 => exact T4.out.2.1
            clear hK K hHeld
            have hHeld := hNew
            clear hNew
            generalize World.alloc u3 (.cells #[.int .u16 0, .int .u8 0, .int .u8 0, .int .u8 0, .bool false] 27) = u4 at hHeld B4 V4 T4 Q4 P4 ⊢
            generalize u3.heap.size = qb at Q4 LQ NTQ NVQ NPQ ⊢
            refine wpAnyH_ready (rs := [7]) (by kernel_rfl) (by simp) ?_
            refine (AllReadyH.cons (o := { dst := none, op := Go.Op.store 27 (Go.Operand.tmp 6) (Go.Operand.tmp 18), type := 0, pos := "law.go:110", after := #[{ on := 5, ground := Go.Ground.data }, { on := 2, ground := Go.Ground.data }, { on := 4, ground := Go.Ground.chain }, { on := 0, ground := Go.Ground.phase }, { on := 1, ground := Go.Ground.phase }, { on := 2, ground := Go.Ground.phase }, { on := 3, ground := Go.Ground.textOnly Go.Departure.lateStores }, { on := 4, ground := Go.Ground.textOnly Go.Departure.lateStoresUnsure }, { on := 5, ground := Go.Ground.phase }, { on := 6, ground := Go.Ground.phase }], guard := none }) rfl (fun K hK => ?_) AllReadyH.nil)
            · skip
              obtain ⟨hcl, hfz⟩ := P4.out.out
              go_simp
              clear hcl hfz
              have P5 := Lib.hid (P4.out.put5 (.int .u16 RA.c) (.int .u8 RA.a) (.int .u8 RA.m) (.int .u8 RA.k) (.bool RA.o))
              have B5 := Lib.hid (set5 B4.out pb LP.out (.int .u16 RA.c) (.int .u8 RA.a) (.int .u8 RA.m) (.int .u8 RA.k) (.bool RA.o))
              have T5 := Lib.hid (T4.out.far5 NTP.out (.int .u16 RA.c) (.int .u8 RA.a) (.int .u8 RA.m) (.int .u8 RA.k) (.bool RA.o))
              have V5 := Lib.hid (V4.out.far5 NVP.out (.int .u16 RA.c) (.int .u8 RA.a) (.int .u8 RA.m) (.int .u8 RA.k) (.bool RA.o))
              have Q5 := Lib.hid (Q4.out.far5 (NPQ.out.symm) (.int .u16 RA.c) (.int .u8 RA.a) (.int .u8 RA.m) (.int .u8 RA.k) (.bool RA.o))
              refine hK.out _ _ ?s8 (fun hNew => ?r8)
              case s8 => exact T5.out.2.1
              clear hK K hHeld
              have hHeld := hNew
              clear hNew
              generalize (World.setCell (World.setCell (World.setCell (World.setCell (World.setCell u4 ⟨pb, 0, none⟩ (.int .u16 RA.c)) ⟨pb, 1, none⟩ (.int .u8 RA.a)) ⟨pb, 2, none⟩ (.int .u8 RA.m)) ⟨pb, 3, none⟩ (.int .u8 RA.k)) ⟨pb, 4, none⟩ (.bool RA.o)) = u5 at hHeld B5 T5 V5 P5 Q5 ⊢
              refine wpAnyH_ready (rs := [8]) (by kernel_rfl) (by simp) ?_
              refine (AllReadyH.cons (o := { dst := none, op := Go.Op.store 27 (Go.Operand.tmp 7) (Go.Operand.tmp 20), type := 0, pos := "law.go:110", after := #[{ on := 6, ground := Go.Ground.data }, { on := 4, ground := Go.Ground.data }, { on := 7, ground := Go.Ground.chain }, { on := 0, ground := Go.Ground.phase }, { on := 1, ground := Go.Ground.phase }, { on := 2, ground := Go.Ground.phase }, { on := 3, ground := Go.Ground.phase }, { on := 4, ground := Go.Ground.phase }, { on := 5, ground := Go.Ground.phase }, { on := 6, ground := Go.Ground.phase }, { on := 7, ground := Go.Ground.phase }], guard := none }) rfl (fun K hK => ?_) AllReadyH.nil)
              · skip
                obtain ⟨hcl, hfz⟩ := Q5.out.out
                go_simp
                clear hcl hfz
                have Q6 := Lib.hid (Q5.out.put5 (.int .u16 RB.c) (.int .u8 RB.a) (.int .u8 RB.m) (.int .u8 RB.k) (.bool RB.o))
                have B6 := Lib.hid (set5 B5.out qb LQ.out (.int .u16 RB.c) (.int .u8 RB.a) (.int .u8 RB.m) (.int .u8 RB.k) (.bool RB.o))
                have T6 := Lib.hid (T5.out.far5 NTQ.out (.int .u16 RB.c) (.int .u8 RB.a) (.int .u8 RB.m) (.int .u8 RB.k) (.bool RB.o))
                have V6 := Lib.hid (V5.out.far5 NVQ.out (.int .u16 RB.c) (.int .u8 RB.a) (.int .u8 RB.m) (.int .u8 RB.k) (.bool RB.o))
                have P6 := Lib.hid (P5.out.far5 (NPQ.out) (.int .u16 RB.c) (.int .u8 RB.a) (.int .u8 RB.m) (.int .u8 RB.k) (.bool RB.o))
                refine hK.out _ _ ?s9 (fun hNew => ?r9)
                case s9 => exact T6.out.2.1
                clear hK K hHeld
                have hHeld := hNew
                clear hNew
                generalize (World.setCell (World.setCell (World.setCell (World.setCell (World.setCell u5 ⟨qb, 0, none⟩ (.int .u16 RB.c)) ⟨qb, 1, none⟩ (.int .u8 RB.a)) ⟨qb, 2, none⟩ (.int .u8 RB.m)) ⟨qb, 3, none⟩ (.int .u8 RB.k)) ⟨qb, 4, none⟩ (.bool RB.o)) = u6 at hHeld B6 T6 V6 P6 Q6 ⊢
                refine wpAnyH_done (by kernel_rfl) ?_ _
                clear hHeld
                go_wp2
                go_meet
                exact ⟨pb, qb, rfl, rfl, B6.out, P6.out, Q6.out, V6.out, T6.out⟩
        · skip
          go_simp
          have hz := own1 u2 (.cells #[.int .u16 0, .int .u8 0, .int .u8 0, .int .u8 0, .bool false] 27)
          have B3 := Lib.hid (vian HN.out B2.out hz)
          have V3 := Lib.hid (V2.out.below hz)
          have T3 := Lib.hid (T2.out.below hz)
          have Q3 := Lib.hid (Has.new u2 #[.int .u16 0, .int .u8 0, .int .u8 0, .int .u8 0, .bool false] 27)
          have LQ := Lib.hid (Nat.le_trans HN.out B2.out.size)
          have NTQ := Lib.hid (show tb ≠ u2.heap.size by have := T2.out.1; omega)
          have NVQ := Lib.hid (show vb ≠ u2.heap.size by have := V2.out.1; omega)
          clear hz
          refine hK.out _ _ ?s10 (fun hNew => ?r10)
          case s10 => exact T3.out.2.1
          clear hK K hHeld
          have hHeld := hNew
          clear hNew
          generalize World.alloc u2 (.cells #[.int .u16 0, .int .u8 0, .int .u8 0, .int .u8 0, .bool false] 27) = u3 at hHeld B3 V3 T3 Q3 ⊢
          generalize u2.heap.size = qb at Q3 LQ NTQ NVQ ⊢
          refine wpAnyH_ready (rs := [5]) (by kernel_rfl) (by simp) ?_
          refine (AllReadyH.cons (o := { dst := some 6, op := Go.Op.alloc 27, type := 0, pos := "law.go:110", after := #[], guard := none }) rfl (fun K hK => ?_) AllReadyH.nil)
          · skip
            go_simp
            have hz := own1 u3 (.cells #[.int .u16 0, .int .u8 0, .int .u8 0, .int .u8 0, .bool false] 27)
            have B4 := Lib.hid (vian HN.out B3.out hz)
            have V4 := Lib.hid (V3.out.below hz)
            have T4 := Lib.hid (T3.out.below hz)
            have Q4 := Lib.hid (Q3.out.below hz)
            have P4 := Lib.hid (Has.new u3 #[.int .u16 0, .int .u8 0, .int .u8 0, .int .u8 0, .bool false] 27)
            have LP := Lib.hid (Nat.le_trans HN.out B3.out.size)
            have NTP := Lib.hid (show tb ≠ u3.heap.size by have := T3.out.1; omega)
            have NVP := Lib.hid (show vb ≠ u3.heap.size by have := V3.out.1; omega)
            have NPQ := Lib.hid (show qb ≠ u3.heap.size by have := Q3.out.1; omega)
            clear hz
            refine hK.out _ _ ?s11 (fun hNew => ?r11)
            case s11 => exact T4.out.2.1
            clear hK K hHeld
            have hHeld := hNew
            clear hNew
            generalize World.alloc u3 (.cells #[.int .u16 0, .int .u8 0, .int .u8 0, .int .u8 0, .bool false] 27) = u4 at hHeld B4 V4 T4 P4 Q4 ⊢
            generalize u3.heap.size = pb at P4 LP NTP NVP NPQ ⊢
            refine wpAnyH_ready (rs := [7]) (by kernel_rfl) (by simp) ?_
            refine (AllReadyH.cons (o := { dst := none, op := Go.Op.store 27 (Go.Operand.tmp 6) (Go.Operand.tmp 18), type := 0, pos := "law.go:110", after := #[{ on := 5, ground := Go.Ground.data }, { on := 2, ground := Go.Ground.data }, { on := 4, ground := Go.Ground.chain }, { on := 0, ground := Go.Ground.phase }, { on := 1, ground := Go.Ground.phase }, { on := 2, ground := Go.Ground.phase }, { on := 3, ground := Go.Ground.textOnly Go.Departure.lateStores }, { on := 4, ground := Go.Ground.textOnly Go.Departure.lateStoresUnsure }, { on := 5, ground := Go.Ground.phase }, { on := 6, ground := Go.Ground.phase }], guard := none }) rfl (fun K hK => ?_) AllReadyH.nil)
            · skip
              obtain ⟨hcl, hfz⟩ := P4.out.out
              go_simp
              clear hcl hfz
              have P5 := Lib.hid (P4.out.put5 (.int .u16 RA.c) (.int .u8 RA.a) (.int .u8 RA.m) (.int .u8 RA.k) (.bool RA.o))
              have B5 := Lib.hid (set5 B4.out pb LP.out (.int .u16 RA.c) (.int .u8 RA.a) (.int .u8 RA.m) (.int .u8 RA.k) (.bool RA.o))
              have T5 := Lib.hid (T4.out.far5 NTP.out (.int .u16 RA.c) (.int .u8 RA.a) (.int .u8 RA.m) (.int .u8 RA.k) (.bool RA.o))
              have V5 := Lib.hid (V4.out.far5 NVP.out (.int .u16 RA.c) (.int .u8 RA.a) (.int .u8 RA.m) (.int .u8 RA.k) (.bool RA.o))
              have Q5 := Lib.hid (Q4.out.far5 (NPQ.out) (.int .u16 RA.c) (.int .u8 RA.a) (.int .u8 RA.m) (.int .u8 RA.k) (.bool RA.o))
              refine hK.out _ _ ?s12 (fun hNew => ?r12)
              case s12 => exact T5.out.2.1
              clear hK K hHeld
              have hHeld := hNew
              clear hNew
              generalize (World.setCell (World.setCell (World.setCell (World.setCell (World.setCell u4 ⟨pb, 0, none⟩ (.int .u16 RA.c)) ⟨pb, 1, none⟩ (.int .u8 RA.a)) ⟨pb, 2, none⟩ (.int .u8 RA.m)) ⟨pb, 3, none⟩ (.int .u8 RA.k)) ⟨pb, 4, none⟩ (.bool RA.o)) = u5 at hHeld B5 T5 V5 P5 Q5 ⊢
              refine wpAnyH_ready (rs := [8]) (by kernel_rfl) (by simp) ?_
              refine (AllReadyH.cons (o := { dst := none, op := Go.Op.store 27 (Go.Operand.tmp 7) (Go.Operand.tmp 20), type := 0, pos := "law.go:110", after := #[{ on := 6, ground := Go.Ground.data }, { on := 4, ground := Go.Ground.data }, { on := 7, ground := Go.Ground.chain }, { on := 0, ground := Go.Ground.phase }, { on := 1, ground := Go.Ground.phase }, { on := 2, ground := Go.Ground.phase }, { on := 3, ground := Go.Ground.phase }, { on := 4, ground := Go.Ground.phase }, { on := 5, ground := Go.Ground.phase }, { on := 6, ground := Go.Ground.phase }, { on := 7, ground := Go.Ground.phase }], guard := none }) rfl (fun K hK => ?_) AllReadyH.nil)
              · skip
                obtain ⟨hcl, hfz⟩ := Q5.out.out
                go_simp
                clear hcl hfz
                have Q6 := Lib.hid (Q5.out.put5 (.int .u16 RB.c) (.int .u8 RB.a) (.int .u8 RB.m) (.int .u8 RB.k) (.bool RB.o))
                have B6 := Lib.hid (set5 B5.out qb LQ.out (.int .u16 RB.c) (.int .u8 RB.a) (.int .u8 RB.m) (.int .u8 RB.k) (.bool RB.o))
                have T6 := Lib.hid (T5.out.far5 NTQ.out (.int .u16 RB.c) (.int .u8 RB.a) (.int .u8 RB.m) (.int .u8 RB.k) (.bool RB.o))
                have V6 := Lib.hid (V5.out.far5 NVQ.out (.int .u16 RB.c) (.int .u8 RB.a) (.int .u8 RB.m) (.int .u8 RB.k) (.bool RB.o))
                have P6 := Lib.hid (P5.out.far5 (NPQ.out.symm) (.int .u16 RB.c) (.int .u8 RB.a) (.int .u8 RB.m) (.int .u8 RB.k) (.bool RB.o))
                refine hK.out _ _ ?s13 (fun hNew => ?r13)
                case s13 => exact T6.out.2.1
                clear hK K hHeld
                have hHeld := hNew
                clear hNew
                generalize (World.setCell (World.setCell (World.setCell (World.setCell (World.setCell u5 ⟨qb, 0, none⟩ (.int .u16 RB.c)) ⟨qb, 1, none⟩ (.int .u8 RB.a)) ⟨qb, 2, none⟩ (.int .u8 RB.m)) ⟨qb, 3, none⟩ (.int .u8 RB.k)) ⟨qb, 4, none⟩ (.bool RB.o)) = u6 at hHeld B6 T6 V6 P6 Q6 ⊢
                refine wpAnyH_done (by kernel_rfl) ?_ _
                clear hHeld
                go_wp2
                go_meet
                exact ⟨pb, qb, rfl, rfl, B6.out, P6.out, Q6.out, V6.out, T6.out⟩
      · skip
        go_simp
        have hz := own1 u1 (.cells #[.int .u16 0, .int .u8 0, .int .u8 0, .int .u8 0, .bool false] 27)
        have B2 := Lib.hid (vian HN.out B1.out hz)
        have V2 := Lib.hid (V1.out.below hz)
        have T2 := Lib.hid (T1.out.below hz)
        have P2 := Lib.hid (Has.new u1 #[.int .u16 0, .int .u8 0, .int .u8 0, .int .u8 0, .bool false] 27)
        have LP := Lib.hid (Nat.le_trans HN.out B1.out.size)
        have NTP := Lib.hid (show tb ≠ u1.heap.size by have := T1.out.1; omega)
        have NVP := Lib.hid (show vb ≠ u1.heap.size by have := V1.out.1; omega)
        clear hz
        refine hK.out _ _ ?s14 (fun hNew => ?r14)
        case s14 => exact T2.out.2.1
        clear hK K hHeld
        have hHeld := hNew
        clear hNew
        generalize World.alloc u1 (.cells #[.int .u16 0, .int .u8 0, .int .u8 0, .int .u8 0, .bool false] 27) = u2 at hHeld B2 V2 T2 P2 ⊢
        generalize u1.heap.size = pb at P2 LP NTP NVP ⊢
        refine wpAnyH_ready (rs := [4, 6]) (by kernel_rfl) (by simp) ?_
        refine (AllReadyH.cons (o := { dst := some 20, op := Go.Op.call { callee := Go.Callee.value (Go.Operand.func 12), args := #[Go.Operand.tmp 19, Go.Operand.const (Go.Value.int Go.IntKind.i64 3), Go.Operand.const (Go.Value.int Go.IntKind.u8 0)], argTypes := #[27, 3, 5] }, type := 27, pos := "law.go:110", after := #[{ on := 3, ground := Go.Ground.data }, { on := 2, ground := Go.Ground.chain }], guard := none }) rfl (fun K hK => ?_) (AllReadyH.cons (o := { dst := some 7, op := Go.Op.alloc 27, type := 0, pos := "law.go:110", after := #[], guard := none }) rfl (fun K hK => ?_) AllReadyH.nil))
        · skip
          go_simp
          with_reducible refine (H2.out _ (TT.out.next B2.out).g).mono ?_
          rintro q_ u3 ⟨rfl, hz⟩
          have B3 := Lib.hid (vian HN.out B2.out hz)
          have V3 := Lib.hid (V2.out.below hz)
          have T3 := Lib.hid (T2.out.below hz)
          have P3 := Lib.hid (P2.out.below hz)
          clear hz
          refine hK.out _ _ ?s15 (fun hNew => ?r15)
          case s15 => exact T3.out.2.1
          clear hK K hHeld
          have hHeld := hNew
          clear hNew
          refine wpAnyH_ready (rs := [6]) (by kernel_rfl) (by simp) ?_
          refine (AllReadyH.cons (o := { dst := some 7, op := Go.Op.alloc 27, type := 0, pos := "law.go:110", after := #[], guard := none }) rfl (fun K hK => ?_) AllReadyH.nil)
          · skip
            go_simp
            have hz := own1 u3 (.cells #[.int .u16 0, .int .u8 0, .int .u8 0, .int .u8 0, .bool false] 27)
            have B4 := Lib.hid (vian HN.out B3.out hz)
            have V4 := Lib.hid (V3.out.below hz)
            have T4 := Lib.hid (T3.out.below hz)
            have P4 := Lib.hid (P3.out.below hz)
            have Q4 := Lib.hid (Has.new u3 #[.int .u16 0, .int .u8 0, .int .u8 0, .int .u8 0, .bool false] 27)
            have LQ := Lib.hid (Nat.le_trans HN.out B3.out.size)
            have NTQ := Lib.hid (show tb ≠ u3.heap.size by have := T3.out.1; omega)
            have NVQ := Lib.hid (show vb ≠ u3.heap.size by have := V3.out.1; omega)
            have NPQ := Lib.hid (show pb ≠ u3.heap.size by have := P3.out.1; omega)
            clear hz
            refine hK.out _ _ ?s16 (fun hNew => ?r16)
            case s16 => exact T4.out.2.1
            clear hK K hHeld
            have hHeld := hNew
            clear hNew
            generalize World.alloc u3 (.cells #[.int .u16 0, .int .u8 0, .int .u8 0, .int .u8 0, .bool false] 27) = u4 at hHeld B4 V4 T4 Q4 P4 ⊢
            generalize u3.heap.size = qb at Q4 LQ NTQ NVQ NPQ ⊢
            refine wpAnyH_ready (rs := [7]) (by kernel_rfl) (by simp) ?_
            refine (AllReadyH.cons (o := { dst := none, op := Go.Op.store 27 (Go.Operand.tmp 6) (Go.Operand.tmp 18), type := 0, pos := "law.go:110", after := #[{ on := 5, ground := Go.Ground.data }, { on := 2, ground := Go.Ground.data }, { on := 4, ground := Go.Ground.chain }, { on := 0, ground := Go.Ground.phase }, { on := 1, ground := Go.Ground.phase }, { on := 2, ground := Go.Ground.phase }, { on := 3, ground := Go.Ground.textOnly Go.Departure.lateStores }, { on := 4, ground := Go.Ground.textOnly Go.Departure.lateStoresUnsure }, { on := 5, ground := Go.Ground.phase }, { on := 6, ground := Go.Ground.phase }], guard := none }) rfl (fun K hK => ?_) AllReadyH.nil)
            · skip
              obtain ⟨hcl, hfz⟩ := P4.out.out
              go_simp
              clear hcl hfz
              have P5 := Lib.hid (P4.out.put5 (.int .u16 RA.c) (.int .u8 RA.a) (.int .u8 RA.m) (.int .u8 RA.k) (.bool RA.o))
              have B5 := Lib.hid (set5 B4.out pb LP.out (.int .u16 RA.c) (.int .u8 RA.a) (.int .u8 RA.m) (.int .u8 RA.k) (.bool RA.o))
              have T5 := Lib.hid (T4.out.far5 NTP.out (.int .u16 RA.c) (.int .u8 RA.a) (.int .u8 RA.m) (.int .u8 RA.k) (.bool RA.o))
              have V5 := Lib.hid (V4.out.far5 NVP.out (.int .u16 RA.c) (.int .u8 RA.a) (.int .u8 RA.m) (.int .u8 RA.k) (.bool RA.o))
              have Q5 := Lib.hid (Q4.out.far5 (NPQ.out.symm) (.int .u16 RA.c) (.int .u8 RA.a) (.int .u8 RA.m) (.int .u8 RA.k) (.bool RA.o))
              refine hK.out _ _ ?s17 (fun hNew => ?r17)
              case s17 => exact T5.out.2.1
              clear hK K hHeld
              have hHeld := hNew
              clear hNew
              generalize (World.setCell (World.setCell (World.setCell (World.setCell (World.setCell u4 ⟨pb, 0, none⟩ (.int .u16 RA.c)) ⟨pb, 1, none⟩ (.int .u8 RA.a)) ⟨pb, 2, none⟩ (.int .u8 RA.m)) ⟨pb, 3, none⟩ (.int .u8 RA.k)) ⟨pb, 4, none⟩ (.bool RA.o)) = u5 at hHeld B5 T5 V5 P5 Q5 ⊢
              refine wpAnyH_ready (rs := [8]) (by kernel_rfl) (by simp) ?_
              refine (AllReadyH.cons (o := { dst := none, op := Go.Op.store 27 (Go.Operand.tmp 7) (Go.Operand.tmp 20), type := 0, pos := "law.go:110", after := #[{ on := 6, ground := Go.Ground.data }, { on := 4, ground := Go.Ground.data }, { on := 7, ground := Go.Ground.chain }, { on := 0, ground := Go.Ground.phase }, { on := 1, ground := Go.Ground.phase }, { on := 2, ground := Go.Ground.phase }, { on := 3, ground := Go.Ground.phase }, { on := 4, ground := Go.Ground.phase }, { on := 5, ground := Go.Ground.phase }, { on := 6, ground := Go.Ground.phase }, { on := 7, ground := Go.Ground.phase }], guard := none }) rfl (fun K hK => ?_) AllReadyH.nil)
              · skip
                obtain ⟨hcl, hfz⟩ := Q5.out.out
                go_simp
                clear hcl hfz
                have Q6 := Lib.hid (Q5.out.put5 (.int .u16 RB.c) (.int .u8 RB.a) (.int .u8 RB.m) (.int .u8 RB.k) (.bool RB.o))
                have B6 := Lib.hid (set5 B5.out qb LQ.out (.int .u16 RB.c) (.int .u8 RB.a) (.int .u8 RB.m) (.int .u8 RB.k) (.bool RB.o))
                have T6 := Lib.hid (T5.out.far5 NTQ.out (.int .u16 RB.c) (.int .u8 RB.a) (.int .u8 RB.m) (.int .u8 RB.k) (.bool RB.o))
                have V6 := Lib.hid (V5.out.far5 NVQ.out (.int .u16 RB.c) (.int .u8 RB.a) (.int .u8 RB.m) (.int .u8 RB.k) (.bool RB.o))
                have P6 := Lib.hid (P5.out.far5 (NPQ.out) (.int .u16 RB.c) (.int .u8 RB.a) (.int .u8 RB.m) (.int .u8 RB.k) (.bool RB.o))
                refine hK.out _ _ ?s18 (fun hNew => ?r18)
                case s18 => exact T6.out.2.1
                clear hK K hHeld
                have hHeld := hNew
                clear hNew
                generalize (World.setCell (World.setCell (World.setCell (World.setCell (World.setCell u5 ⟨qb, 0, none⟩ (.int .u16 RB.c)) ⟨qb, 1, none⟩ (.int .u8 RB.a)) ⟨qb, 2, none⟩ (.int .u8 RB.m)) ⟨qb, 3, none⟩ (.int .u8 RB.k)) ⟨qb, 4, none⟩ (.bool RB.o)) = u6 at hHeld B6 T6 V6 P6 Q6 ⊢
                refine wpAnyH_done (by kernel_rfl) ?_ _
                clear hHeld
                go_wp2
                go_meet
                exact ⟨pb, qb, rfl, rfl, B6.out, P6.out, Q6.out, V6.out, T6.out⟩
        · skip
          go_simp
          have hz := own1 u2 (.cells #[.int .u16 0, .int .u8 0, .int .u8 0, .int .u8 0, .bool false] 27)
          have B3 := Lib.hid (vian HN.out B2.out hz)
          have V3 := Lib.hid (V2.out.below hz)
          have T3 := Lib.hid (T2.out.below hz)
          have P3 := Lib.hid (P2.out.below hz)
          have Q3 := Lib.hid (Has.new u2 #[.int .u16 0, .int .u8 0, .int .u8 0, .int .u8 0, .bool false] 27)
          have LQ := Lib.hid (Nat.le_trans HN.out B2.out.size)
          have NTQ := Lib.hid (show tb ≠ u2.heap.size by have := T2.out.1; omega)
          have NVQ := Lib.hid (show vb ≠ u2.heap.size by have := V2.out.1; omega)
          have NPQ := Lib.hid (show pb ≠ u2.heap.size by have := P2.out.1; omega)
          clear hz
          refine hK.out _ _ ?s19 (fun hNew => ?r19)
          case s19 => exact T3.out.2.1
          clear hK K hHeld
          have hHeld := hNew
          clear hNew
          generalize World.alloc u2 (.cells #[.int .u16 0, .int .u8 0, .int .u8 0, .int .u8 0, .bool false] 27) = u3 at hHeld B3 V3 T3 Q3 P3 ⊢
          generalize u2.heap.size = qb at Q3 LQ NTQ NVQ NPQ ⊢
          refine wpAnyH_ready (rs := [4]) (by kernel_rfl) (by simp) ?_
          refine (AllReadyH.cons (o := { dst := some 20, op := Go.Op.call { callee := Go.Callee.value (Go.Operand.func 12), args := #[Go.Operand.tmp 19, Go.Operand.const (Go.Value.int Go.IntKind.i64 3), Go.Operand.const (Go.Value.int Go.IntKind.u8 0)], argTypes := #[27, 3, 5] }, type := 27, pos := "law.go:110", after := #[{ on := 3, ground := Go.Ground.data }, { on := 2, ground := Go.Ground.chain }], guard := none }) rfl (fun K hK => ?_) AllReadyH.nil)
          · skip
            go_simp
            with_reducible refine (H2.out _ (TT.out.next B3.out).g).mono ?_
            rintro q_ u4 ⟨rfl, hz⟩
            have B4 := Lib.hid (vian HN.out B3.out hz)
            have V4 := Lib.hid (V3.out.below hz)
            have T4 := Lib.hid (T3.out.below hz)
            have P4 := Lib.hid (P3.out.below hz)
            have Q4 := Lib.hid (Q3.out.below hz)
            clear hz
            refine hK.out _ _ ?s20 (fun hNew => ?r20)
            case s20 => exact T4.out.2.1
            clear hK K hHeld
            have hHeld := hNew
            clear hNew
            refine wpAnyH_ready (rs := [7]) (by kernel_rfl) (by simp) ?_
            refine (AllReadyH.cons (o := { dst := none, op := Go.Op.store 27 (Go.Operand.tmp 6) (Go.Operand.tmp 18), type := 0, pos := "law.go:110", after := #[{ on := 5, ground := Go.Ground.data }, { on := 2, ground := Go.Ground.data }, { on := 4, ground := Go.Ground.chain }, { on := 0, ground := Go.Ground.phase }, { on := 1, ground := Go.Ground.phase }, { on := 2, ground := Go.Ground.phase }, { on := 3, ground := Go.Ground.textOnly Go.Departure.lateStores }, { on := 4, ground := Go.Ground.textOnly Go.Departure.lateStoresUnsure }, { on := 5, ground := Go.Ground.phase }, { on := 6, ground := Go.Ground.phase }], guard := none }) rfl (fun K hK => ?_) AllReadyH.nil)
            · skip
              obtain ⟨hcl, hfz⟩ := P4.out.out
              go_simp
              clear hcl hfz
              have P5 := Lib.hid (P4.out.put5 (.int .u16 RA.c) (.int .u8 RA.a) (.int .u8 RA.m) (.int .u8 RA.k) (.bool RA.o))
              have B5 := Lib.hid (set5 B4.out pb LP.out (.int .u16 RA.c) (.int .u8 RA.a) (.int .u8 RA.m) (.int .u8 RA.k) (.bool RA.o))
              have T5 := Lib.hid (T4.out.far5 NTP.out (.int .u16 RA.c) (.int .u8 RA.a) (.int .u8 RA.m) (.int .u8 RA.k) (.bool RA.o))
              have V5 := Lib.hid (V4.out.far5 NVP.out (.int .u16 RA.c) (.int .u8 RA.a) (.int .u8 RA.m) (.int .u8 RA.k) (.bool RA.o))
              have Q5 := Lib.hid (Q4.out.far5 (NPQ.out.symm) (.int .u16 RA.c) (.int .u8 RA.a) (.int .u8 RA.m) (.int .u8 RA.k) (.bool RA.o))
              refine hK.out _ _ ?s21 (fun hNew => ?r21)
              case s21 => exact T5.out.2.1
              clear hK K hHeld
              have hHeld := hNew
              clear hNew
              generalize (World.setCell (World.setCell (World.setCell (World.setCell (World.setCell u4 ⟨pb, 0, none⟩ (.int .u16 RA.c)) ⟨pb, 1, none⟩ (.int .u8 RA.a)) ⟨pb, 2, none⟩ (.int .u8 RA.m)) ⟨pb, 3, none⟩ (.int .u8 RA.k)) ⟨pb, 4, none⟩ (.bool RA.o)) = u5 at hHeld B5 T5 V5 P5 Q5 ⊢
              refine wpAnyH_ready (rs := [8]) (by kernel_rfl) (by simp) ?_
              refine (AllReadyH.cons (o := { dst := none, op := Go.Op.store 27 (Go.Operand.tmp 7) (Go.Operand.tmp 20), type := 0, pos := "law.go:110", after := #[{ on := 6, ground := Go.Ground.data }, { on := 4, ground := Go.Ground.data }, { on := 7, ground := Go.Ground.chain }, { on := 0, ground := Go.Ground.phase }, { on := 1, ground := Go.Ground.phase }, { on := 2, ground := Go.Ground.phase }, { on := 3, ground := Go.Ground.phase }, { on := 4, ground := Go.Ground.phase }, { on := 5, ground := Go.Ground.phase }, { on := 6, ground := Go.Ground.phase }, { on := 7, ground := Go.Ground.phase }], guard := none }) rfl (fun K hK => ?_) AllReadyH.nil)
              · skip
                obtain ⟨hcl, hfz⟩ := Q5.out.out
                go_simp
                clear hcl hfz
                have Q6 := Lib.hid (Q5.out.put5 (.int .u16 RB.c) (.int .u8 RB.a) (.int .u8 RB.m) (.int .u8 RB.k) (.bool RB.o))
                have B6 := Lib.hid (set5 B5.out qb LQ.out (.int .u16 RB.c) (.int .u8 RB.a) (.int .u8 RB.m) (.int .u8 RB.k) (.bool RB.o))
                have T6 := Lib.hid (T5.out.far5 NTQ.out (.int .u16 RB.c) (.int .u8 RB.a) (.int .u8 RB.m) (.int .u8 RB.k) (.bool RB.o))
                have V6 := Lib.hid (V5.out.far5 NVQ.out (.int .u16 RB.c) (.int .u8 RB.a) (.int .u8 RB.m) (.int .u8 RB.k) (.bool RB.o))
                have P6 := Lib.hid (P5.out.far5 (NPQ.out) (.int .u16 RB.c) (.int .u8 RB.a) (.int .u8 RB.m) (.int .u8 RB.k) (.bool RB.o))
                refine hK.out _ _ ?s22 (fun hNew => ?r22)
                case s22 => exact T6.out.2.1
                clear hK K hHeld
                have hHeld := hNew
                clear hNew
                generalize (World.setCell (World.setCell (World.setCell (World.setCell (World.setCell u5 ⟨qb, 0, none⟩ (.int .u16 RB.c)) ⟨qb, 1, none⟩ (.int .u8 RB.a)) ⟨qb, 2, none⟩ (.int .u8 RB.m)) ⟨qb, 3, none⟩ (.int .u8 RB.k)) ⟨qb, 4, none⟩ (.bool RB.o)) = u6 at hHeld B6 T6 V6 P6 Q6 ⊢
                refine wpAnyH_done (by kernel_rfl) ?_ _
                clear hHeld
                go_wp2
                go_meet
                exact ⟨pb, qb, rfl, rfl, B6.out, P6.out, Q6.out, V6.out, T6.out⟩
      · skip
        go_simp
        have hz := own1 u1 (.cells #[.int .u16 0, .int .u8 0, .int .u8 0, .int .u8 0, .bool false] 27)
        have B2 := Lib.hid (vian HN.out B1.out hz)
        have V2 := Lib.hid (V1.out.below hz)
        have T2 := Lib.hid (T1.out.below hz)
        have Q2 := Lib.hid (Has.new u1 #[.int .u16 0, .int .u8 0, .int .u8 0, .int .u8 0, .bool false] 27)
        have LQ := Lib.hid (Nat.le_trans HN.out B1.out.size)
        have NTQ := Lib.hid (show tb ≠ u1.heap.size by have := T1.out.1; omega)
        have NVQ := Lib.hid (show vb ≠ u1.heap.size by have := V1.out.1; omega)
        clear hz
        refine hK.out _ _ ?s23 (fun hNew => ?r23)
        case s23 => exact T2.out.2.1
        clear hK K hHeld
        have hHeld := hNew
        clear hNew
        generalize World.alloc u1 (.cells #[.int .u16 0, .int .u8 0, .int .u8 0, .int .u8 0, .bool false] 27) = u2 at hHeld B2 V2 T2 Q2 ⊢
        generalize u1.heap.size = qb at Q2 LQ NTQ NVQ ⊢
        refine wpAnyH_ready (rs := [4, 5]) (by kernel_rfl) (by simp) ?_
        refine (AllReadyH.cons (o := { dst := some 20, op := Go.Op.call { callee := Go.Callee.value (Go.Operand.func 12), args := #[Go.Operand.tmp 19, Go.Operand.const (Go.Value.int Go.IntKind.i64 3), Go.Operand.const (Go.Value.int Go.IntKind.u8 0)], argTypes := #[27, 3, 5] }, type := 27, pos := "law.go:110", after := #[{ on := 3, ground := Go.Ground.data }, { on := 2, ground := Go.Ground.chain }], guard := none }) rfl (fun K hK => ?_) (AllReadyH.cons (o := { dst := some 6, op := Go.Op.alloc 27, type := 0, pos := "law.go:110", after := #[], guard := none }) rfl (fun K hK => ?_) AllReadyH.nil))
        · skip
          go_simp
          with_reducible refine (H2.out _ (TT.out.next B2.out).g).mono ?_
          rintro q_ u3 ⟨rfl, hz⟩
          have B3 := Lib.hid (vian HN.out B2.out hz)
          have V3 := Lib.hid (V2.out.below hz)
          have T3 := Lib.hid (T2.out.below hz)
          have Q3 := Lib.hid (Q2.out.below hz)
          clear hz
          refine hK.out _ _ ?s24 (fun hNew => ?r24)
          case s24 => exact T3.out.2.1
          clear hK K hHeld
          have hHeld := hNew
          clear hNew
          refine wpAnyH_ready (rs := [5]) (by kernel_rfl) (by simp) ?_
          refine (AllReadyH.cons (o := { dst := some 6, op := Go.Op.alloc 27, type := 0, pos := "law.go:110", after := #[], guard := none }) rfl (fun K hK => ?_) AllReadyH.nil)
          · skip
            go_simp
            have hz := own1 u3 (.cells #[.int .u16 0, .int .u8 0, .int .u8 0, .int .u8 0, .bool false] 27)
            have B4 := Lib.hid (vian HN.out B3.out hz)
            have V4 := Lib.hid (V3.out.below hz)
            have T4 := Lib.hid (T3.out.below hz)
            have Q4 := Lib.hid (Q3.out.below hz)
            have P4 := Lib.hid (Has.new u3 #[.int .u16 0, .int .u8 0, .int .u8 0, .int .u8 0, .bool false] 27)
            have LP := Lib.hid (Nat.le_trans HN.out B3.out.size)
            have NTP := Lib.hid (show tb ≠ u3.heap.size by have := T3.out.1; omega)
            have NVP := Lib.hid (show vb ≠ u3.heap.size by have := V3.out.1; omega)
            have NPQ := Lib.hid (show qb ≠ u3.heap.size by have := Q3.out.1; omega)
            clear hz
            refine hK.out _ _ ?s25 (fun hNew => ?r25)
            case s25 => exact T4.out.2.1
            clear hK K hHeld
            have hHeld := hNew
            clear hNew
            generalize World.alloc u3 (.cells #[.int .u16 0, .int .u8 0, .int .u8 0, .int .u8 0, .bool false] 27) = u4 at hHeld B4 V4 T4 P4 Q4 ⊢
            generalize u3.heap.size = pb at P4 LP NTP NVP NPQ ⊢
            refine wpAnyH_ready (rs := [7]) (by kernel_rfl) (by simp) ?_
            refine (AllReadyH.cons (o := { dst := none, op := Go.Op.store 27 (Go.Operand.tmp 6) (Go.Operand.tmp 18), type := 0, pos := "law.go:110", after := #[{ on := 5, ground := Go.Ground.data }, { on := 2, ground := Go.Ground.data }, { on := 4, ground := Go.Ground.chain }, { on := 0, ground := Go.Ground.phase }, { on := 1, ground := Go.Ground.phase }, { on := 2, ground := Go.Ground.phase }, { on := 3, ground := Go.Ground.textOnly Go.Departure.lateStores }, { on := 4, ground := Go.Ground.textOnly Go.Departure.lateStoresUnsure }, { on := 5, ground := Go.Ground.phase }, { on := 6, ground := Go.Ground.phase }], guard := none }) rfl (fun K hK => ?_) AllReadyH.nil)
            · skip
              obtain ⟨hcl, hfz⟩ := P4.out.out
              go_simp
              clear hcl hfz
              have P5 := Lib.hid (P4.out.put5 (.int .u16 RA.c) (.int .u8 RA.a) (.int .u8 RA.m) (.int .u8 RA.k) (.bool RA.o))
              have B5 := Lib.hid (set5 B4.out pb LP.out (.int .u16 RA.c) (.int .u8 RA.a) (.int .u8 RA.m) (.int .u8 RA.k) (.bool RA.o))
              have T5 := Lib.hid (T4.out.far5 NTP.out (.int .u16 RA.c) (.int .u8 RA.a) (.int .u8 RA.m) (.int .u8 RA.k) (.bool RA.o))
              have V5 := Lib.hid (V4.out.far5 NVP.out (.int .u16 RA.c) (.int .u8 RA.a) (.int .u8 RA.m) (.int .u8 RA.k) (.bool RA.o))
              have Q5 := Lib.hid (Q4.out.far5 (NPQ.out) (.int .u16 RA.c) (.int .u8 RA.a) (.int .u8 RA.m) (.int .u8 RA.k) (.bool RA.o))
              refine hK.out _ _ ?s26 (fun hNew => ?r26)
              case s26 => exact T5.out.2.1
              clear hK K hHeld
              have hHeld := hNew
              clear hNew
              generalize (World.setCell (World.setCell (World.setCell (World.setCell (World.setCell u4 ⟨pb, 0, none⟩ (.int .u16 RA.c)) ⟨pb, 1, none⟩ (.int .u8 RA.a)) ⟨pb, 2, none⟩ (.int .u8 RA.m)) ⟨pb, 3, none⟩ (.int .u8 RA.k)) ⟨pb, 4, none⟩ (.bool RA.o)) = u5 at hHeld B5 T5 V5 P5 Q5 ⊢
              refine wpAnyH_ready (rs := [8]) (by kernel_rfl) (by simp) ?_
              refine (AllReadyH.cons (o := { dst := none, op := Go.Op.store 27 (Go.Operand.tmp 7) (Go.Operand.tmp 20), type := 0, pos := "law.go:110", after := #[{ on := 6, ground := Go.Ground.data }, { on := 4, ground := Go.Ground.data }, { on := 7, ground := Go.Ground.chain }, { on := 0, ground := Go.Ground.phase }, { on := 1, ground := Go.Ground.phase }, { on := 2, ground := Go.Ground.phase }, { on := 3, ground := Go.Ground.phase }, { on := 4, ground := Go.Ground.phase }, { on := 5, ground := Go.Ground.phase }, { on := 6, ground := Go.Ground.phase }, { on := 7, ground := Go.Ground.phase }], guard := none }) rfl (fun K hK => ?_) AllReadyH.nil)
              · skip
                obtain ⟨hcl, hfz⟩ := Q5.out.out
                go_simp
                clear hcl hfz
                have Q6 := Lib.hid (Q5.out.put5 (.int .u16 RB.c) (.int .u8 RB.a) (.int .u8 RB.m) (.int .u8 RB.k) (.bool RB.o))
                have B6 := Lib.hid (set5 B5.out qb LQ.out (.int .u16 RB.c) (.int .u8 RB.a) (.int .u8 RB.m) (.int .u8 RB.k) (.bool RB.o))
                have T6 := Lib.hid (T5.out.far5 NTQ.out (.int .u16 RB.c) (.int .u8 RB.a) (.int .u8 RB.m) (.int .u8 RB.k) (.bool RB.o))
                have V6 := Lib.hid (V5.out.far5 NVQ.out (.int .u16 RB.c) (.int .u8 RB.a) (.int .u8 RB.m) (.int .u8 RB.k) (.bool RB.o))
                have P6 := Lib.hid (P5.out.far5 (NPQ.out.symm) (.int .u16 RB.c) (.int .u8 RB.a) (.int .u8 RB.m) (.int .u8 RB.k) (.bool RB.o))
                refine hK.out _ _ ?s27 (fun hNew => ?r27)
                case s27 => exact T6.out.2.1
                clear hK K hHeld
                have hHeld := hNew
                clear hNew
                generalize (World.setCell (World.setCell (World.setCell (World.setCell (World.setCell u5 ⟨qb, 0, none⟩ (.int .u16 RB.c)) ⟨qb, 1, none⟩ (.int .u8 RB.a)) ⟨qb, 2, none⟩ (.int .u8 RB.m)) ⟨qb, 3, none⟩ (.int .u8 RB.k)) ⟨qb, 4, none⟩ (.bool RB.o)) = u6 at hHeld B6 T6 V6 P6 Q6 ⊢
                refine wpAnyH_done (by kernel_rfl) ?_ _
                clear hHeld
                go_wp2
                go_meet
                exact ⟨pb, qb, rfl, rfl, B6.out, P6.out, Q6.out, V6.out, T6.out⟩
        · skip
          go_simp
          have hz := own1 u2 (.cells #[.int .u16 0, .int .u8 0, .int .u8 0, .int .u8 0, .bool false] 27)
          have B3 := Lib.hid (vian HN.out B2.out hz)
          have V3 := Lib.hid (V2.out.below hz)
          have T3 := Lib.hid (T2.out.below hz)
          have Q3 := Lib.hid (Q2.out.below hz)
          have P3 := Lib.hid (Has.new u2 #[.int .u16 0, .int .u8 0, .int .u8 0, .int .u8 0, .bool false] 27)
          have LP := Lib.hid (Nat.le_trans HN.out B2.out.size)
          have NTP := Lib.hid (show tb ≠ u2.heap.size by have := T2.out.1; omega)
          have NVP := Lib.hid (show vb ≠ u2.heap.size by have := V2.out.1; omega)
          have NPQ := Lib.hid (show qb ≠ u2.heap.size by have := Q2.out.1; omega)
          clear hz
          refine hK.out _ _ ?s28 (fun hNew => ?r28)
          case s28 => exact T3.out.2.1
          clear hK K hHeld
          have hHeld := hNew
          clear hNew
          generalize World.alloc u2 (.cells #[.int .u16 0, .int .u8 0, .int .u8 0, .int .u8 0, .bool false] 27) = u3 at hHeld B3 V3 T3 P3 Q3 ⊢
          generalize u2.heap.size = pb at P3 LP NTP NVP NPQ ⊢
          refine wpAnyH_ready (rs := [4]) (by kernel_rfl) (by simp) ?_
          refine (AllReadyH.cons (o := { dst := some 20, op := Go.Op.call { callee := Go.Callee.value (Go.Operand.func 12), args := #[Go.Operand.tmp 19, Go.Operand.const (Go.Value.int Go.IntKind.i64 3), Go.Operand.const (Go.Value.int Go.IntKind.u8 0)], argTypes := #[27, 3, 5] }, type := 27, pos := "law.go:110", after := #[{ on := 3, ground := Go.Ground.data }, { on := 2, ground := Go.Ground.chain }], guard := none }) rfl (fun K hK => ?_) AllReadyH.nil)
          · skip
            go_simp
            with_reducible refine (H2.out _ (TT.out.next B3.out).g).mono ?_
            rintro q_ u4 ⟨rfl, hz⟩
            have B4 := Lib.hid (vian HN.out B3.out hz)
            have V4 := Lib.hid (V3.out.below hz)
            have T4 := Lib.hid (T3.out.below hz)
            have P4 := Lib.hid (P3.out.below hz)
            have Q4 := Lib.hid (Q3.out.below hz)
            clear hz
            refine hK.out _ _ ?s29 (fun hNew => ?r29)
            case s29 => exact T4.out.2.1
            clear hK K hHeld
            have hHeld := hNew
            clear hNew
            refine wpAnyH_ready (rs := [7]) (by kernel_rfl) (by simp) ?_
            refine (AllReadyH.cons (o := { dst := none, op := Go.Op.store 27 (Go.Operand.tmp 6) (Go.Operand.tmp 18), type := 0, pos := "law.go:110", after := #[{ on := 5, ground := Go.Ground.data }, { on := 2, ground := Go.Ground.data }, { on := 4, ground := Go.Ground.chain }, { on := 0, ground := Go.Ground.phase }, { on := 1, ground := Go.Ground.phase }, { on := 2, ground := Go.Ground.phase }, { on := 3, ground := Go.Ground.textOnly Go.Departure.lateStores }, { on := 4, ground := Go.Ground.textOnly Go.Departure.lateStoresUnsure }, { on := 5, ground := Go.Ground.phase }, { on := 6, ground := Go.Ground.phase }], guard := none }) rfl (fun K hK => ?_) AllReadyH.nil)
            · skip
              obtain ⟨hcl, hfz⟩ := P4.out.out
              go_simp
              clear hcl hfz
              have P5 := Lib.hid (P4.out.put5 (.int .u16 RA.c) (.int .u8 RA.a) (.int .u8 RA.m) (.int .u8 RA.k) (.bool RA.o))
              have B5 := Lib.hid (set5 B4.out pb LP.out (.int .u16 RA.c) (.int .u8 RA.a) (.int .u8 RA.m) (.int .u8 RA.k) (.bool RA.o))
              have T5 := Lib.hid (T4.out.far5 NTP.out (.int .u16 RA.c) (.int .u8 RA.a) (.int .u8 RA.m) (.int .u8 RA.k) (.bool RA.o))
              have V5 := Lib.hid (V4.out.far5 NVP.out (.int .u16 RA.c) (.int .u8 RA.a) (.int .u8 RA.m) (.int .u8 RA.k) (.bool RA.o))
              have Q5 := Lib.hid (Q4.out.far5 (NPQ.out) (.int .u16 RA.c) (.int .u8 RA.a) (.int .u8 RA.m) (.int .u8 RA.k) (.bool RA.o))
              refine hK.out _ _ ?s30 (fun hNew => ?r30)
              case s30 => exact T5.out.2.1
              clear hK K hHeld
              have hHeld := hNew
              clear hNew
              generalize (World.setCell (World.setCell (World.setCell (World.setCell (World.setCell u4 ⟨pb, 0, none⟩ (.int .u16 RA.c)) ⟨pb, 1, none⟩ (.int .u8 RA.a)) ⟨pb, 2, none⟩ (.int .u8 RA.m)) ⟨pb, 3, none⟩ (.int .u8 RA.k)) ⟨pb, 4, none⟩ (.bool RA.o)) = u5 at hHeld B5 T5 V5 P5 Q5 ⊢
              refine wpAnyH_ready (rs := [8]) (by kernel_rfl) (by simp) ?_
              refine (AllReadyH.cons (o := { dst := none, op := Go.Op.store 27 (Go.Operand.tmp 7) (Go.Operand.tmp 20), type := 0, pos := "law.go:110", after := #[{ on := 6, ground := Go.Ground.data }, { on := 4, ground := Go.Ground.data }, { on := 7, ground := Go.Ground.chain }, { on := 0, ground := Go.Ground.phase }, { on := 1, ground := Go.Ground.phase }, { on := 2, ground := Go.Ground.phase }, { on := 3, ground := Go.Ground.phase }, { on := 4, ground := Go.Ground.phase }, { on := 5, ground := Go.Ground.phase }, { on := 6, ground := Go.Ground.phase }, { on := 7, ground := Go.Ground.phase }], guard := none }) rfl (fun K hK => ?_) AllReadyH.nil)
              · skip
                obtain ⟨hcl, hfz⟩ := Q5.out.out
                go_simp
                clear hcl hfz
                have Q6 := Lib.hid (Q5.out.put5 (.int .u16 RB.c) (.int .u8 RB.a) (.int .u8 RB.m) (.int .u8 RB.k) (.bool RB.o))
                have B6 := Lib.hid (set5 B5.out qb LQ.out (.int .u16 RB.c) (.int .u8 RB.a) (.int .u8 RB.m) (.int .u8 RB.k) (.bool RB.o))
                have T6 := Lib.hid (T5.out.far5 NTQ.out (.int .u16 RB.c) (.int .u8 RB.a) (.int .u8 RB.m) (.int .u8 RB.k) (.bool RB.o))
                have V6 := Lib.hid (V5.out.far5 NVQ.out (.int .u16 RB.c) (.int .u8 RB.a) (.int .u8 RB.m) (.int .u8 RB.k) (.bool RB.o))
                have P6 := Lib.hid (P5.out.far5 (NPQ.out.symm) (.int .u16 RB.c) (.int .u8 RB.a) (.int .u8 RB.m) (.int .u8 RB.k) (.bool RB.o))
                refine hK.out _ _ ?s31 (fun hNew => ?r31)
                case s31 => exact T6.out.2.1
                clear hK K hHeld
                have hHeld := hNew
                clear hNew
                generalize (World.setCell (World.setCell (World.setCell (World.setCell (World.setCell u5 ⟨qb, 0, none⟩ (.int .u16 RB.c)) ⟨qb, 1, none⟩ (.int .u8 RB.a)) ⟨qb, 2, none⟩ (.int .u8 RB.m)) ⟨qb, 3, none⟩ (.int .u8 RB.k)) ⟨qb, 4, none⟩ (.bool RB.o)) = u6 at hHeld B6 T6 V6 P6 Q6 ⊢
                refine wpAnyH_done (by kernel_rfl) ?_ _
                clear hHeld
                go_wp2
                go_meet
                exact ⟨pb, qb, rfl, rfl, B6.out, P6.out, Q6.out, V6.out, T6.out⟩
    · skip
      go_simp
      have hz := own1 u0 (.cells #[.int .u16 0, .int .u8 0, .int .u8 0, .int .u8 0, .bool false] 27)
      have B1 := Lib.hid (vian HN.out B0.out hz)
      have V1 := Lib.hid (V0.out.below hz)
      have T1 := Lib.hid (T0.out.below hz)
      have P1 := Lib.hid (Has.new u0 #[.int .u16 0, .int .u8 0, .int .u8 0, .int .u8 0, .bool false] 27)
      have LP := Lib.hid (Nat.le_trans HN.out B0.out.size)
      have NTP := Lib.hid (show tb ≠ u0.heap.size by have := T0.out.1; omega)
      have NVP := Lib.hid (show vb ≠ u0.heap.size by have := V0.out.1; omega)
      clear hz
      refine hK.out _ _ ?s32 (fun hNew => ?r32)
      case s32 => exact T1.out.2.1
      clear hK K hHeld
      have hHeld := hNew
      clear hNew
      generalize World.alloc u0 (.cells #[.int .u16 0, .int .u8 0, .int .u8 0, .int .u8 0, .bool false] 27) = u1 at hHeld B1 V1 T1 P1 ⊢
      generalize u0.heap.size = pb at P1 LP NTP NVP ⊢
      refine wpAnyH_ready (rs := [2, 6]) (by kernel_rfl) (by simp) ?_
      refine (AllReadyH.cons (o := { dst := some 18, op := Go.Op.call { callee := Go.Callee.value (Go.Operand.func 12), args := #[Go.Operand.tmp 16, Go.Operand.const (Go.Value.int Go.IntKind.i64 0), Go.Operand.tmp 17], argTypes := #[27, 3, 5] }, type := 27, pos := "law.go:110", after := #[{ on := 0, ground := Go.Ground.data }, { on := 1, ground := Go.Ground.data }], guard := none }) rfl (fun K hK => ?_) (AllReadyH.cons (o := { dst := some 7, op := Go.Op.alloc 27, type := 0, pos := "law.go:110", after := #[], guard := none }) rfl (fun K hK => ?_) AllReadyH.nil))
      · skip
        go_simp
        with_reducible refine (H1.out _ (TT.out.next B1.out).g).mono ?_
        rintro q_ u2 ⟨rfl, hz⟩
        have B2 := Lib.hid (vian HN.out B1.out hz)
        have V2 := Lib.hid (V1.out.below hz)
        have T2 := Lib.hid (T1.out.below hz)
        have P2 := Lib.hid (P1.out.below hz)
        clear hz
        refine hK.out _ _ ?s33 (fun hNew => ?r33)
        case s33 => exact T2.out.2.1
        clear hK K hHeld
        have hHeld := hNew
        clear hNew
        refine wpAnyH_ready (rs := [4, 6]) (by kernel_rfl) (by simp) ?_
        refine (AllReadyH.cons (o := { dst := some 20, op := Go.Op.call { callee := Go.Callee.value (Go.Operand.func 12), args := #[Go.Operand.tmp 19, Go.Operand.const (Go.Value.int Go.IntKind.i64 3), Go.Operand.const (Go.Value.int Go.IntKind.u8 0)], argTypes := #[27, 3, 5] }, type := 27, pos := "law.go:110", after := #[{ on := 3, ground := Go.Ground.data }, { on := 2, ground := Go.Ground.chain }], guard := none }) rfl (fun K hK => ?_) (AllReadyH.cons (o := { dst := some 7, op := Go.Op.alloc 27, type := 0, pos := "law.go:110", after := #[], guard := none }) rfl (fun K hK => ?_) AllReadyH.nil))
        · skip
          go_simp
          with_reducible refine (H2.out _ (TT.out.next B2.out).g).mono ?_
          rintro q_ u3 ⟨rfl, hz⟩
          have B3 := Lib.hid (vian HN.out B2.out hz)
          have V3 := Lib.hid (V2.out.below hz)
          have T3 := Lib.hid (T2.out.below hz)
          have P3 := Lib.hid (P2.out.below hz)
          clear hz
          refine hK.out _ _ ?s34 (fun hNew => ?r34)
          case s34 => exact T3.out.2.1
          clear hK K hHeld
          have hHeld := hNew
          clear hNew
          refine wpAnyH_ready (rs := [6]) (by kernel_rfl) (by simp) ?_
          refine (AllReadyH.cons (o := { dst := some 7, op := Go.Op.alloc 27, type := 0, pos := "law.go:110", after := #[], guard := none }) rfl (fun K hK => ?_) AllReadyH.nil)
          · skip
            go_simp
            have hz := own1 u3 (.cells #[.int .u16 0, .int .u8 0, .int .u8 0, .int .u8 0, .bool false] 27)
            have B4 := Lib.hid (vian HN.out B3.out hz)
            have V4 := Lib.hid (V3.out.below hz)
            have T4 := Lib.hid (T3.out.below hz)
            have P4 := Lib.hid (P3.out.below hz)
            have Q4 := Lib.hid (Has.new u3 #[.int .u16 0, .int .u8 0, .int .u8 0, .int .u8 0, .bool false] 27)
            have LQ := Lib.hid (Nat.le_trans HN.out B3.out.size)
            have NTQ := Lib.hid (show tb ≠ u3.heap.size by have := T3.out.1; omega)
            have NVQ := Lib.hid (show vb ≠ u3.heap.size by have := V3.out.1; omega)
            have NPQ := Lib.hid (show pb ≠ u3.heap.size by have := P3.out.1; omega)
            clear hz
            refine hK.out _ _ ?s35 (fun hNew => ?r35)
            case s35 => exact T4.out.2.1
            clear hK K hHeld
            have hHeld := hNew
            clear hNew
            generalize World.alloc u3 (.cells #[.int .u16 0, .int .u8 0, .int .u8 0, .int .u8 0, .bool false] 27) = u4 at hHeld B4 V4 T4 Q4 P4 ⊢
            generalize u3.heap.size = qb at Q4 LQ NTQ NVQ NPQ ⊢
            refine wpAnyH_ready (rs := [7]) (by kernel_rfl) (by simp) ?_
            refine (AllReadyH.cons (o := { dst := none, op := Go.Op.store 27 (Go.Operand.tmp 6) (Go.Operand.tmp 18), type := 0, pos := "law.go:110", after := #[{ on := 5, ground := Go.Ground.data }, { on := 2, ground := Go.Ground.data }, { on := 4, ground := Go.Ground.chain }, { on := 0, ground := Go.Ground.phase }, { on := 1, ground := Go.Ground.phase }, { on := 2, ground := Go.Ground.phase }, { on := 3, ground := Go.Ground.textOnly Go.Departure.lateStores }, { on := 4, ground := Go.Ground.textOnly Go.Departure.lateStoresUnsure }, { on := 5, ground := Go.Ground.phase }, { on := 6, ground := Go.Ground.phase }], guard := none }) rfl (fun K hK => ?_) AllReadyH.nil)
            · skip
              obtain ⟨hcl, hfz⟩ := P4.out.out
              go_simp
              clear hcl hfz
              have P5 := Lib.hid (P4.out.put5 (.int .u16 RA.c) (.int .u8 RA.a) (.int .u8 RA.m) (.int .u8 RA.k) (.bool RA.o))
              have B5 := Lib.hid (set5 B4.out pb LP.out (.int .u16 RA.c) (.int .u8 RA.a) (.int .u8 RA.m) (.int .u8 RA.k) (.bool RA.o))
              have T5 := Lib.hid (T4.out.far5 NTP.out (.int .u16 RA.c) (.int .u8 RA.a) (.int .u8 RA.m) (.int .u8 RA.k) (.bool RA.o))
              have V5 := Lib.hid (V4.out.far5 NVP.out (.int .u16 RA.c) (.int .u8 RA.a) (.int .u8 RA.m) (.int .u8 RA.k) (.bool RA.o))
              have Q5 := Lib.hid (Q4.out.far5 (NPQ.out.symm) (.int .u16 RA.c) (.int .u8 RA.a) (.int .u8 RA.m) (.int .u8 RA.k) (.bool RA.o))
              refine hK.out _ _ ?s36 (fun hNew => ?r36)
              case s36 => exact T5.out.2.1
              clear hK K hHeld
              have hHeld := hNew
              clear hNew
              generalize (World.setCell (World.setCell (World.setCell (World.setCell (World.setCell u4 ⟨pb, 0, none⟩ (.int .u16 RA.c)) ⟨pb, 1, none⟩ (.int .u8 RA.a)) ⟨pb, 2, none⟩ (.int .u8 RA.m)) ⟨pb, 3, none⟩ (.int .u8 RA.k)) ⟨pb, 4, none⟩ (.bool RA.o)) = u5 at hHeld B5 T5 V5 P5 Q5 ⊢
              refine wpAnyH_ready (rs := [8]) (by kernel_rfl) (by simp) ?_
              refine (AllReadyH.cons (o := { dst := none, op := Go.Op.store 27 (Go.Operand.tmp 7) (Go.Operand.tmp 20), type := 0, pos := "law.go:110", after := #[{ on := 6, ground := Go.Ground.data }, { on := 4, ground := Go.Ground.data }, { on := 7, ground := Go.Ground.chain }, { on := 0, ground := Go.Ground.phase }, { on := 1, ground := Go.Ground.phase }, { on := 2, ground := Go.Ground.phase }, { on := 3, ground := Go.Ground.phase }, { on := 4, ground := Go.Ground.phase }, { on := 5, ground := Go.Ground.phase }, { on := 6, ground := Go.Ground.phase }, { on := 7, ground := Go.Ground.phase }], guard := none }) rfl (fun K hK => ?_) AllReadyH.nil)
              · skip
                obtain ⟨hcl, hfz⟩ := Q5.out.out
                go_simp
                clear hcl hfz
                have Q6 := Lib.hid (Q5.out.put5 (.int .u16 RB.c) (.int .u8 RB.a) (.int .u8 RB.m) (.int .u8 RB.k) (.bool RB.o))
                have B6 := Lib.hid (set5 B5.out qb LQ.out (.int .u16 RB.c) (.int .u8 RB.a) (.int .u8 RB.m) (.int .u8 RB.k) (.bool RB.o))
                have T6 := Lib.hid (T5.out.far5 NTQ.out (.int .u16 RB.c) (.int .u8 RB.a) (.int .u8 RB.m) (.int .u8 RB.k) (.bool RB.o))
                have V6 := Lib.hid (V5.out.far5 NVQ.out (.int .u16 RB.c) (.int .u8 RB.a) (.int .u8 RB.m) (.int .u8 RB.k) (.bool RB.o))
                have P6 := Lib.hid (P5.out.far5 (NPQ.out) (.int .u16 RB.c) (.int .u8 RB.a) (.int .u8 RB.m) (.int .u8 RB.k) (.bool RB.o))
                refine hK.out _ _ ?s37 (fun hNew => ?r37)
                case s37 => exact T6.out.2.1
                clear hK K hHeld
                have hHeld := hNew
                clear hNew
                generalize (World.setCell (World.setCell (World.setCell (World.setCell (World.setCell u5 ⟨qb, 0, none⟩ (.int .u16 RB.c)) ⟨qb, 1, none⟩ (.int .u8 RB.a)) ⟨qb, 2, none⟩ (.int .u8 RB.m)) ⟨qb, 3, none⟩ (.int .u8 RB.k)) ⟨qb, 4, none⟩ (.bool RB.o)) = u6 at hHeld B6 T6 V6 P6 Q6 ⊢
                refine wpAnyH_done (by kernel_rfl) ?_ _
                clear hHeld
                go_wp2
                go_meet
                exact ⟨pb, qb, rfl, rfl, B6.out, P6.out, Q6.out, V6.out, T6.out⟩
        · skip
          go_simp
          have hz := own1 u2 (.cells #[.int .u16 0, .int .u8 0, .int .u8 0, .int .u8 0, .bool false] 27)
          have B3 := Lib.hid (vian HN.out B2.out hz)
          have V3 := Lib.hid (V2.out.below hz)
          have T3 := Lib.hid (T2.out.below hz)
          have P3 := Lib.hid (P2.out.below hz)
          have Q3 := Lib.hid (Has.new u2 #[.int .u16 0, .int .u8 0, .int .u8 0, .int .u8 0, .bool false] 27)
          have LQ := Lib.hid (Nat.le_trans HN.out B2.out.size)
          have NTQ := Lib.hid (show tb ≠ u2.heap.size by have := T2.out.1; omega)
          have NVQ := Lib.hid (show vb ≠ u2.heap.size by have := V2.out.1; omega)
          have NPQ := Lib.hid (show pb ≠ u2.heap.size by have := P2.out.1; omega)
          clear hz
          refine hK.out _ _ ?s38 (fun hNew => ?r38)
          case s38 => exact T3.out.2.1
          clear hK K hHeld
          have hHeld := hNew
          clear hNew
          generalize World.alloc u2 (.cells #[.int .u16 0, .int .u8 0, .int .u8 0, .int .u8 0, .bool false] 27) = u3 at hHeld B3 V3 T3 Q3 P3 ⊢
          generalize u2.heap.size = qb at Q3 LQ NTQ NVQ NPQ ⊢
          refine wpAnyH_ready (rs := [4]) (by kernel_rfl) (by simp) ?_
          refine (AllReadyH.cons (o := { dst := some 20, op := Go.Op.call { callee := Go.Callee.value (Go.Operand.func 12), args := #[Go.Operand.tmp 19, Go.Operand.const (Go.Value.int Go.IntKind.i64 3), Go.Operand.const (Go.Value.int Go.IntKind.u8 0)], argTypes := #[27, 3, 5] }, type := 27, pos := "law.go:110", after := #[{ on := 3, ground := Go.Ground.data }, { on := 2, ground := Go.Ground.chain }], guard := none }) rfl (fun K hK => ?_) AllReadyH.nil)
          · skip
            go_simp
            with_reducible refine (H2.out _ (TT.out.next B3.out).g).mono ?_
            rintro q_ u4 ⟨rfl, hz⟩
            have B4 := Lib.hid (vian HN.out B3.out hz)
            have V4 := Lib.hid (V3.out.below hz)
            have T4 := Lib.hid (T3.out.below hz)
            have P4 := Lib.hid (P3.out.below hz)
            have Q4 := Lib.hid (Q3.out.below hz)
            clear hz
            refine hK.out _ _ ?s39 (fun hNew => ?r39)
            case s39 => exact T4.out.2.1
            clear hK K hHeld
            have hHeld := hNew
            clear hNew
            refine wpAnyH_ready (rs := [7]) (by kernel_rfl) (by simp) ?_
            refine (AllReadyH.cons (o := { dst := none, op := Go.Op.store 27 (Go.Operand.tmp 6) (Go.Operand.tmp 18), type := 0, pos := "law.go:110", after := #[{ on := 5, ground := Go.Ground.data }, { on := 2, ground := Go.Ground.data }, { on := 4, ground := Go.Ground.chain }, { on := 0, ground := Go.Ground.phase }, { on := 1, ground := Go.Ground.phase }, { on := 2, ground := Go.Ground.phase }, { on := 3, ground := Go.Ground.textOnly Go.Departure.lateStores }, { on := 4, ground := Go.Ground.textOnly Go.Departure.lateStoresUnsure }, { on := 5, ground := Go.Ground.phase }, { on := 6, ground := Go.Ground.phase }], guard := none }) rfl (fun K hK => ?_) AllReadyH.nil)
            · skip
              obtain ⟨hcl, hfz⟩ := P4.out.out
              go_simp
              clear hcl hfz
              have P5 := Lib.hid (P4.out.put5 (.int .u16 RA.c) (.int .u8 RA.a) (.int .u8 RA.m) (.int .u8 RA.k) (.bool RA.o))
              have B5 := Lib.hid (set5 B4.out pb LP.out (.int .u16 RA.c) (.int .u8 RA.a) (.int .u8 RA.m) (.int .u8 RA.k) (.bool RA.o))
              have T5 := Lib.hid (T4.out.far5 NTP.out (.int .u16 RA.c) (.int .u8 RA.a) (.int .u8 RA.m) (.int .u8 RA.k) (.bool RA.o))
              have V5 := Lib.hid (V4.out.far5 NVP.out (.int .u16 RA.c) (.int .u8 RA.a) (.int .u8 RA.m) (.int .u8 RA.k) (.bool RA.o))
              have Q5 := Lib.hid (Q4.out.far5 (NPQ.out.symm) (.int .u16 RA.c) (.int .u8 RA.a) (.int .u8 RA.m) (.int .u8 RA.k) (.bool RA.o))
              refine hK.out _ _ ?s40 (fun hNew => ?r40)
              case s40 => exact T5.out.2.1
              clear hK K hHeld
              have hHeld := hNew
              clear hNew
              generalize (World.setCell (World.setCell (World.setCell (World.setCell (World.setCell u4 ⟨pb, 0, none⟩ (.int .u16 RA.c)) ⟨pb, 1, none⟩ (.int .u8 RA.a)) ⟨pb, 2, none⟩ (.int .u8 RA.m)) ⟨pb, 3, none⟩ (.int .u8 RA.k)) ⟨pb, 4, none⟩ (.bool RA.o)) = u5 at hHeld B5 T5 V5 P5 Q5 ⊢
              refine wpAnyH_ready (rs := [8]) (by kernel_rfl) (by simp) ?_
              refine (AllReadyH.cons (o := { dst := none, op := Go.Op.store 27 (Go.Operand.tmp 7) (Go.Operand.tmp 20), type := 0, pos := "law.go:110", after := #[{ on := 6, ground := Go.Ground.data }, { on := 4, ground := Go.Ground.data }, { on := 7, ground := Go.Ground.chain }, { on := 0, ground := Go.Ground.phase }, { on := 1, ground := Go.Ground.phase }, { on := 2, ground := Go.Ground.phase }, { on := 3, ground := Go.Ground.phase }, { on := 4, ground := Go.Ground.phase }, { on := 5, ground := Go.Ground.phase }, { on := 6, ground := Go.Ground.phase }, { on := 7, ground := Go.Ground.phase }], guard := none }) rfl (fun K hK => ?_) AllReadyH.nil)
              · skip
                obtain ⟨hcl, hfz⟩ := Q5.out.out
                go_simp
                clear hcl hfz
                have Q6 := Lib.hid (Q5.out.put5 (.int .u16 RB.c) (.int .u8 RB.a) (.int .u8 RB.m) (.int .u8 RB.k) (.bool RB.o))
                have B6 := Lib.hid (set5 B5.out qb LQ.out (.int .u16 RB.c) (.int .u8 RB.a) (.int .u8 RB.m) (.int .u8 RB.k) (.bool RB.o))
                have T6 := Lib.hid (T5.out.far5 NTQ.out (.int .u16 RB.c) (.int .u8 RB.a) (.int .u8 RB.m) (.int .u8 RB.k) (.bool RB.o))
                have V6 := Lib.hid (V5.out.far5 NVQ.out (.int .u16 RB.c) (.int .u8 RB.a) (.int .u8 RB.m) (.int .u8 RB.k) (.bool RB.o))
                have P6 := Lib.hid (P5.out.far5 (NPQ.out) (.int .u16 RB.c) (.int .u8 RB.a) (.int .u8 RB.m) (.int .u8 RB.k) (.bool RB.o))
                refine hK.out _ _ ?s41 (fun hNew => ?r41)
                case s41 => exact T6.out.2.1
                clear hK K hHeld
                have hHeld := hNew
                clear hNew
                generalize (World.setCell (World.setCell (World.setCell (World.setCell (World.setCell u5 ⟨qb, 0, none⟩ (.int .u16 RB.c)) ⟨qb, 1, none⟩ (.int .u8 RB.a)) ⟨qb, 2, none⟩ (.int .u8 RB.m)) ⟨qb, 3, none⟩ (.int .u8 RB.k)) ⟨qb, 4, none⟩ (.bool RB.o)) = u6 at hHeld B6 T6 V6 P6 Q6 ⊢
                refine wpAnyH_done (by kernel_rfl) ?_ _
                clear hHeld
                go_wp2
                go_meet
                exact ⟨pb, qb, rfl, rfl, B6.out, P6.out, Q6.out, V6.out, T6.out⟩
      · skip
        go_simp
        have hz := own1 u1 (.cells #[.int .u16 0, .int .u8 0, .int .u8 0, .int .u8 0, .bool false] 27)
        have B2 := Lib.hid (vian HN.out B1.out hz)
        have V2 := Lib.hid (V1.out.below hz)
        have T2 := Lib.hid (T1.out.below hz)
        have P2 := Lib.hid (P1.out.below hz)
        have Q2 := Lib.hid (Has.new u1 #[.int .u16 0, .int .u8 0, .int .u8 0, .int .u8 0, .bool false] 27)
        have LQ := Lib.hid (Nat.le_trans HN.out B1.out.size)
        have NTQ := Lib.hid (show tb ≠ u1.heap.size by have := T1.out.1; omega)
        have NVQ := Lib.hid (show vb ≠ u1.heap.size by have := V1.out.1; omega)
        have NPQ := Lib.hid (show pb ≠ u1.heap.size by have := P1.out.1; omega)
        clear hz
        refine hK.out _ _ ?s42 (fun hNew => ?r42)
        case s42 => exact T2.out.2.1
        clear hK K hHeld
        have hHeld := hNew
        clear hNew
        generalize World.alloc u1 (.cells #[.int .u16 0, .int .u8 0, .int .u8 0, .int .u8 0, .bool false] 27) = u2 at hHeld B2 V2 T2 Q2 P2 ⊢
        generalize u1.heap.size = qb at Q2 LQ NTQ NVQ NPQ ⊢
        refine wpAnyH_ready (rs := [2]) (by kernel_rfl) (by simp) ?_
        refine (AllReadyH.cons (o := { dst := some 18, op := Go.Op.call { callee := Go.Callee.value (Go.Operand.func 12), args := #[Go.Operand.tmp 16, Go.Operand.const (Go.Value.int Go.IntKind.i64 0), Go.Operand.tmp 17], argTypes := #[27, 3, 5] }, type := 27, pos := "law.go:110", after := #[{ on := 0, ground := Go.Ground.data }, { on := 1, ground := Go.Ground.data }], guard := none }) rfl (fun K hK => ?_) AllReadyH.nil)
        · skip
          go_simp
          with_reducible refine (H1.out _ (TT.out.next B2.out).g).mono ?_
          rintro q_ u3 ⟨rfl, hz⟩
          have B3 := Lib.hid (vian HN.out B2.out hz)
          have V3 := Lib.hid (V2.out.below hz)
          have T3 := Lib.hid (T2.out.below hz)
          have P3 := Lib.hid (P2.out.below hz)
          have Q3 := Lib.hid (Q2.out.below hz)
          clear hz
          refine hK.out _ _ ?s43 (fun hNew => ?r43)
          case s43 => exact T3.out.2.1
          clear hK K hHeld
          have hHeld := hNew
          clear hNew
          refine wpAnyH_ready (rs := [4]) (by kernel_rfl) (by simp) ?_
          refine (AllReadyH.cons (o := { dst := some 20, op := Go.Op.call { callee := Go.Callee.value (Go.Operand.func 12), args := #[Go.Operand.tmp 19, Go.Operand.const (Go.Value.int Go.IntKind.i64 3), Go.Operand.const (Go.Value.int Go.IntKind.u8 0)], argTypes := #[27, 3, 5] }, type := 27, pos := "law.go:110", after := #[{ on := 3, ground := Go.Ground.data }, { on := 2, ground := Go.Ground.chain }], guard := none }) rfl (fun K hK => ?_) AllReadyH.nil)
          · skip
            go_simp
            with_reducible refine (H2.out _ (TT.out.next B3.out).g).mono ?_
            rintro q_ u4 ⟨rfl, hz⟩
            have B4 := Lib.hid (vian HN.out B3.out hz)
            have V4 := Lib.hid (V3.out.below hz)
            have T4 := Lib.hid (T3.out.below hz)
            have P4 := Lib.hid (P3.out.below hz)
            have Q4 := Lib.hid (Q3.out.below hz)
            clear hz
            refine hK.out _ _ ?s44 (fun hNew => ?r44)
            case s44 => exact T4.out.2.1
            clear hK K hHeld
            have hHeld := hNew
            clear hNew
            refine wpAnyH_ready (rs := [7]) (by kernel_rfl) (by simp) ?_
            refine (AllReadyH.cons (o := { dst := none, op := Go.Op.store 27 (Go.Operand.tmp 6) (Go.Operand.tmp 18), type := 0, pos := "law.go:110", after := #[{ on := 5, ground := Go.Ground.data }, { on := 2, ground := Go.Ground.data }, { on := 4, ground := Go.Ground.chain }, { on := 0, ground := Go.Ground.phase }, { on := 1, ground := Go.Ground.phase }, { on := 2, ground := Go.Ground.phase }, { on := 3, ground := Go.Ground.textOnly Go.Departure.lateStores }, { on := 4, ground := Go.Ground.textOnly Go.Departure.lateStoresUnsure }, { on := 5, ground := Go.Ground.phase }, { on := 6, ground := Go.Ground.phase }], guard := none }) rfl (fun K hK => ?_) AllReadyH.nil)
            · skip
              obtain ⟨hcl, hfz⟩ := P4.out.out
              go_simp
              clear hcl hfz
              have P5 := Lib.hid (P4.out.put5 (.int .u16 RA.c) (.int .u8 RA.a) (.int .u8 RA.m) (.int .u8 RA.k) (.bool RA.o))
              have B5 := Lib.hid (set5 B4.out pb LP.out (.int .u16 RA.c) (.int .u8 RA.a) (.int .u8 RA.m) (.int .u8 RA.k) (.bool RA.o))
              have T5 := Lib.hid (T4.out.far5 NTP.out (.int .u16 RA.c) (.int .u8 RA.a) (.int .u8 RA.m) (.int .u8 RA.k) (.bool RA.o))
              have V5 := Lib.hid (V4.out.far5 NVP.out (.int .u16 RA.c) (.int .u8 RA.a) (.int .u8 RA.m) (.int .u8 RA.k) (.bool RA.o))
              have Q5 := Lib.hid (Q4.out.far5 (NPQ.out.symm) (.int .u16 RA.c) (.int .u8 RA.a) (.int .u8 RA.m) (.int .u8 RA.k) (.bool RA.o))
              refine hK.out _ _ ?s45 (fun hNew => ?r45)
              case s45 => exact T5.out.2.1
              clear hK K hHeld
              have hHeld := hNew
              clear hNew
              generalize (World.setCell (World.setCell (World.setCell (World.setCell (World.setCell u4 ⟨pb, 0, none⟩ (.int .u16 RA.c)) ⟨pb, 1, none⟩ (.int .u8 RA.a)) ⟨pb, 2, none⟩ (.int .u8 RA.m)) ⟨pb, 3, none⟩ (.int .u8 RA.k)) ⟨pb, 4, none⟩ (.bool RA.o)) = u5 at hHeld B5 T5 V5 P5 Q5 ⊢
              refine wpAnyH_ready (rs := [8]) (by kernel_rfl) (by simp) ?_
              refine (AllReadyH.cons (o := { dst := none, op := Go.Op.store 27 (Go.Operand.tmp 7) (Go.Operand.tmp 20), type := 0, pos := "law.go:110", after := #[{ on := 6, ground := Go.Ground.data }, { on := 4, ground := Go.Ground.data }, { on := 7, ground := Go.Ground.chain }, { on := 0, ground := Go.Ground.phase }, { on := 1, ground := Go.Ground.phase }, { on := 2, ground := Go.Ground.phase }, { on := 3, ground := Go.Ground.phase }, { on := 4, ground := Go.Ground.phase }, { on := 5, ground := Go.Ground.phase }, { on := 6, ground := Go.Ground.phase }, { on := 7, ground := Go.Ground.phase }], guard := none }) rfl (fun K hK => ?_) AllReadyH.nil)
              · skip
                obtain ⟨hcl, hfz⟩ := Q5.out.out
                go_simp
                clear hcl hfz
                have Q6 := Lib.hid (Q5.out.put5 (.int .u16 RB.c) (.int .u8 RB.a) (.int .u8 RB.m) (.int .u8 RB.k) (.bool RB.o))
                have B6 := Lib.hid (set5 B5.out qb LQ.out (.int .u16 RB.c) (.int .u8 RB.a) (.int .u8 RB.m) (.int .u8 RB.k) (.bool RB.o))
                have T6 := Lib.hid (T5.out.far5 NTQ.out (.int .u16 RB.c) (.int .u8 RB.a) (.int .u8 RB.m) (.int .u8 RB.k) (.bool RB.o))
                have V6 := Lib.hid (V5.out.far5 NVQ.out (.int .u16 RB.c) (.int .u8 RB.a) (.int .u8 RB.m) (.int .u8 RB.k) (.bool RB.o))
                have P6 := Lib.hid (P5.out.far5 (NPQ.out) (.int .u16 RB.c) (.int .u8 RB.a) (.int .u8 RB.m) (.int .u8 RB.k) (.bool RB.o))
                refine hK.out _ _ ?s46 (fun hNew => ?r46)
                case s46 => exact T6.out.2.1
                clear hK K hHeld
                have hHeld := hNew
                clear hNew
                generalize (World.setCell (World.setCell (World.setCell (World.setCell (World.setCell u5 ⟨qb, 0, none⟩ (.int .u16 RB.c)) ⟨qb, 1, none⟩ (.int .u8 RB.a)) ⟨qb, 2, none⟩ (.int .u8 RB.m)) ⟨qb, 3, none⟩ (.int .u8 RB.k)) ⟨qb, 4, none⟩ (.bool RB.o)) = u6 at hHeld B6 T6 V6 P6 Q6 ⊢
                refine wpAnyH_done (by kernel_rfl) ?_ _
                clear hHeld
                go_wp2
                go_meet
                exact ⟨pb, qb, rfl, rfl, B6.out, P6.out, Q6.out, V6.out, T6.out⟩
    · skip
      go_simp
      have hz := own1 u0 (.cells #[.int .u16 0, .int .u8 0, .int .u8 0, .int .u8 0, .bool false] 27)
      have B1 := Lib.hid (vian HN.out B0.out hz)
      have V1 := Lib.hid (V0.out.below hz)
      have T1 := Lib.hid (T0.out.below hz)
      have Q1 := Lib.hid (Has.new u0 #[.int .u16 0, .int .u8 0, .int .u8 0, .int .u8 0, .bool false] 27)
      have LQ := Lib.hid (Nat.le_trans HN.out B0.out.size)
      have NTQ := Lib.hid (show tb ≠ u0.heap.size by have := T0.out.1; omega)
      have NVQ := Lib.hid (show vb ≠ u0.heap.size by have := V0.out.1; omega)
      clear hz
      refine hK.out _ _ ?s47 (fun hNew => ?r47)
      case s47 => exact T1.out.2.1
      clear hK K hHeld
      have hHeld := hNew
      clear hNew
      generalize World.alloc u0 (.cells #[.int .u16 0, .int .u8 0, .int .u8 0, .int .u8 0, .bool false] 27) = u1 at hHeld B1 V1 T1 Q1 ⊢
      generalize u0.heap.size = qb at Q1 LQ NTQ NVQ ⊢
      refine wpAnyH_ready (rs := [2, 5]) (by kernel_rfl) (by simp) ?_
      refine (AllReadyH.cons (o := { dst := some 18, op := Go.Op.call { callee := Go.Callee.value (Go.Operand.func 12), args := #[Go.Operand.tmp 16, Go.Operand.const (Go.Value.int Go.IntKind.i64 0), Go.Operand.tmp 17], argTypes := #[27, 3, 5] }, type := 27, pos := "law.go:110", after := #[{ on := 0, ground := Go.Ground.data }, { on := 1, ground := Go.Ground.data }], guard := none }) rfl (fun K hK => ?_) (AllReadyH.cons (o := { dst := some 6, op := Go.Op.alloc 27, type := 0, pos := "law.go:110", after := #[], guard := none }) rfl (fun K hK => ?_) AllReadyH.nil))
      · skip
        go_simp
        with_reducible refine (H1.out _ (TT.out.next B1.out).g).mono ?_
        rintro q_ u2 ⟨rfl, hz⟩
        have B2 := Lib.hid (vian HN.out B1.out hz)
        have V2 := Lib.hid (V1.out.below hz)
        have T2 := Lib.hid (T1.out.below hz)
        have Q2 := Lib.hid (Q1.out.below hz)
        clear hz
        refine hK.out _ _ ?s48 (fun hNew => ?r48)
        case s48 => exact T2.out.2.1
        clear hK K hHeld
        have hHeld := hNew
        clear hNew
        refine wpAnyH_ready (rs := [4, 5]) (by kernel_rfl) (by simp) ?_
        refine (AllReadyH.cons (o := { dst := some 20, op := Go.Op.call { callee := Go.Callee.value (Go.Operand.func 12), args := #[Go.Operand.tmp 19, Go.Operand.const (Go.Value.int Go.IntKind.i64 3), Go.Operand.const (Go.Value.int Go.IntKind.u8 0)], argTypes := #[27, 3, 5] }, type := 27, pos := "law.go:110", after := #[{ on := 3, ground := Go.Ground.data }, { on := 2, ground := Go.Ground.chain }], guard := none }) rfl (fun K hK => ?_) (AllReadyH.cons (o := { dst := some 6, op := Go.Op.alloc 27, type := 0, pos := "law.go:110", after := #[], guard := none }) rfl (fun K hK => ?_) AllReadyH.nil))
        · skip
          go_simp
          with_reducible refine (H2.out _ (TT.out.next B2.out).g).mono ?_
          rintro q_ u3 ⟨rfl, hz⟩
          have B3 := Lib.hid (vian HN.out B2.out hz)
          have V3 := Lib.hid (V2.out.below hz)
          have T3 := Lib.hid (T2.out.below hz)
          have Q3 := Lib.hid (Q2.out.below hz)
          clear hz
          refine hK.out _ _ ?s49 (fun hNew => ?r49)
          case s49 => exact T3.out.2.1
          clear hK K hHeld
          have hHeld := hNew
          clear hNew
          refine wpAnyH_ready (rs := [5]) (by kernel_rfl) (by simp) ?_
          refine (AllReadyH.cons (o := { dst := some 6, op := Go.Op.alloc 27, type := 0, pos := "law.go:110", after := #[], guard := none }) rfl (fun K hK => ?_) AllReadyH.nil)
          · skip
            go_simp
            have hz := own1 u3 (.cells #[.int .u16 0, .int .u8 0, .int .u8 0, .int .u8 0, .bool false] 27)
            have B4 := Lib.hid (vian HN.out B3.out hz)
            have V4 := Lib.hid (V3.out.below hz)
            have T4 := Lib.hid (T3.out.below hz)
            have Q4 := Lib.hid (Q3.out.below hz)
            have P4 := Lib.hid (Has.new u3 #[.int .u16 0, .int .u8 0, .int .u8 0, .int .u8 0, .bool false] 27)
            have LP := Lib.hid (Nat.le_trans HN.out B3.out.size)
            have NTP := Lib.hid (show tb ≠ u3.heap.size by have := T3.out.1; omega)
            have NVP := Lib.hid (show vb ≠ u3.heap.size by have := V3.out.1; omega)
            have NPQ := Lib.hid (show qb ≠ u3.heap.size by have := Q3.out.1; omega)
            clear hz
            refine hK.out _ _ ?s50 (fun hNew => ?r50)
            case s50 => exact T4.out.2.1
            clear hK K hHeld
            have hHeld := hNew
            clear hNew
            generalize World.alloc u3 (.cells #[.int .u16 0, .int .u8 0, .int .u8 0, .int .u8 0, .bool false] 27) = u4 at hHeld B4 V4 T4 P4 Q4 ⊢
            generalize u3.heap.size = pb at P4 LP NTP NVP NPQ ⊢
            refine wpAnyH_ready (rs := [7]) (by kernel_rfl) (by simp) ?_
            refine (AllReadyH.cons (o := { dst := none, op := Go.Op.store 27 (Go.Operand.tmp 6) (Go.Operand.tmp 18), type := 0, pos := "law.go:110", after := #[{ on := 5, ground := Go.Ground.data }, { on := 2, ground := Go.Ground.data }, { on := 4, ground := Go.Ground.chain }, { on := 0, ground := Go.Ground.phase }, { on := 1, ground := Go.Ground.phase }, { on := 2, ground := Go.Ground.phase }, { on := 3, ground := Go.Ground.textOnly Go.Departure.lateStores }, { on := 4, ground := Go.Ground.textOnly Go.Departure.lateStoresUnsure }, { on := 5, ground := Go.Ground.phase }, { on := 6, ground := Go.Ground.phase }], guard := none }) rfl (fun K hK => ?_) AllReadyH.nil)
            · skip
              obtain ⟨hcl, hfz⟩ := P4.out.out
              go_simp
              clear hcl hfz
              have P5 := Lib.hid (P4.out.put5 (.int .u16 RA.c) (.int .u8 RA.a) (.int .u8 RA.m) (.int .u8 RA.k) (.bool RA.o))
              have B5 := Lib.hid (set5 B4.out pb LP.out (.int .u16 RA.c) (.int .u8 RA.a) (.int .u8 RA.m) (.int .u8 RA.k) (.bool RA.o))
              have T5 := Lib.hid (T4.out.far5 NTP.out (.int .u16 RA.c) (.int .u8 RA.a) (.int .u8 RA.m) (.int .u8 RA.k) (.bool RA.o))
              have V5 := Lib.hid (V4.out.far5 NVP.out (.int .u16 RA.c) (.int .u8 RA.a) (.int .u8 RA.m) (.int .u8 RA.k) (.bool RA.o))
              have Q5 := Lib.hid (Q4.out.far5 (NPQ.out) (.int .u16 RA.c) (.int .u8 RA.a) (.int .u8 RA.m) (.int .u8 RA.k) (.bool RA.o))
              refine hK.out _ _ ?s51 (fun hNew => ?r51)
              case s51 => exact T5.out.2.1
              clear hK K hHeld
              have hHeld := hNew
              clear hNew
              generalize (World.setCell (World.setCell (World.setCell (World.setCell (World.setCell u4 ⟨pb, 0, none⟩ (.int .u16 RA.c)) ⟨pb, 1, none⟩ (.int .u8 RA.a)) ⟨pb, 2, none⟩ (.int .u8 RA.m)) ⟨pb, 3, none⟩ (.int .u8 RA.k)) ⟨pb, 4, none⟩ (.bool RA.o)) = u5 at hHeld B5 T5 V5 P5 Q5 ⊢
              refine wpAnyH_ready (rs := [8]) (by kernel_rfl) (by simp) ?_
              refine (AllReadyH.cons (o := { dst := none, op := Go.Op.store 27 (Go.Operand.tmp 7) (Go.Operand.tmp 20), type := 0, pos := "law.go:110", after := #[{ on := 6, ground := Go.Ground.data }, { on := 4, ground := Go.Ground.data }, { on := 7, ground := Go.Ground.chain }, { on := 0, ground := Go.Ground.phase }, { on := 1, ground := Go.Ground.phase }, { on := 2, ground := Go.Ground.phase }, { on := 3, ground := Go.Ground.phase }, { on := 4, ground := Go.Ground.phase }, { on := 5, ground := Go.Ground.phase }, { on := 6, ground := Go.Ground.phase }, { on := 7, ground := Go.Ground.phase }], guard := none }) rfl (fun K hK => ?_) AllReadyH.nil)
              · skip
                obtain ⟨hcl, hfz⟩ := Q5.out.out
                go_simp
                clear hcl hfz
                have Q6 := Lib.hid (Q5.out.put5 (.int .u16 RB.c) (.int .u8 RB.a) (.int .u8 RB.m) (.int .u8 RB.k) (.bool RB.o))
                have B6 := Lib.hid (set5 B5.out qb LQ.out (.int .u16 RB.c) (.int .u8 RB.a) (.int .u8 RB.m) (.int .u8 RB.k) (.bool RB.o))
                have T6 := Lib.hid (T5.out.far5 NTQ.out (.int .u16 RB.c) (.int .u8 RB.a) (.int .u8 RB.m) (.int .u8 RB.k) (.bool RB.o))
                have V6 := Lib.hid (V5.out.far5 NVQ.out (.int .u16 RB.c) (.int .u8 RB.a) (.int .u8 RB.m) (.int .u8 RB.k) (.bool RB.o))
                have P6 := Lib.hid (P5.out.far5 (NPQ.out.symm) (.int .u16 RB.c) (.int .u8 RB.a) (.int .u8 RB.m) (.int .u8 RB.k) (.bool RB.o))
                refine hK.out _ _ ?s52 (fun hNew => ?r52)
                case s52 => exact T6.out.2.1
                clear hK K hHeld
                have hHeld := hNew
                clear hNew
                generalize (World.setCell (World.setCell (World.setCell (World.setCell (World.setCell u5 ⟨qb, 0, none⟩ (.int .u16 RB.c)) ⟨qb, 1, none⟩ (.int .u8 RB.a)) ⟨qb, 2, none⟩ (.int .u8 RB.m)) ⟨qb, 3, none⟩ (.int .u8 RB.k)) ⟨qb, 4, none⟩ (.bool RB.o)) = u6 at hHeld B6 T6 V6 P6 Q6 ⊢
                refine wpAnyH_done (by kernel_rfl) ?_ _
                clear hHeld
                go_wp2
                go_meet
                exact ⟨pb, qb, rfl, rfl, B6.out, P6.out, Q6.out, V6.out, T6.out⟩
        · skip
          go_simp
          have hz := own1 u2 (.cells #[.int .u16 0, .int .u8 0, .int .u8 0, .int .u8 0, .bool false] 27)
          have B3 := Lib.hid (vian HN.out B2.out hz)
          have V3 := Lib.hid (V2.out.below hz)
          have T3 := Lib.hid (T2.out.below hz)
          have Q3 := Lib.hid (Q2.out.below hz)
          have P3 := Lib.hid (Has.new u2 #[.int .u16 0, .int .u8 0, .int .u8 0, .int .u8 0, .bool false] 27)
          have LP := Lib.hid (Nat.le_trans HN.out B2.out.size)
          have NTP := Lib.hid (show tb ≠ u2.heap.size by have := T2.out.1; omega)
          have NVP := Lib.hid (show vb ≠ u2.heap.size by have := V2.out.1; omega)
          have NPQ := Lib.hid (show qb ≠ u2.heap.size by have := Q2.out.1; omega)
          clear hz
          refine hK.out _ _ ?s53 (fun hNew => ?r53)
          case s53 => exact T3.out.2.1
          clear hK K hHeld
          have hHeld := hNew
          clear hNew
          generalize World.alloc u2 (.cells #[.int .u16 0, .int .u8 0, .int .u8 0, .int .u8 0, .bool false] 27) = u3 at hHeld B3 V3 T3 P3 Q3 ⊢
          generalize u2.heap.size = pb at P3 LP NTP NVP NPQ ⊢
          refine wpAnyH_ready (rs := [4]) (by kernel_rfl) (by simp) ?_
          refine (AllReadyH.cons (o := { dst := some 20, op := Go.Op.call { callee := Go.Callee.value (Go.Operand.func 12), args := #[Go.Operand.tmp 19, Go.Operand.const (Go.Value.int Go.IntKind.i64 3), Go.Operand.const (Go.Value.int Go.IntKind.u8 0)], argTypes := #[27, 3, 5] }, type := 27, pos := "law.go:110", after := #[{ on := 3, ground := Go.Ground.data }, { on := 2, ground := Go.Ground.chain }], guard := none }) rfl (fun K hK => ?_) AllReadyH.nil)
          · skip
            go_simp
            with_reducible refine (H2.out _ (TT.out.next B3.out).g).mono ?_
            rintro q_ u4 ⟨rfl, hz⟩
            have B4 := Lib.hid (vian HN.out B3.out hz)
            have V4 := Lib.hid (V3.out.below hz)
            have T4 := Lib.hid (T3.out.below hz)
            have P4 := Lib.hid (P3.out.below hz)
            have Q4 := Lib.hid (Q3.out.below hz)
            clear hz
            refine hK.out _ _ ?s54 (fun hNew => ?r54)
            case s54 => exact T4.out.2.1
            clear hK K hHeld
            have hHeld := hNew
            clear hNew
            refine wpAnyH_ready (rs := [7]) (by kernel_rfl) (by simp) ?_
            refine (AllReadyH.cons (o := { dst := none, op := Go.Op.store 27 (Go.Operand.tmp 6) (Go.Operand.tmp 18), type := 0, pos := "law.go:110", after := #[{ on := 5, ground := Go.Ground.data }, { on := 2, ground := Go.Ground.data }, { on := 4, ground := Go.Ground.chain }, { on := 0, ground := Go.Ground.phase }, { on := 1, ground := Go.Ground.phase }, { on := 2, ground := Go.Ground.phase }, { on := 3, ground := Go.Ground.textOnly Go.Departure.lateStores }, { on := 4, ground := Go.Ground.textOnly Go.Departure.lateStoresUnsure }, { on := 5, ground := Go.Ground.phase }, { on := 6, ground := Go.Ground.phase }], guard := none }) rfl (fun K hK => ?_) AllReadyH.nil)
            · skip
              obtain ⟨hcl, hfz⟩ := P4.out.out
              go_simp
              clear hcl hfz
              have P5 := Lib.hid (P4.out.put5 (.int .u16 RA.c) (.int .u8 RA.a) (.int .u8 RA.m) (.int .u8 RA.k) (.bool RA.o))
              have B5 := Lib.hid (set5 B4.out pb LP.out (.int .u16 RA.c) (.int .u8 RA.a) (.int .u8 RA.m) (.int .u8 RA.k) (.bool RA.o))
              have T5 := Lib.hid (T4.out.far5 NTP.out (.int .u16 RA.c) (.int .u8 RA.a) (.int .u8 RA.m) (.int .u8 RA.k) (.bool RA.o))
              have V5 := Lib.hid (V4.out.far5 NVP.out (.int .u16 RA.c) (.int .u8 RA.a) (.int .u8 RA.m) (.int .u8 RA.k) (.bool RA.o))
              have Q5 := Lib.hid (Q4.out.far5 (NPQ.out) (.int .u16 RA.c) (.int .u8 RA.a) (.int .u8 RA.m) (.int .u8 RA.k) (.bool RA.o))
              refine hK.out _ _ ?s55 (fun hNew => ?r55)
              case s55 => exact T5.out.2.1
              clear hK K hHeld
              have hHeld := hNew
              clear hNew
              generalize (World.setCell (World.setCell (World.setCell (World.setCell (World.setCell u4 ⟨pb, 0, none⟩ (.int .u16 RA.c)) ⟨pb, 1, none⟩ (.int .u8 RA.a)) ⟨pb, 2, none⟩ (.int .u8 RA.m)) ⟨pb, 3, none⟩ (.int .u8 RA.k)) ⟨pb, 4, none⟩ (.bool RA.o)) = u5 at hHeld B5 T5 V5 P5 Q5 ⊢
              refine wpAnyH_ready (rs := [8]) (by kernel_rfl) (by simp) ?_
              refine (AllReadyH.cons (o := { dst := none, op := Go.Op.store 27 (Go.Operand.tmp 7) (Go.Operand.tmp 20), type := 0, pos := "law.go:110", after := #[{ on := 6, ground := Go.Ground.data }, { on := 4, ground := Go.Ground.data }, { on := 7, ground := Go.Ground.chain }, { on := 0, ground := Go.Ground.phase }, { on := 1, ground := Go.Ground.phase }, { on := 2, ground := Go.Ground.phase }, { on := 3, ground := Go.Ground.phase }, { on := 4, ground := Go.Ground.phase }, { on := 5, ground := Go.Ground.phase }, { on := 6, ground := Go.Ground.phase }, { on := 7, ground := Go.Ground.phase }], guard := none }) rfl (fun K hK => ?_) AllReadyH.nil)
              · skip
                obtain ⟨hcl, hfz⟩ := Q5.out.out
                go_simp
                clear hcl hfz
                have Q6 := Lib.hid (Q5.out.put5 (.int .u16 RB.c) (.int .u8 RB.a) (.int .u8 RB.m) (.int .u8 RB.k) (.bool RB.o))
                have B6 := Lib.hid (set5 B5.out qb LQ.out (.int .u16 RB.c) (.int .u8 RB.a) (.int .u8 RB.m) (.int .u8 RB.k) (.bool RB.o))
                have T6 := Lib.hid (T5.out.far5 NTQ.out (.int .u16 RB.c) (.int .u8 RB.a) (.int .u8 RB.m) (.int .u8 RB.k) (.bool RB.o))
                have V6 := Lib.hid (V5.out.far5 NVQ.out (.int .u16 RB.c) (.int .u8 RB.a) (.int .u8 RB.m) (.int .u8 RB.k) (.bool RB.o))
                have P6 := Lib.hid (P5.out.far5 (NPQ.out.symm) (.int .u16 RB.c) (.int .u8 RB.a) (.int .u8 RB.m) (.int .u8 RB.k) (.bool RB.o))
                refine hK.out _ _ ?s56 (fun hNew => ?r56)
                case s56 => exact T6.out.2.1
                clear hK K hHeld
                have hHeld := hNew
                clear hNew
                generalize (World.setCell (World.setCell (World.setCell (World.setCell (World.setCell u5 ⟨qb, 0, none⟩ (.int .u16 RB.c)) ⟨qb, 1, none⟩ (.int .u8 RB.a)) ⟨qb, 2, none⟩ (.int .u8 RB.m)) ⟨qb, 3, none⟩ (.int .u8 RB.k)) ⟨qb, 4, none⟩ (.bool RB.o)) = u6 at hHeld B6 T6 V6 P6 Q6 ⊢
                refine wpAnyH_done (by kernel_rfl) ?_ _
                clear hHeld
                go_wp2
                go_meet
                exact ⟨pb, qb, rfl, rfl, B6.out, P6.out, Q6.out, V6.out, T6.out⟩
      · skip
        go_simp
        have hz := own1 u1 (.cells #[.int .u16 0, .int .u8 0, .int .u8 0, .int .u8 0, .bool false] 27)
        have B2 := Lib.hid (vian HN.out B1.out hz)
        have V2 := Lib.hid (V1.out.below hz)
        have T2 := Lib.hid (T1.out.below hz)
        have Q2 := Lib.hid (Q1.out.below hz)
        have P2 := Lib.hid (Has.new u1 #[.int .u16 0, .int .u8 0, .int .u8 0, .int .u8 0, .bool false] 27)
        have LP := Lib.hid (Nat.le_trans HN.out B1.out.size)
        have NTP := Lib.hid (show tb ≠ u1.heap.size by have := T1.out.1; omega)
        have NVP := Lib.hid (show vb ≠ u1.heap.size by have := V1.out.1; omega)
        have NPQ := Lib.hid (show qb ≠ u1.heap.size by have := Q1.out.1; omega)
        clear hz
        refine hK.out _ _ ?s57 (fun hNew => ?r57)
        case s57 => exact T2.out.2.1
        clear hK K hHeld
        have hHeld := hNew
        clear hNew
        generalize World.alloc u1 (.cells #[.int .u16 0, .int .u8 0, .int .u8 0, .int .u8 0, .bool false] 27) = u2 at hHeld B2 V2 T2 P2 Q2 ⊢
        generalize u1.heap.size = pb at P2 LP NTP NVP NPQ ⊢
        refine wpAnyH_ready (rs := [2]) (by kernel_rfl) (by simp) ?_
        refine (AllReadyH.cons (o := { dst := some 18, op := Go.Op.call { callee := Go.Callee.value (Go.Operand.func 12), args := #[Go.Operand.tmp 16, Go.Operand.const (Go.Value.int Go.IntKind.i64 0), Go.Operand.tmp 17], argTypes := #[27, 3, 5] }, type := 27, pos := "law.go:110", after := #[{ on := 0, ground := Go.Ground.data }, { on := 1, ground := Go.Ground.data }], guard := none }) rfl (fun K hK => ?_) AllReadyH.nil)
        · skip
          go_simp
          with_reducible refine (H1.out _ (TT.out.next B2.out).g).mono ?_
          rintro q_ u3 ⟨rfl, hz⟩
          have B3 := Lib.hid (vian HN.out B2.out hz)
          have V3 := Lib.hid (V2.out.below hz)
          have T3 := Lib.hid (T2.out.below hz)
          have P3 := Lib.hid (P2.out.below hz)
          have Q3 := Lib.hid (Q2.out.below hz)
          clear hz
          refine hK.out _ _ ?s58 (fun hNew => ?r58)
          case s58 => exact T3.out.2.1
          clear hK K hHeld
          have hHeld := hNew
          clear hNew
          refine wpAnyH_ready (rs := [4]) (by kernel_rfl) (by simp) ?_
          refine (AllReadyH.cons (o := { dst := some 20, op := Go.Op.call { callee := Go.Callee.value (Go.Operand.func 12), args := #[Go.Operand.tmp 19, Go.Operand.const (Go.Value.int Go.IntKind.i64 3), Go.Operand.const (Go.Value.int Go.IntKind.u8 0)], argTypes := #[27, 3, 5] }, type := 27, pos := "law.go:110", after := #[{ on := 3, ground := Go.Ground.data }, { on := 2, ground := Go.Ground.chain }], guard := none }) rfl (fun K hK => ?_) AllReadyH.nil)
          · skip
            go_simp
            with_reducible refine (H2.out _ (TT.out.next B3.out).g).mono ?_
            rintro q_ u4 ⟨rfl, hz⟩
            have B4 := Lib.hid (vian HN.out B3.out hz)
            have V4 := Lib.hid (V3.out.below hz)
            have T4 := Lib.hid (T3.out.below hz)
            have P4 := Lib.hid (P3.out.below hz)
            have Q4 := Lib.hid (Q3.out.below hz)
            clear hz
            refine hK.out _ _ ?s59 (fun hNew => ?r59)
            case s59 => exact T4.out.2.1
            clear hK K hHeld
            have hHeld := hNew
            clear hNew
            refine wpAnyH_ready (rs := [7]) (by kernel_rfl) (by simp) ?_
            refine (AllReadyH.cons (o := { dst := none, op := Go.Op.store 27 (Go.Operand.tmp 6) (Go.Operand.tmp 18), type := 0, pos := "law.go:110", after := #[{ on := 5, ground := Go.Ground.data }, { on := 2, ground := Go.Ground.data }, { on := 4, ground := Go.Ground.chain }, { on := 0, ground := Go.Ground.phase }, { on := 1, ground := Go.Ground.phase }, { on := 2, ground := Go.Ground.phase }, { on := 3, ground := Go.Ground.textOnly Go.Departure.lateStores }, { on := 4, ground := Go.Ground.textOnly Go.Departure.lateStoresUnsure }, { on := 5, ground := Go.Ground.phase }, { on := 6, ground := Go.Ground.phase }], guard := none }) rfl (fun K hK => ?_) AllReadyH.nil)
            · skip
              obtain ⟨hcl, hfz⟩ := P4.out.out
              go_simp
              clear hcl hfz
              have P5 := Lib.hid (P4.out.put5 (.int .u16 RA.c) (.int .u8 RA.a) (.int .u8 RA.m) (.int .u8 RA.k) (.bool RA.o))
              have B5 := Lib.hid (set5 B4.out pb LP.out (.int .u16 RA.c) (.int .u8 RA.a) (.int .u8 RA.m) (.int .u8 RA.k) (.bool RA.o))
              have T5 := Lib.hid (T4.out.far5 NTP.out (.int .u16 RA.c) (.int .u8 RA.a) (.int .u8 RA.m) (.int .u8 RA.k) (.bool RA.o))
              have V5 := Lib.hid (V4.out.far5 NVP.out (.int .u16 RA.c) (.int .u8 RA.a) (.int .u8 RA.m) (.int .u8 RA.k) (.bool RA.o))
              have Q5 := Lib.hid (Q4.out.far5 (NPQ.out) (.int .u16 RA.c) (.int .u8 RA.a) (.int .u8 RA.m) (.int .u8 RA.k) (.bool RA.o))
              refine hK.out _ _ ?s60 (fun hNew => ?r60)
              case s60 => exact T5.out.2.1
              clear hK K hHeld
              have hHeld := hNew
              clear hNew
              generalize (World.setCell (World.setCell (World.setCell (World.setCell (World.setCell u4 ⟨pb, 0, none⟩ (.int .u16 RA.c)) ⟨pb, 1, none⟩ (.int .u8 RA.a)) ⟨pb, 2, none⟩ (.int .u8 RA.m)) ⟨pb, 3, none⟩ (.int .u8 RA.k)) ⟨pb, 4, none⟩ (.bool RA.o)) = u5 at hHeld B5 T5 V5 P5 Q5 ⊢
              refine wpAnyH_ready (rs := [8]) (by kernel_rfl) (by simp) ?_
              refine (AllReadyH.cons (o := { dst := none, op := Go.Op.store 27 (Go.Operand.tmp 7) (Go.Operand.tmp 20), type := 0, pos := "law.go:110", after := #[{ on := 6, ground := Go.Ground.data }, { on := 4, ground := Go.Ground.data }, { on := 7, ground := Go.Ground.chain }, { on := 0, ground := Go.Ground.phase }, { on := 1, ground := Go.Ground.phase }, { on := 2, ground := Go.Ground.phase }, { on := 3, ground := Go.Ground.phase }, { on := 4, ground := Go.Ground.phase }, { on := 5, ground := Go.Ground.phase }, { on := 6, ground := Go.Ground.phase }, { on := 7, ground := Go.Ground.phase }], guard := none }) rfl (fun K hK => ?_) AllReadyH.nil)
              · skip
                obtain ⟨hcl, hfz⟩ := Q5.out.out
                go_simp
                clear hcl hfz
                have Q6 := Lib.hid (Q5.out.put5 (.int .u16 RB.c) (.int .u8 RB.a) (.int .u8 RB.m) (.int .u8 RB.k) (.bool RB.o))
                have B6 := Lib.hid (set5 B5.out qb LQ.out (.int .u16 RB.c) (.int .u8 RB.a) (.int .u8 RB.m) (.int .u8 RB.k) (.bool RB.o))
                have T6 := Lib.hid (T5.out.far5 NTQ.out (.int .u16 RB.c) (.int .u8 RB.a) (.int .u8 RB.m) (.int .u8 RB.k) (.bool RB.o))
                have V6 := Lib.hid (V5.out.far5 NVQ.out (.int .u16 RB.c) (.int .u8 RB.a) (.int .u8 RB.m) (.int .u8 RB.k) (.bool RB.o))
                have P6 := Lib.hid (P5.out.far5 (NPQ.out.symm) (.int .u16 RB.c) (.int .u8 RB.a) (.int .u8 RB.m) (.int .u8 RB.k) (.bool RB.o))
                refine hK.out _ _ ?s61 (fun hNew => ?r61)
                case s61 => exact T6.out.2.1
                clear hK K hHeld
                have hHeld := hNew
                clear hNew
                generalize (World.setCell (World.setCell (World.setCell (World.setCell (World.setCell u5 ⟨qb, 0, none⟩ (.int .u16 RB.c)) ⟨qb, 1, none⟩ (.int .u8 RB.a)) ⟨qb, 2, none⟩ (.int .u8 RB.m)) ⟨qb, 3, none⟩ (.int .u8 RB.k)) ⟨qb, 4, none⟩ (.bool RB.o)) = u6 at hHeld B6 T6 V6 P6 Q6 ⊢
                refine wpAnyH_done (by kernel_rfl) ?_ _
                clear hHeld
                go_wp2
                go_meet
                exact ⟨pb, qb, rfl, rfl, B6.out, P6.out, Q6.out, V6.out, T6.out⟩
  case rest =>
    obtain ⟨p, q, rfl, rfl, hB, hP, hQ, hV, hT⟩ := hcut
    have B4 := Lib.hid hB
    have P4 := Lib.hid hP
    have Q4 := Lib.hid hQ
    have V4 := Lib.hid hV
    have T4 := Lib.hid hT
    clear hB hP hQ hV hT B0 V0 T0 H1 H2 LV LT NVT
    rcases WAY.out with ⟨rfl, rfl, rfl⟩ | ⟨rfl, rfl, rfl⟩
    · cases o with
      | false =>
        obtain ⟨hP, hfP⟩ := P4.out.out
        obtain ⟨hQ, hfQ⟩ := Q4.out.out
        obtain ⟨hV, hfV⟩ := V4.out.out
        obtain ⟨hT, hfT⟩ := T4.out.out
        go_wp2_with fail
        clear hP hfP hQ hfQ hV hfV hT hfT
        with_reducible refine (H3.out _).mono ?_
        rintro q_ w5 ⟨rfl, hb⟩
        have B5 := Lib.hid (vian HN.out B4.out hb)
        have P5 := Lib.hid (P4.out.below hb)
        have Q5 := Lib.hid (Q4.out.below hb)
        have V5 := Lib.hid (V4.out.below hb)
        have T5 := Lib.hid (T4.out.below hb)
        clear hb B4 P4 Q4 V4 T4
        obtain ⟨hP, hfP⟩ := P5.out.out
        obtain ⟨hQ, hfQ⟩ := Q5.out.out
        obtain ⟨hV, hfV⟩ := V5.out.out
        obtain ⟨hT, hfT⟩ := T5.out.out
        go_wp2_with fail
        clear hP hfP hQ hfQ hV hfV hT hfT
        with_reducible refine (H4.out _).mono ?_
        rintro q_ w6 ⟨rfl, hb⟩
        have B6 := Lib.hid (vian HN.out B5.out hb)
        have P6 := Lib.hid (P5.out.below hb)
        have Q6 := Lib.hid (Q5.out.below hb)
        have V6 := Lib.hid (V5.out.below hb)
        have T6 := Lib.hid (T5.out.below hb)
        clear hb B5 P5 Q5 V5 T5
        obtain ⟨hP, hfP⟩ := P6.out.out
        obtain ⟨hQ, hfQ⟩ := Q6.out.out
        obtain ⟨hV, hfV⟩ := V6.out.out
        obtain ⟨hT, hfT⟩ := T6.out.out
        go_wp2_with fail
        clear hP hfP hQ hfQ hV hfV hT hfT
        with_reducible refine (H5.out _).mono ?_
        rintro q_ w7 ⟨rfl, hb⟩
        have B7 := Lib.hid (vian HN.out B6.out hb)
        have P7 := Lib.hid (P6.out.below hb)
        have Q7 := Lib.hid (Q6.out.below hb)
        have V7 := Lib.hid (V6.out.below hb)
        have T7 := Lib.hid (T6.out.below hb)
        clear hb B6 P6 Q6 V6 T6
        obtain ⟨hP, hfP⟩ := P7.out.out
        obtain ⟨hQ, hfQ⟩ := Q7.out.out
        obtain ⟨hV, hfV⟩ := V7.out.out
        obtain ⟨hT, hfT⟩ := T7.out.out
        go_wp2
        go_ret
        exact ⟨rfl, B7.out⟩
      | true =>
        obtain ⟨hP, hfP⟩ := P4.out.out
        obtain ⟨hQ, hfQ⟩ := Q4.out.out
        obtain ⟨hV, hfV⟩ := V4.out.out
        obtain ⟨hT, hfT⟩ := T4.out.out
        go_wp2_with fail
        clear hP hfP hQ hfQ hV hfV hT hfT
        with_reducible refine (H3.out _).mono ?_
        rintro q_ w5 ⟨rfl, hb⟩
        have B5 := Lib.hid (vian HN.out B4.out hb)
        have P5 := Lib.hid (P4.out.below hb)
        have Q5 := Lib.hid (Q4.out.below hb)
        have V5 := Lib.hid (V4.out.below hb)
        have T5 := Lib.hid (T4.out.below hb)
        clear hb B4 P4 Q4 V4 T4
        obtain ⟨hP, hfP⟩ := P5.out.out
        obtain ⟨hQ, hfQ⟩ := Q5.out.out
        obtain ⟨hV, hfV⟩ := V5.out.out
        obtain ⟨hT, hfT⟩ := T5.out.out
        go_wp2_with fail
        clear hP hfP hQ hfQ hV hfV hT hfT
        with_reducible refine (H4.out _).mono ?_
        rintro q_ w6 ⟨rfl, hb⟩
        have B6 := Lib.hid (vian HN.out B5.out hb)
        have P6 := Lib.hid (P5.out.below hb)
        have Q6 := Lib.hid (Q5.out.below hb)
        have V6 := Lib.hid (V5.out.below hb)
        have T6 := Lib.hid (T5.out.below hb)
        clear hb B5 P5 Q5 V5 T5
        obtain ⟨hP, hfP⟩ := P6.out.out
        obtain ⟨hQ, hfQ⟩ := Q6.out.out
        obtain ⟨hV, hfV⟩ := V6.out.out
        obtain ⟨hT, hfT⟩ := T6.out.out
        go_wp2_with fail
        clear hP hfP hQ hfQ hV hfV hT hfT
        with_reducible refine (H5.out _).mono ?_
        rintro q_ w7 ⟨rfl, hb⟩
        have B7 := Lib.hid (vian HN.out B6.out hb)
        have P7 := Lib.hid (P6.out.below hb)
        have Q7 := Lib.hid (Q6.out.below hb)
        have V7 := Lib.hid (V6.out.below hb)
        have T7 := Lib.hid (T6.out.below hb)
        clear hb B6 P6 Q6 V6 T6
        obtain ⟨hP, hfP⟩ := P7.out.out
        obtain ⟨hQ, hfQ⟩ := Q7.out.out
        obtain ⟨hV, hfV⟩ := V7.out.out
        obtain ⟨hT, hfT⟩ := T7.out.out
        go_wp2
        go_ret
        exact ⟨rfl, B7.out⟩
    · by_cases g : u = 0
      · subst g
        simp only [if_true] at P4 Q4 H4 H5
        cases o with
        | false =>
          obtain ⟨hP, hfP⟩ := P4.out.out
          obtain ⟨hQ, hfQ⟩ := Q4.out.out
          obtain ⟨hV, hfV⟩ := V4.out.out
          obtain ⟨hT, hfT⟩ := T4.out.out
          go_wp2_with fail
          clear hP hfP hQ hfQ hV hfV hT hfT
          with_reducible refine (H3.out _).mono ?_
          rintro q_ w5 ⟨rfl, hb⟩
          have B5 := Lib.hid (vian HN.out B4.out hb)
          have P5 := Lib.hid (P4.out.below hb)
          have Q5 := Lib.hid (Q4.out.below hb)
          have V5 := Lib.hid (V4.out.below hb)
          have T5 := Lib.hid (T4.out.below hb)
          clear hb B4 P4 Q4 V4 T4
          obtain ⟨hP, hfP⟩ := P5.out.out
          obtain ⟨hQ, hfQ⟩ := Q5.out.out
          obtain ⟨hV, hfV⟩ := V5.out.out
          obtain ⟨hT, hfT⟩ := T5.out.out
          go_wp2_with fail
          clear hP hfP hQ hfQ hV hfV hT hfT
          with_reducible refine (H4.out _).mono ?_
          rintro q_ w6 ⟨rfl, hb⟩
          have B6 := Lib.hid (vian HN.out B5.out hb)
          have P6 := Lib.hid (P5.out.below hb)
          have Q6 := Lib.hid (Q5.out.below hb)
          have V6 := Lib.hid (V5.out.below hb)
          have T6 := Lib.hid (T5.out.below hb)
          clear hb B5 P5 Q5 V5 T5
          obtain ⟨hP, hfP⟩ := P6.out.out
          obtain ⟨hQ, hfQ⟩ := Q6.out.out
          obtain ⟨hV, hfV⟩ := V6.out.out
          obtain ⟨hT, hfT⟩ := T6.out.out
          go_wp2_with fail
          clear hP hfP hQ hfQ hV hfV hT hfT
          with_reducible refine (H5.out _).mono ?_
          rintro q_ w7 ⟨rfl, hb⟩
          have B7 := Lib.hid (vian HN.out B6.out hb)
          have P7 := Lib.hid (P6.out.below hb)
          have Q7 := Lib.hid (Q6.out.below hb)
          have V7 := Lib.hid (V6.out.below hb)
          have T7 := Lib.hid (T6.out.below hb)
          clear hb B6 P6 Q6 V6 T6
          obtain ⟨hP, hfP⟩ := P7.out.out
          obtain ⟨hQ, hfQ⟩ := Q7.out.out
          obtain ⟨hV, hfV⟩ := V7.out.out
          obtain ⟨hT, hfT⟩ := T7.out.out
          go_wp2
          go_ret
          exact ⟨rfl, B7.out⟩
        | true =>
          obtain ⟨hP, hfP⟩ := P4.out.out
          obtain ⟨hQ, hfQ⟩ := Q4.out.out
          obtain ⟨hV, hfV⟩ := V4.out.out
          obtain ⟨hT, hfT⟩ := T4.out.out
          go_wp2_with fail
          clear hP hfP hQ hfQ hV hfV hT hfT
          with_reducible refine (H3.out _).mono ?_
          rintro q_ w5 ⟨rfl, hb⟩
          have B5 := Lib.hid (vian HN.out B4.out hb)
          have P5 := Lib.hid (P4.out.below hb)
          have Q5 := Lib.hid (Q4.out.below hb)
          have V5 := Lib.hid (V4.out.below hb)
          have T5 := Lib.hid (T4.out.below hb)
          clear hb B4 P4 Q4 V4 T4
          obtain ⟨hP, hfP⟩ := P5.out.out
          obtain ⟨hQ, hfQ⟩ := Q5.out.out
          obtain ⟨hV, hfV⟩ := V5.out.out
          obtain ⟨hT, hfT⟩ := T5.out.out
          go_wp2_with fail
          clear hP hfP hQ hfQ hV hfV hT hfT
          with_reducible refine (H4.out _).mono ?_
          rintro q_ w6 ⟨rfl, hb⟩
          have B6 := Lib.hid (vian HN.out B5.out hb)
          have P6 := Lib.hid (P5.out.below hb)
          have Q6 := Lib.hid (Q5.out.below hb)
          have V6 := Lib.hid (V5.out.below hb)
          have T6 := Lib.hid (T5.out.below hb)
          clear hb B5 P5 Q5 V5 T5
          obtain ⟨hP, hfP⟩ := P6.out.out
          obtain ⟨hQ, hfQ⟩ := Q6.out.out
          obtain ⟨hV, hfV⟩ := V6.out.out
          obtain ⟨hT, hfT⟩ := T6.out.out
          go_wp2_with fail
          clear hP hfP hQ hfQ hV hfV hT hfT
          with_reducible refine (H5.out _).mono ?_
          rintro q_ w7 ⟨rfl, hb⟩
          have B7 := Lib.hid (vian HN.out B6.out hb)
          have P7 := Lib.hid (P6.out.below hb)
          have Q7 := Lib.hid (Q6.out.below hb)
          have V7 := Lib.hid (V6.out.below hb)
          have T7 := Lib.hid (T6.out.below hb)
          clear hb B6 P6 Q6 V6 T6
          obtain ⟨hP, hfP⟩ := P7.out.out
          obtain ⟨hQ, hfQ⟩ := Q7.out.out
          obtain ⟨hV, hfV⟩ := V7.out.out
          obtain ⟨hT, hfT⟩ := T7.out.out
          go_wp2
          go_ret
          exact ⟨rfl, B7.out⟩
      · simp only [if_neg g] at P4 Q4 H4 H5
        have gb : (u == 0) = false := by simpa using g
        cases o with
        | false =>
          obtain ⟨hP, hfP⟩ := P4.out.out
          obtain ⟨hQ, hfQ⟩ := Q4.out.out
          obtain ⟨hV, hfV⟩ := V4.out.out
          obtain ⟨hT, hfT⟩ := T4.out.out
          go_wp2_with fail
          clear hP hfP hQ hfQ hV hfV hT hfT
          with_reducible refine (H3.out _).mono ?_
          rintro q_ w5 ⟨rfl, hb⟩
          have B5 := Lib.hid (vian HN.out B4.out hb)
          have P5 := Lib.hid (P4.out.below hb)
          have Q5 := Lib.hid (Q4.out.below hb)
          have V5 := Lib.hid (V4.out.below hb)
          have T5 := Lib.hid (T4.out.below hb)
          clear hb B4 P4 Q4 V4 T4
          obtain ⟨hP, hfP⟩ := P5.out.out
          obtain ⟨hQ, hfQ⟩ := Q5.out.out
          obtain ⟨hV, hfV⟩ := V5.out.out
          obtain ⟨hT, hfT⟩ := T5.out.out
          go_wp2_with fail
          clear hP hfP hQ hfQ hV hfV hT hfT
          with_reducible refine (H4.out _).mono ?_
          rintro q_ w6 ⟨rfl, hb⟩
          have B6 := Lib.hid (vian HN.out B5.out hb)
          have P6 := Lib.hid (P5.out.below hb)
          have Q6 := Lib.hid (Q5.out.below hb)
          have V6 := Lib.hid (V5.out.below hb)
          have T6 := Lib.hid (T5.out.below hb)
          clear hb B5 P5 Q5 V5 T5
          obtain ⟨hP, hfP⟩ := P6.out.out
          obtain ⟨hQ, hfQ⟩ := Q6.out.out
          obtain ⟨hV, hfV⟩ := V6.out.out
          obtain ⟨hT, hfT⟩ := T6.out.out
          go_wp2_with fail
          clear hP hfP hQ hfQ hV hfV hT hfT
          with_reducible refine (H5.out _).mono ?_
          rintro q_ w7 ⟨rfl, hb⟩
          have B7 := Lib.hid (vian HN.out B6.out hb)
          have P7 := Lib.hid (P6.out.below hb)
          have Q7 := Lib.hid (Q6.out.below hb)
          have V7 := Lib.hid (V6.out.below hb)
          have T7 := Lib.hid (T6.out.below hb)
          clear hb B6 P6 Q6 V6 T6
          obtain ⟨hP, hfP⟩ := P7.out.out
          obtain ⟨hQ, hfQ⟩ := Q7.out.out
          obtain ⟨hV, hfV⟩ := V7.out.out
          obtain ⟨hT, hfT⟩ := T7.out.out
          go_wp2
          go_ret
          exact ⟨rfl, B7.out⟩
        | true =>
          obtain ⟨hP, hfP⟩ := P4.out.out
          obtain ⟨hQ, hfQ⟩ := Q4.out.out
          obtain ⟨hV, hfV⟩ := V4.out.out
          obtain ⟨hT, hfT⟩ := T4.out.out
          go_wp2_with fail
          clear hP hfP hQ hfQ hV hfV hT hfT
          with_reducible refine (H3.out _).mono ?_
          rintro q_ w5 ⟨rfl, hb⟩
          have B5 := Lib.hid (vian HN.out B4.out hb)
          have P5 := Lib.hid (P4.out.below hb)
          have Q5 := Lib.hid (Q4.out.below hb)
          have V5 := Lib.hid (V4.out.below hb)
          have T5 := Lib.hid (T4.out.below hb)
          clear hb B4 P4 Q4 V4 T4
          obtain ⟨hP, hfP⟩ := P5.out.out
          obtain ⟨hQ, hfQ⟩ := Q5.out.out
          obtain ⟨hV, hfV⟩ := V5.out.out
          obtain ⟨hT, hfT⟩ := T5.out.out
          go_wp2_with fail
          clear hP hfP hQ hfQ hV hfV hT hfT
          with_reducible refine (H4.out _).mono ?_
          rintro q_ w6 ⟨rfl, hb⟩
          have B6 := Lib.hid (vian HN.out B5.out hb)
          have P6 := Lib.hid (P5.out.below hb)
          have Q6 := Lib.hid (Q5.out.below hb)
          have V6 := Lib.hid (V5.out.below hb)
          have T6 := Lib.hid (T5.out.below hb)
          clear hb B5 P5 Q5 V5 T5
          obtain ⟨hP, hfP⟩ := P6.out.out
          obtain ⟨hQ, hfQ⟩ := Q6.out.out
          obtain ⟨hV, hfV⟩ := V6.out.out
          obtain ⟨hT, hfT⟩ := T6.out.out
          go_wp2_with fail
          clear hP hfP hQ hfQ hV hfV hT hfT
          with_reducible refine (H5.out _).mono ?_
          rintro q_ w7 ⟨rfl, hb⟩
          have B7 := Lib.hid (vian HN.out B6.out hb)
          have P7 := Lib.hid (P6.out.below hb)
          have Q7 := Lib.hid (Q6.out.below hb)
          have V7 := Lib.hid (V6.out.below hb)
          have T7 := Lib.hid (T6.out.below hb)
          clear hb B6 P6 Q6 V6 T6
          obtain ⟨hP, hfP⟩ := P7.out.out
          obtain ⟨hQ, hfQ⟩ := Q7.out.out
          obtain ⟨hV, hfV⟩ := V7.out.out
          obtain ⟨hT, hfT⟩ := T7.out.out
          go_wp2
          go_ret
          exact ⟨rfl, B7.out⟩
theorem sets_walk (v : TV) (n : Nat) (hv : v.ok) (hn1 : n < 256) (w : World) (hG : Glob w) : Calls Tryd.prog 6 #[.agg #[.int .u16 v.c, .int .u8 v.a, .int .u8 v.m, .int .u8 v.k, .bool v.o], .int .u8 n] w fun q_ w' => q_ = .returned (.bool true) ∧ Below w.heap.size w w' := by
  obtain ⟨c, a, m, k, o⟩ := v
  obtain ⟨⟨h1, h2⟩, ⟨h3, h4⟩, ⟨h5, h6⟩, h7, h8⟩ := hv
  dsimp only at h1 h2 h3 h4 h5 h6 h7 h8 ⊢
  have ok : TV.ok ⟨c, a, m, k % 8, o⟩ := ⟨⟨h1, h2⟩, ⟨h3, h4⟩, ⟨h5, h6⟩, by dsimp only; omega⟩
  have HW := sets_ways c a m (k % 8) n o _ _ _ rfl rfl rfl
  have okA := wr_ok ok 0 n (by omega) (by omega)
  have okB := wr_ok ok 3 0 (by omega) (by omega)
  refine sets_f c a m k o _ n _ _ _ h7 h8 rfl (fun W hG => pw_c _ _ 0 n ok (by omega) (by omega) rfl W hG) (fun W hG => pw_c _ _ 3 0 ok (by omega) (by omega) rfl W hG) (fun W => rs_c c a m (k % 8) o _ h1 h2 (by omega) (by omega) rfl W) (fun W => prd_c _ 0 0 okA ?_ W) (fun W => prd_c _ 3 248 okB ?_ W) h3 h4 _ rfl HW w hG
  · rcases HW with ⟨_, e, _⟩ | ⟨_, e, _⟩
    · rw [e]; rfl
    · rw [e]; rfl
  · rcases HW with ⟨_, _, e⟩ | ⟨_, _, e⟩
    · rw [e]; rfl
    · rw [e]; rfl
end Go.Proofs.YtjjmnjkmfkcdoaaDoor
