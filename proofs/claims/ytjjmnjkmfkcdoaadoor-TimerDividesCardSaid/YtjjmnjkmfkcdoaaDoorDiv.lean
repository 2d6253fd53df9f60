/-
  The walk through TimerDivides: for every timer; no condition but that each number fits, and that the table lies as it is laid.
-/
import Derived.Test.YtjjmnjkmfkcdoaaDoorOpn
import Derived.Test.YtjjmnjkmfkcdoaaDoorAwk
import Derived.Deep.Cut
import Derived.Deep.LoopGhost
namespace Go.Proofs.YtjjmnjkmfkcdoaaDoor
open Go.ChangeShapes Go.WideShapes Go.ChangeAt Go.RowKit
set_option linter.unusedVariables false
set_option linter.unusedSimpArgs false
set_option maxRecDepth 100000
set_option maxHeartbeats 4000000 in
theorem div_walk (v : TV) (n : Nat) (hn1 : n < 65536) (hv : v.ok) (w : World) (hglob : Glob w) : Calls Tryd.prog 8 #[.agg #[.int .u16 v.c, .int .u8 v.a, .int .u8 v.m, .int .u8 v.k, .bool v.o], .int .u16 n] w fun q_ w' => q_ = .returned (.bool true) ∧ Below w.heap.size w w' := by
  suffices hall : ∀ (n_ : Nat) (W0 : World), n_ ≤ W0.heap.size → Below n_ W0 w → Tab n_ W0 → Calls Tryd.prog 8 #[.agg #[.int .u16 v.c, .int .u8 v.a, .int .u8 v.m, .int .u8 v.k, .bool v.o], .int .u16 n] w fun q_ w' => q_ = .returned (.bool true) ∧ Below n_ W0 w' from hall _ _ (Nat.le_refl _) (Below.refl _ _) ⟨hglob.1, hglob⟩
  intro n_ W0 hn hB hT
  have HN := Lib.hid hn
  have BB := Lib.hid hB
  have TT := Lib.hid hT
  clear hn hB hT hglob
  have AW := Lib.hid awake_c
  have VOK := Lib.hid hv
  have hnot : ∀ (x : Bool) (w : World), (Op.unary .not (.bool x)).run Tryd.prog w = .ok (.bool (!x)) w := fun _ _ => rfl
  obtain ⟨k, hk⟩ : ∃ k : Nat, k = n % 2000 := ⟨_, rfl⟩
  have hkw : (n : Int).tmod 2000 = (k : Int) := by rw [Int.tmod_eq_emod_of_nonneg (by omega)]; omega
  have hk2 : k < 2000 := by omega
  have KE := Lib.hid hk
  clear hk hv
  go_enter Tryd.func8, Tryd.ntmps8
  have B0 := Lib.hid (vian HN.out BB.out (own1 w (.cells #[.int .u16 v.c, .int .u8 v.a, .int .u8 v.m, .int .u8 v.k, .bool v.o] 24)))
  have V0 := Lib.hid (Has.new w #[.int .u16 v.c, .int .u8 v.a, .int .u8 v.m, .int .u8 v.k, .bool v.o] 24)
  have LV := Lib.hid (Nat.le_trans HN.out BB.out.size)
  go_upto_region 1 with (fail)
  generalize w.alloc (.cells #[.int .u16 v.c, .int .u8 v.a, .int .u8 v.m, .int .u8 v.k, .bool v.o] 24) = w0 at B0 V0 ⊢
  generalize w.heap.size = vb at V0 LV ⊢
  go_wp2_with fail
  with_reducible refine (AW.out _ (TT.out.next B0.out).g).mono ?_
  rintro q_ w1 ⟨rfl, hb⟩
  have B1 := Lib.hid (vian HN.out B0.out hb)
  have V1 := Lib.hid (V0.out.below hb)
  clear hb B0 V0
  have T2 := Lib.hid (Has.new w1 #[.int .u16 v.c, .int .u8 v.a, .int .u8 v.m, .int .u8 v.k, .bool v.o] 27)
  have V2 := Lib.hid (V1.out.alloc (.cells #[.int .u16 v.c, .int .u8 v.a, .int .u8 v.m, .int .u8 v.k, .bool v.o] 27))
  have B2 := Lib.hid (vian HN.out B1.out (own1 w1 (.cells #[.int .u16 v.c, .int .u8 v.a, .int .u8 v.m, .int .u8 v.k, .bool v.o] 27)))
  have LT := Lib.hid (Nat.le_trans HN.out B1.out.size)
  have NVT := Lib.hid (show vb ≠ w1.heap.size from fun e => absurd V1.out.1 (Nat.not_lt.2 (Nat.le_of_eq e.symm)))
  obtain ⟨hc, hf⟩ := V1.out.out
  go_upto_region 4 with (fail)
  generalize w1.alloc (.cells #[.int .u16 v.c, .int .u8 v.a, .int .u8 v.m, .int .u8 v.k, .bool v.o] 27) = w2 at T2 V2 B2 ⊢
  generalize w1.heap.size = tb at T2 LT NVT ⊢
  clear B1 V1
  clear hc hf
  go_wp2
  go_loopg [14] k (fun g' i wr => ∃ (t : Nat) (m : TV), t ≤ k ∧ g' + t = k ∧ i = .int .i64 t ∧ m = itV t v ∧ Below n_ W0 wr ∧ Has wr vb #[.int .u16 v.c, .int .u8 v.a, .int .u8 v.m, .int .u8 v.k, .bool v.o] ∧ Has wr tb #[.int .u16 m.c, .int .u8 m.a, .int .u8 m.m, .int .u8 m.k, .bool m.o])
  case atStart => exact ⟨0, v, by omega, by omega, rfl, rfl, B2.out, V2.out, T2.out⟩
  case round =>
    obtain ⟨t, m, ht, hg, rfl, hm, hB, hV, hT⟩ := hrel
    have TG := Lib.hid hg
    have ME := Lib.hid hm
    have MOK := Lib.hid (show m.ok from hm ▸ it_ok VOK.out t)
    have B0 := Lib.hid hB
    have V0 := Lib.hid hV
    have T0 := Lib.hid hT
    clear hg hm hB hV hT B2 V2 T2
    by_cases hlt : t < k
    · have l1 : (t : Int) < k := by omega
      have l0 : (0 : Int) ≤ t := by omega
      obtain ⟨m', hm'⟩ : ∃ q_, tickV m = q_ := ⟨_, rfl⟩
      have DC := Lib.hid (fun W hG => pt_c m m' MOK.out hm' W hG)
      have ME' := Lib.hid (show m' = itV (t + 1) v by rw [← hm', ME.out]; rfl)
      clear hm'
      obtain ⟨hc, hf⟩ := T0.out.out
      go_wp2_with fail
      with_reducible refine (DC.out _ (TT.out.next B0.out).g).mono ?_
      rintro q_ w1 ⟨rfl, hb⟩
      have B1 := Lib.hid (vian HN.out B0.out hb)
      have V1 := Lib.hid (V0.out.below hb)
      have T1 := Lib.hid (T0.out.below hb)
      clear hb hc hf B0 V0 T0
      have B3 := Lib.hid (set5 B1.out tb LT.out (.int .u16 m'.c) (.int .u8 m'.a) (.int .u8 m'.m) (.int .u8 m'.k) (.bool m'.o))
      have V3 := Lib.hid (V1.out.far5 NVT.out (.int .u16 m'.c) (.int .u8 m'.a) (.int .u8 m'.m) (.int .u8 m'.k) (.bool m'.o))
      have T3 := Lib.hid (T1.out.put5 (.int .u16 m'.c) (.int .u8 m'.a) (.int .u8 m'.m) (.int .u8 m'.k) (.bool m'.o))
      clear B1 V1
      obtain ⟨hc, hf⟩ := T1.out.out
      go_wp2
      go_roundg (gk - 1)
      exact ⟨t + 1, m', by omega, by have := TG.out; omega, by simp, ME'.out, B3.out, V3.out, T3.out⟩
      case measure => have := TG.out; omega
    · have et : t = k := by omega
      subst et
      obtain ⟨y, hy⟩ : ∃ q_, readV m 0 = q_ := ⟨_, rfl⟩
      have RD := Lib.hid (fun W => prd_c m 0 y MOK.out hy W)
      have hc0 := VOK.out.1.1
      have hc1 := VOK.out.1.2
      have ey : y = (v.c + 4 * t) / 256 % 256 := by
        have e1 := ME.out ▸ it_c VOK.out t
        rw [← hy]; show m.c / 256 = _; omega
      have yb : 0 ≤ y ∧ y < 256 := by omega
      have hraw : (IntKind.i64.wrap y == (IntKind.i64.wrap ((IntKind.i64.wrap (IntKind.i64.wrap v.c + IntKind.i64.wrap (4 * (t : Int)))).tdiv 256)).tmod 256) = true := by
        rw [IntWalk.i64_in y (by omega), IntWalk.i64_in v.c (by omega), IntWalk.i64_in (4 * (t : Int)) (by omega), IntWalk.i64_in (v.c + 4 * (t : Int)) (by omega), Int.tdiv_eq_ediv_of_nonneg (by omega), IntWalk.i64_in ((v.c + 4 * (t : Int)) / 256) (by omega), Int.tmod_eq_emod_of_nonneg (by omega), ey]
        exact beq_self_eq_true _
      clear hy yb
      have HR := Lib.hid hraw
      clear hraw
      have EY := Lib.hid ey
      clear ey
      go_upto_region 9 with (fail)
      refine wp_region_held_drew (S := (fun w' => (∀ o, w'.cell? ⟨vb, o, none⟩ = #[.int .u16 v.c, .int .u8 v.a, .int .u8 v.m, .int .u8 v.k, .bool v.o][o]?) ∧ (∀ o, w'.cell? ⟨tb, o, none⟩ = #[.int .u16 m.c, .int .u8 m.a, .int .u8 m.m, .int .u8 m.k, .bool m.o][o]?))) (by kernel_rfl) ⟨V0.out.2.1, T0.out.2.1⟩ (fun hHeld => ?_)
      have B0 := Lib.hid B0.out.drew
      have V0 := Lib.hid V0.out.drew
      have T0 := Lib.hid T0.out.drew
      generalize World.drew wr = u0 at hHeld B0 V0 T0 ⊢
      refine wpAnyH_take (i := 0) (oi := { dst := some 22, op := Go.Op.load 27 (Go.Operand.tmp 5), type := 27, pos := "law.go:149", after := #[], guard := none }) (v := ?v1) rfl (by kernel_rfl) (by kernel_rfl) (by kernel_rfl) (fun _ _ _ h => h) (Or.inl ⟨by rfl, ?y1⟩) (by assumption) ?z1
      case y1 => (intro w hSw; (try dsimp only at hSw); go_simp) <;> with_reducible rfl
      try simp only [Act.put, List.setIfInBounds_toArray, List.set_cons_zero, List.set_cons_succ]
      refine wpAnyH_take (i := 3) (oi := { dst := some 25, op := Go.Op.fieldAddr 24 (Go.Operand.tmp 2) 0, type := 0, pos := "law.go:149", after := #[], guard := none }) (v := ?v2) rfl (by kernel_rfl) (by kernel_rfl) (by kernel_rfl) (fun _ _ _ h => h) (Or.inl ⟨by rfl, ?y2⟩) (by assumption) ?z2
      case y2 => (intro w hSw; (try dsimp only at hSw); go_simp) <;> with_reducible rfl
      try simp only [Act.put, List.setIfInBounds_toArray, List.set_cons_zero, List.set_cons_succ]
      refine wpAnyH_take (i := 4) (oi := { dst := some 26, op := Go.Op.load 22 (Go.Operand.tmp 25), type := 22, pos := "law.go:149", after := #[{ on := 3, ground := Go.Ground.data }], guard := none }) (v := ?v3) rfl (by kernel_rfl) (by kernel_rfl) (by kernel_rfl) (fun _ _ _ h => h) (Or.inl ⟨by rfl, ?y3⟩) (by assumption) ?z3
      case y3 => (intro w hSw; (try dsimp only at hSw); go_simp) <;> with_reducible rfl
      try simp only [Act.put, List.setIfInBounds_toArray, List.set_cons_zero, List.set_cons_succ]
      refine wpAnyH_take (i := 5) (oi := { dst := some 27, op := Go.Op.convert 22 3 (Go.Operand.tmp 26), type := 3, pos := "law.go:149", after := #[{ on := 4, ground := Go.Ground.data }], guard := none }) (v := ?v4) rfl (by kernel_rfl) (by kernel_rfl) (by kernel_rfl) (fun _ _ _ h => h) (Or.inl ⟨by rfl, ?y4⟩) (by assumption) ?z4
      case y4 => (intro w hSw; (try dsimp only at hSw); go_simp) <;> with_reducible rfl
      try simp only [Act.put, List.setIfInBounds_toArray, List.set_cons_zero, List.set_cons_succ]
      refine wpAnyH_take (i := 6) (oi := { dst := some 28, op := Go.Op.move (Go.Operand.tmp 6), type := 3, pos := "law.go:149", after := #[], guard := none }) (v := ?v5) rfl (by kernel_rfl) (by kernel_rfl) (by kernel_rfl) (fun _ _ _ h => h) (Or.inl ⟨by rfl, ?y5⟩) (by assumption) ?z5
      case y5 => (intro w hSw; (try dsimp only at hSw); go_simp) <;> with_reducible rfl
      try simp only [Act.put, List.setIfInBounds_toArray, List.set_cons_zero, List.set_cons_succ]
      refine wpAnyH_take (i := 7) (oi := { dst := some 29, op := Go.Op.binOp Go.BinOp.mul 3 (Go.Operand.const (Go.Value.int Go.IntKind.i64 4)) (Go.Operand.tmp 28) 3, type := 3, pos := "law.go:149", after := #[{ on := 6, ground := Go.Ground.data }], guard := none }) (v := ?v6) rfl (by kernel_rfl) (by kernel_rfl) (by kernel_rfl) (fun _ _ _ h => h) (Or.inl ⟨by rfl, ?y6⟩) (by assumption) ?z6
      case y6 => (intro w hSw; (try dsimp only at hSw); go_simp) <;> with_reducible rfl
      try simp only [Act.put, List.setIfInBounds_toArray, List.set_cons_zero, List.set_cons_succ]
      refine wpAnyH_take (i := 8) (oi := { dst := some 30, op := Go.Op.binOp Go.BinOp.add 3 (Go.Operand.tmp 27) (Go.Operand.tmp 29) 3, type := 3, pos := "law.go:149", after := #[{ on := 5, ground := Go.Ground.data }, { on := 7, ground := Go.Ground.data }], guard := none }) (v := ?v7) rfl (by kernel_rfl) (by kernel_rfl) (by kernel_rfl) (fun _ _ _ h => h) (Or.inl ⟨by rfl, ?y7⟩) (by assumption) ?z7
      case y7 => (intro w hSw; (try dsimp only at hSw); go_simp) <;> with_reducible rfl
      try simp only [Act.put, List.setIfInBounds_toArray, List.set_cons_zero, List.set_cons_succ]
      refine wpAnyH_take (i := 9) (oi := { dst := some 31, op := Go.Op.binOp Go.BinOp.quo 3 (Go.Operand.tmp 30) (Go.Operand.const (Go.Value.int Go.IntKind.i64 256)) 3, type := 3, pos := "law.go:149", after := #[{ on := 8, ground := Go.Ground.data }], guard := none }) (v := ?v8) rfl (by kernel_rfl) (by kernel_rfl) (by kernel_rfl) (fun _ _ _ h => h) (Or.inl ⟨by rfl, ?y8⟩) (by assumption) ?z8
      case y8 => (intro w hSw; (try dsimp only at hSw); go_simp) <;> with_reducible rfl
      try simp only [Act.put, List.setIfInBounds_toArray, List.set_cons_zero, List.set_cons_succ]
      refine wpAnyH_take (i := 10) (oi := { dst := some 32, op := Go.Op.binOp Go.BinOp.rem 3 (Go.Operand.tmp 31) (Go.Operand.const (Go.Value.int Go.IntKind.i64 256)) 3, type := 3, pos := "law.go:149", after := #[{ on := 9, ground := Go.Ground.data }], guard := none }) (v := ?v9) rfl (by kernel_rfl) (by kernel_rfl) (by kernel_rfl) (fun _ _ _ h => h) (Or.inl ⟨by rfl, ?y9⟩) (by assumption) ?z9
      case y9 => (intro w hSw; (try dsimp only at hSw); go_simp) <;> with_reducible rfl
      try simp only [Act.put, List.setIfInBounds_toArray, List.set_cons_zero, List.set_cons_succ]
      refine wpAnyH_ready (rs := [1]) (by kernel_rfl) (by simp) ?_
      refine (AllReadyH.cons (o := { dst := some 23, op := Go.Op.call { callee := Go.Callee.value (Go.Operand.func 14), args := #[Go.Operand.tmp 22, Go.Operand.const (Go.Value.int Go.IntKind.i64 0)], argTypes := #[27, 3] }, type := 5, pos := "law.go:149", after := #[{ on := 0, ground := Go.Ground.data }], guard := none }) rfl (fun K hK => ?_) AllReadyH.nil)
      · skip
        go_simp
        with_reducible refine (RD.out _).mono ?_
        rintro q_ u1 ⟨rfl, hb⟩
        have B1 := Lib.hid (vian HN.out B0.out hb)
        have V1 := Lib.hid (V0.out.below hb)
        have T1 := Lib.hid (T0.out.below hb)
        clear hb B0 V0 T0
        refine hK.out _ _ ?s10 (fun hNew => ?r10)
        case s10 => exact ⟨V1.out.2.1, T1.out.2.1⟩
        clear hK K hHeld
        have hHeld := hNew
        clear hNew
        refine wpAnyH_take (i := 2) (oi := { dst := some 24, op := Go.Op.convert 5 3 (Go.Operand.tmp 23), type := 3, pos := "law.go:149", after := #[{ on := 1, ground := Go.Ground.data }], guard := none }) (v := ?v11) rfl (by kernel_rfl) (by kernel_rfl) (by kernel_rfl) (fun _ _ _ h => h) (Or.inl ⟨by rfl, ?y11⟩) (by assumption) ?z11
        case y11 => (intro w hSw; (try dsimp only at hSw); go_simp) <;> with_reducible rfl
        try simp only [Act.put, List.setIfInBounds_toArray, List.set_cons_zero, List.set_cons_succ]
        refine wpAnyH_take (i := 11) (oi := { dst := some 33, op := Go.Op.binOp Go.BinOp.eql 3 (Go.Operand.tmp 24) (Go.Operand.tmp 32) 3, type := 4, pos := "law.go:149", after := #[{ on := 2, ground := Go.Ground.data }, { on := 10, ground := Go.Ground.data }], guard := none }) (v := ?v12) rfl (by kernel_rfl) (by kernel_rfl) (by kernel_rfl) (fun _ _ _ h => h) (Or.inl ⟨by rfl, ?y12⟩) (by assumption) ?z12
        case y12 => (intro w hSw; (try dsimp only at hSw); go_simp) <;> with_reducible rfl
        try simp only [Act.put, List.setIfInBounds_toArray, List.set_cons_zero, List.set_cons_succ]
        refine wpAnyH_take (i := 12) (oi := { dst := some 4, op := Go.Op.assign (Go.Operand.tmp 33), type := 4, pos := "law.go:149", after := #[{ on := 11, ground := Go.Ground.data }, { on := 1, ground := Go.Ground.chain }, { on := 0, ground := Go.Ground.phase }, { on := 1, ground := Go.Ground.phase }, { on := 2, ground := Go.Ground.phase }, { on := 3, ground := Go.Ground.phase }, { on := 4, ground := Go.Ground.phase }, { on := 5, ground := Go.Ground.phase }, { on := 6, ground := Go.Ground.phase }, { on := 7, ground := Go.Ground.phase }, { on := 8, ground := Go.Ground.phase }, { on := 9, ground := Go.Ground.phase }, { on := 10, ground := Go.Ground.phase }, { on := 11, ground := Go.Ground.phase }], guard := none }) (v := ?v13) rfl (by kernel_rfl) (by kernel_rfl) (by kernel_rfl) (fun _ _ _ h => h) (Or.inl ⟨by rfl, ?y13⟩) (by assumption) ?z13
        case y13 => (intro w hSw; (try dsimp only at hSw); go_simp) <;> with_reducible rfl
        try simp only [Act.put, List.setIfInBounds_toArray, List.set_cons_zero, List.set_cons_succ]
        refine wpAnyH_done (by kernel_rfl) ?_ _
        clear hHeld
        go_wp2
        go_ret
        refine ⟨?_, B1.out⟩
        simp only [HR.out]
        rfl
end Go.Proofs.YtjjmnjkmfkcdoaaDoor
