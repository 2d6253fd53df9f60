/-
  The walk through CpuSoon, case 0: it returns true, for every such input and every world; no condition.
-/
import Derived.Test.YtngdogldgcgnjaaGreatL3
import Derived.Deep.Cut
import Derived.LoopN
namespace Go.Proofs.YtngdogldgcgnjaaGreat
open Go.ChangeShapes Go.WideShapes Go.ChangeAt Go.RowKit
open Reg
set_option linter.unusedVariables false
set_option maxRecDepth 100000
section
set_option maxHeartbeats 4000000 in
theorem soon_0 (s : St) (ok : s.r.ok) (a : Int) (a0 : 0 ≤ a) (a1 : a < 256) (hk : a % 4 = 0) (w : World) : Calls Tryz.prog 7 #[.agg #[.int .u8 s.r.a, .int .u8 s.r.f, .int .u8 s.r.b, .int .u8 s.r.c, .int .u8 s.r.d, .int .u8 s.r.e, .int .u8 s.r.h, .int .u8 s.r.l, .int .u16 s.r.sp, .int .u16 s.r.pc, .bool s.ime, .bool s.soon, .bool s.halt, .bool s.stop], .int .u8 a] w fun e w' => e = .returned (.bool true) ∧ Below w.heap.size w w' := by
  have hnot : ∀ (x : Bool) (w : World), (Op.unary .not (.bool x)).run Tryz.prog w = .ok (.bool (!x)) w := fun _ _ => rfl
  have hmk := mk_run
  have HB := Lib.hid (own1 w (.cells #[.int .u8 s.r.a, .int .u8 s.r.f, .int .u8 s.r.b, .int .u8 s.r.c, .int .u8 s.r.d, .int .u8 s.r.e, .int .u8 s.r.h, .int .u8 s.r.l, .int .u16 s.r.sp, .int .u16 s.r.pc, .bool s.ime, .bool s.soon, .bool s.halt, .bool s.stop] 26))
  have HR := Lib.hid (Has.new w #[.int .u8 s.r.a, .int .u8 s.r.f, .int .u8 s.r.b, .int .u8 s.r.c, .int .u8 s.r.d, .int .u8 s.r.e, .int .u8 s.r.h, .int .u8 s.r.l, .int .u16 s.r.sp, .int .u16 s.r.pc, .bool s.ime, .bool s.soon, .bool s.halt, .bool s.stop] 26)
  go_enter Tryz.func7, Tryz.ntmps7
  go_wp2_with fail
  refine (awake_c _).mono ?_
  rintro e w1 ⟨rfl, hb1⟩
  have HB1 := Lib.hid (via HB.out hb1)
  have HR0 := Lib.hid (HR.out.below hb1)
  clear HB HR hb1
  have r0 := Ram.zero w1
  go_wp2
  clear hmk
  have B0 := Lib.hid (via HB1.out (own2 w1 (.cells zeroM 5) (.cells #[.slice (some ⟨w1.heap.size, 0, none⟩) 65536 65536, .slice none 0 0] 35)))
  have HR1 := Lib.hid ((HR0.out.below (own2 w1 (.cells zeroM 5) (.cells #[.slice (some ⟨w1.heap.size, 0, none⟩) 65536 65536, .slice none 0 0] 35))).drew)
  have NM := Lib.hid (show ¬ w1.heap.size = w.heap.size by have := HR0.out.1; omega)
  have LM := Lib.hid HB1.out.size
  clear HR0 HB1
  generalize ((w1.alloc (.cells zeroM 5)).alloc (.cells #[.slice (some ⟨w1.heap.size, 0, none⟩) 65536 65536, .slice none 0 0] 35)) = w0 at B0 r0 HR1 ⊢
  generalize hM : w1.heap.size = M at r0 NM LM ⊢
  generalize hR : M + 1 = R at r0 ⊢
  have LR := Lib.hid (show w.heap.size ≤ R by have := LM.out; omega)
  clear hR hM
  have R1 := Lib.hid (r0.below (Below.refl _ _).drew)
  have B1 := Lib.hid (B0.out.drew)
  clear r0 B0
  refine wp_region_held_drew (S := (fun w' => (w'.cell? ⟨R, 0, none⟩ = some (.slice (some ⟨M, 0, none⟩) 65536 65536)) ∧ True)) (by kernel_rfl) ⟨R1.out.ram.2.1 0, trivial⟩ (fun hHeld => ?_)
  generalize World.drew w0 = u1 at hHeld R1 B1 HR1 ⊢
  refine wpAnyH_take (i := 0) (oi := { dst := some 16, op := Go.Op.move (Go.Operand.tmp 5), type := 31, pos := "law.go:180", after := #[], guard := none }) (v := ?v1) rfl (by kernel_rfl) (by kernel_rfl) (by kernel_rfl) (fun _ _ _ h => h) (Or.inl ⟨by rfl, ?y1⟩) (by assumption) ?z1
  case y1 => (intro w hSw; (try dsimp only at hSw); go_simp) <;> with_reducible rfl
  try simp only [Act.put, List.setIfInBounds_toArray, List.set_cons_zero, List.set_cons_succ]
  refine wpAnyH_take (i := 1) (oi := { dst := some 17, op := Go.Op.nilCheck (Go.Operand.tmp 16), type := 0, pos := "law.go:180", after := #[{ on := 0, ground := Go.Ground.data }], guard := none }) (v := ?v2) rfl (by kernel_rfl) (by kernel_rfl) (by kernel_rfl) (fun _ _ _ h => h) (Or.inl ⟨by rfl, ?y2⟩) (by assumption) ?z2
  case y2 => (intro w hSw; (try dsimp only at hSw); go_simp) <;> with_reducible rfl
  try simp only [Act.put, List.setIfInBounds_toArray, List.set_cons_zero, List.set_cons_succ]
  refine wpAnyH_take (i := 2) (oi := { dst := some 18, op := Go.Op.fieldAddr 35 (Go.Operand.tmp 17) 0, type := 0, pos := "law.go:180", after := #[{ on := 1, ground := Go.Ground.data }], guard := none }) (v := ?v3) rfl (by kernel_rfl) (by kernel_rfl) (by kernel_rfl) (fun _ _ _ h => h) (Or.inl ⟨by rfl, ?y3⟩) (by assumption) ?z3
  case y3 => (intro w hSw; (try dsimp only at hSw); go_simp) <;> with_reducible rfl
  try simp only [Act.put, List.setIfInBounds_toArray, List.set_cons_zero, List.set_cons_succ]
  refine wpAnyH_take (i := 3) (oi := { dst := some 19, op := Go.Op.load 27 (Go.Operand.tmp 18), type := 27, pos := "law.go:180", after := #[{ on := 2, ground := Go.Ground.data }], guard := none }) (v := ?v4) rfl (by kernel_rfl) (by kernel_rfl) (by kernel_rfl) (fun _ _ _ h => h) (Or.inl ⟨by rfl, ?y4⟩) (by assumption) ?z4
  case y4 => (intro w hSw; (try dsimp only at hSw); go_simp) <;> with_reducible rfl
  try simp only [Act.put, List.setIfInBounds_toArray, List.set_cons_zero, List.set_cons_succ]
  refine wpAnyH_take (i := 4) (oi := { dst := some 20, op := Go.Op.move (Go.Operand.tmp 5), type := 31, pos := "law.go:180", after := #[], guard := none }) (v := ?v5) rfl (by kernel_rfl) (by kernel_rfl) (by kernel_rfl) (fun _ _ _ h => h) (Or.inl ⟨by rfl, ?y5⟩) (by assumption) ?z5
  case y5 => (intro w hSw; (try dsimp only at hSw); go_simp) <;> with_reducible rfl
  try simp only [Act.put, List.setIfInBounds_toArray, List.set_cons_zero, List.set_cons_succ]
  refine wpAnyH_take (i := 5) (oi := { dst := some 21, op := Go.Op.nilCheck (Go.Operand.tmp 20), type := 0, pos := "law.go:180", after := #[{ on := 4, ground := Go.Ground.data }], guard := none }) (v := ?v6) rfl (by kernel_rfl) (by kernel_rfl) (by kernel_rfl) (fun _ _ _ h => h) (Or.inl ⟨by rfl, ?y6⟩) (by assumption) ?z6
  case y6 => (intro w hSw; (try dsimp only at hSw); go_simp) <;> with_reducible rfl
  try simp only [Act.put, List.setIfInBounds_toArray, List.set_cons_zero, List.set_cons_succ]
  refine wpAnyH_take (i := 6) (oi := { dst := some 22, op := Go.Op.fieldAddr 35 (Go.Operand.tmp 21) 0, type := 0, pos := "law.go:180", after := #[{ on := 5, ground := Go.Ground.data }], guard := none }) (v := ?v7) rfl (by kernel_rfl) (by kernel_rfl) (by kernel_rfl) (fun _ _ _ h => h) (Or.inl ⟨by rfl, ?y7⟩) (by assumption) ?z7
  case y7 => (intro w hSw; (try dsimp only at hSw); go_simp) <;> with_reducible rfl
  try simp only [Act.put, List.setIfInBounds_toArray, List.set_cons_zero, List.set_cons_succ]
  refine wpAnyH_take (i := 7) (oi := { dst := some 23, op := Go.Op.load 27 (Go.Operand.tmp 22), type := 27, pos := "law.go:180", after := #[{ on := 6, ground := Go.Ground.data }], guard := none }) (v := ?v8) rfl (by kernel_rfl) (by kernel_rfl) (by kernel_rfl) (fun _ _ _ h => h) (Or.inl ⟨by rfl, ?y8⟩) (by assumption) ?z8
  case y8 => (intro w hSw; (try dsimp only at hSw); go_simp) <;> with_reducible rfl
  try simp only [Act.put, List.setIfInBounds_toArray, List.set_cons_zero, List.set_cons_succ]
  refine wpAnyH_take (i := 8) (oi := { dst := some 24, op := Go.Op.indexAddr 27 (Go.Operand.tmp 19) (Go.Operand.const (Go.Value.int Go.IntKind.i64 65295)), type := 0, pos := "law.go:180", after := #[{ on := 3, ground := Go.Ground.data }, { on := 0, ground := Go.Ground.phase }, { on := 1, ground := Go.Ground.phase }, { on := 2, ground := Go.Ground.phase }, { on := 3, ground := Go.Ground.phase }, { on := 4, ground := Go.Ground.textOnly Go.Departure.lateStores }, { on := 5, ground := Go.Ground.textOnly Go.Departure.lateStoresUnsure }, { on := 6, ground := Go.Ground.textOnly Go.Departure.lateStoresUnsure }, { on := 7, ground := Go.Ground.phase }], guard := none }) (v := ?v9) rfl (by kernel_rfl) (by kernel_rfl) (by kernel_rfl) (fun _ _ _ h => h) (Or.inl ⟨by rfl, ?y9⟩) (by assumption) ?z9
  case y9 => (intro w hSw; (try dsimp only at hSw); go_simp) <;> with_reducible rfl
  try simp only [Act.put, List.setIfInBounds_toArray, List.set_cons_zero, List.set_cons_succ]
  refine wpAnyH_ready (rs := [9]) (by kernel_rfl) (by simp) ?_
  refine (AllReadyH.cons (o := { dst := none, op := Go.Op.store 5 (Go.Operand.tmp 24) (Go.Operand.const (Go.Value.int Go.IntKind.u8 1)), type := 0, pos := "law.go:180", after := #[{ on := 8, ground := Go.Ground.data }, { on := 0, ground := Go.Ground.phase }, { on := 1, ground := Go.Ground.phase }, { on := 2, ground := Go.Ground.phase }, { on := 3, ground := Go.Ground.phase }, { on := 4, ground := Go.Ground.textOnly Go.Departure.lateStores }, { on := 5, ground := Go.Ground.textOnly Go.Departure.lateStoresUnsure }, { on := 6, ground := Go.Ground.textOnly Go.Departure.lateStoresUnsure }, { on := 7, ground := Go.Ground.phase }], guard := none }) rfl (fun K hK => ?_) AllReadyH.nil)
  · skip
    have hm := R1.out.mem 65295 (by decide)
    have hf := R1.out.free
    go_simp
    have R2 := Lib.hid (R1.out.poke 65295 (by decide) 1 (by decide) (by decide))
    have B2 := Lib.hid (B1.out.setCell (p := ⟨M, 65295, none⟩) LM.out (.int .u8 1))
    have HR2 := Lib.hid (HR1.out.far ⟨M, 65295, none⟩ (.int .u8 1) NM.out)
    refine hK.out _ _ ?s10 (fun hNew => ?r10)
    case s10 => exact ⟨R2.out.ram.2.1 0, trivial⟩
    clear hK K hHeld hm hf
    have hHeld := hNew
    clear hNew
    generalize World.setCell u1 ⟨M, 65295, none⟩ (.int .u8 1) = u2 at hHeld R2 B2 HR2 ⊢
    refine wpAnyH_take (i := 10) (oi := { dst := some 25, op := Go.Op.indexAddr 27 (Go.Operand.tmp 23) (Go.Operand.const (Go.Value.int Go.IntKind.i64 65535)), type := 0, pos := "law.go:180", after := #[{ on := 7, ground := Go.Ground.data }, { on := 0, ground := Go.Ground.phase }, { on := 1, ground := Go.Ground.phase }, { on := 2, ground := Go.Ground.phase }, { on := 3, ground := Go.Ground.phase }, { on := 4, ground := Go.Ground.phase }, { on := 5, ground := Go.Ground.phase }, { on := 6, ground := Go.Ground.phase }, { on := 7, ground := Go.Ground.phase }, { on := 8, ground := Go.Ground.phase }, { on := 9, ground := Go.Ground.phase }], guard := none }) (v := ?v11) rfl (by kernel_rfl) (by kernel_rfl) (by kernel_rfl) (fun _ _ _ h => h) (Or.inl ⟨by rfl, ?y11⟩) (by assumption) ?z11
    case y11 => (intro w hSw; (try dsimp only at hSw); go_simp) <;> with_reducible rfl
    try simp only [Act.put, List.setIfInBounds_toArray, List.set_cons_zero, List.set_cons_succ]
    refine wpAnyH_ready (rs := [11]) (by kernel_rfl) (by simp) ?_
    refine (AllReadyH.cons (o := { dst := none, op := Go.Op.store 5 (Go.Operand.tmp 25) (Go.Operand.const (Go.Value.int Go.IntKind.u8 1)), type := 0, pos := "law.go:180", after := #[{ on := 10, ground := Go.Ground.data }, { on := 9, ground := Go.Ground.chain }, { on := 0, ground := Go.Ground.phase }, { on := 1, ground := Go.Ground.phase }, { on := 2, ground := Go.Ground.phase }, { on := 3, ground := Go.Ground.phase }, { on := 4, ground := Go.Ground.phase }, { on := 5, ground := Go.Ground.phase }, { on := 6, ground := Go.Ground.phase }, { on := 7, ground := Go.Ground.phase }, { on := 8, ground := Go.Ground.phase }, { on := 9, ground := Go.Ground.phase }], guard := none }) rfl (fun K hK => ?_) AllReadyH.nil)
    · skip
      have hm := R2.out.mem 65535 (by decide)
      have hf := R2.out.free
      go_simp
      have R3 := Lib.hid (R2.out.poke 65535 (by decide) 1 (by decide) (by decide))
      have B3 := Lib.hid (B2.out.setCell (p := ⟨M, 65535, none⟩) LM.out (.int .u8 1))
      have HR3 := Lib.hid (HR2.out.far ⟨M, 65535, none⟩ (.int .u8 1) NM.out)
      refine hK.out _ _ ?s12 (fun hNew => ?r12)
      case s12 => exact ⟨R3.out.ram.2.1 0, trivial⟩
      clear hK K hHeld hm hf
      have hHeld := hNew
      clear hNew
      generalize World.setCell u2 ⟨M, 65535, none⟩ (.int .u8 1) = u3 at hHeld R3 B3 HR3 ⊢
      refine wpAnyH_done (by kernel_rfl) ?_ _
      clear R1 B1 HR1 R2 B2 HR2 hHeld
      have hrr := HR3.out.2.1
      go_wp2_with fail
      with_reducible refine (state_c s _).mono ?_
      rintro e w2 ⟨rfl, hb2⟩
      have R4 := Lib.hid (R3.out.below hb2)
      have B4 := Lib.hid (via B3.out hb2)
      clear R3 B3 HR3 hrr hb2
      go_upto_region 9 with (fail)
      have NS := Lib.hid (show ¬ w2.heap.size = M by have := R4.out.mlt; omega)
      have NSR := Lib.hid (show ¬ w2.heap.size = R by have := R4.out.ram.1; omega)
      have LS := Lib.hid B4.out.size
      have q6 := own6 w2 (.cells #[.int .u8 s.r.a, .int .u8 s.r.f, .int .u8 s.r.b, .int .u8 s.r.c, .int .u8 s.r.d, .int .u8 s.r.e, .int .u8 s.r.h, .int .u8 s.r.l, .int .u16 53248, .int .u16 256, .bool false, .bool false, .bool false, .bool false] 41) (.cells #[.int .u8 251, .int .u8 0, .int .u8 0] 5) (.cells #[.int .u8 251, .int .u8 243, .int .u8 0] 5) (.cells #[.int .u8 217, .int .u8 0, .int .u8 0] 5) (.cells #[.int .u8 251, .int .u8 251, .int .u8 0] 5) (.cells #[.slice (some ⟨w2.heap.size + 1, 0, none⟩) 3 3, .slice (some ⟨w2.heap.size + 1 + 1, 0, none⟩) 3 3, .slice (some ⟨w2.heap.size + 1 + 1 + 1, 0, none⟩) 3 3, .slice (some ⟨w2.heap.size + 1 + 1 + 1 + 1, 0, none⟩) 3 3] 27)
      have R5 := Lib.hid (R4.out.below q6)
      have B5 := Lib.hid (via B4.out q6)
      have H5 := Lib.hid ((((((Has.new w2 #[.int .u8 s.r.a, .int .u8 s.r.f, .int .u8 s.r.b, .int .u8 s.r.c, .int .u8 s.r.d, .int .u8 s.r.e, .int .u8 s.r.h, .int .u8 s.r.l, .int .u16 53248, .int .u16 256, .bool false, .bool false, .bool false, .bool false] 41).alloc (.cells #[.int .u8 251, .int .u8 0, .int .u8 0] 5)).alloc (.cells #[.int .u8 251, .int .u8 243, .int .u8 0] 5)).alloc (.cells #[.int .u8 217, .int .u8 0, .int .u8 0] 5)).alloc (.cells #[.int .u8 251, .int .u8 251, .int .u8 0] 5)).alloc (.cells #[.slice (some ⟨w2.heap.size + 1, 0, none⟩) 3 3, .slice (some ⟨w2.heap.size + 1 + 1, 0, none⟩) 3 3, .slice (some ⟨w2.heap.size + 1 + 1 + 1, 0, none⟩) 3 3, .slice (some ⟨w2.heap.size + 1 + 1 + 1 + 1, 0, none⟩) 3 3] 27))
      have c5 := (((((Has.new (World.alloc w2 (.cells #[.int .u8 s.r.a, .int .u8 s.r.f, .int .u8 s.r.b, .int .u8 s.r.c, .int .u8 s.r.d, .int .u8 s.r.e, .int .u8 s.r.h, .int .u8 s.r.l, .int .u16 53248, .int .u16 256, .bool false, .bool false, .bool false, .bool false] 41)) #[.int .u8 251, .int .u8 0, .int .u8 0] 5).alloc (.cells #[.int .u8 251, .int .u8 243, .int .u8 0] 5)).alloc (.cells #[.int .u8 217, .int .u8 0, .int .u8 0] 5)).alloc (.cells #[.int .u8 251, .int .u8 251, .int .u8 0] 5)).alloc (.cells #[.slice (some ⟨w2.heap.size + 1, 0, none⟩) 3 3, .slice (some ⟨w2.heap.size + 1 + 1, 0, none⟩) 3 3, .slice (some ⟨w2.heap.size + 1 + 1 + 1, 0, none⟩) 3 3, .slice (some ⟨w2.heap.size + 1 + 1 + 1 + 1, 0, none⟩) 3 3] 27))
      have ec : ((World.alloc w2 (.cells #[.int .u8 s.r.a, .int .u8 s.r.f, .int .u8 s.r.b, .int .u8 s.r.c, .int .u8 s.r.d, .int .u8 s.r.e, .int .u8 s.r.h, .int .u8 s.r.l, .int .u16 53248, .int .u16 256, .bool false, .bool false, .bool false, .bool false] 41))).heap.size = w2.heap.size + 1 := by simp
      rw [ec] at c5
      have C5 := Lib.hid c5
      clear c5 ec q6 R4 B4
      generalize (World.alloc (World.alloc (World.alloc (World.alloc (World.alloc (World.alloc w2 (.cells #[.int .u8 s.r.a, .int .u8 s.r.f, .int .u8 s.r.b, .int .u8 s.r.c, .int .u8 s.r.d, .int .u8 s.r.e, .int .u8 s.r.h, .int .u8 s.r.l, .int .u16 53248, .int .u16 256, .bool false, .bool false, .bool false, .bool false] 41)) (.cells #[.int .u8 251, .int .u8 0, .int .u8 0] 5)) (.cells #[.int .u8 251, .int .u8 243, .int .u8 0] 5)) (.cells #[.int .u8 217, .int .u8 0, .int .u8 0] 5)) (.cells #[.int .u8 251, .int .u8 251, .int .u8 0] 5)) (.cells #[.slice (some ⟨w2.heap.size + 1, 0, none⟩) 3 3, .slice (some ⟨w2.heap.size + 1 + 1, 0, none⟩) 3 3, .slice (some ⟨w2.heap.size + 1 + 1 + 1, 0, none⟩) 3 3, .slice (some ⟨w2.heap.size + 1 + 1 + 1 + 1, 0, none⟩) 3 3] 27)) = w3 at R5 B5 H5 C5 ⊢
      generalize w2.heap.size + 1 = cb at C5 ⊢
      generalize w2.heap.size = sb at H5 NS NSR LS ⊢
      have hr : w3.cell? ⟨R, 0, none⟩ = some (.slice (some ⟨M, 0, none⟩) 65536 65536) := R5.out.ram.2.1 0
      have hcp := R5.out.copy3 251 0 0 C5.out 256 65280 65280 (by decide) (by decide)
      go_upto_region 10 with (fail)
      clear hr hcp
      have R6 := Lib.hid (((R5.out.poke 256 (by decide) 251 (by decide) (by decide)).poke 257 (by decide) 0 (by decide) (by decide)).poke 258 (by decide) 0 (by decide) (by decide))
      have B6 := Lib.hid (((B5.out.setCell (p := ⟨M, 256, none⟩) LM.out (.int .u8 251)).setCell (p := ⟨M, 257, none⟩) LM.out (.int .u8 0)).setCell (p := ⟨M, 258, none⟩) LM.out (.int .u8 0))
      have H6 := Lib.hid (((H5.out.far ⟨M, 256, none⟩ (.int .u8 251) (fun e => NS.out e.symm)).far ⟨M, 257, none⟩ (.int .u8 0) (fun e => NS.out e.symm)).far ⟨M, 258, none⟩ (.int .u8 0) (fun e => NS.out e.symm))
      clear R5 B5 H5 C5
      generalize ((World.setCell w3 ⟨M, 256, none⟩ (.int .u8 251)).setCell ⟨M, 257, none⟩ (.int .u8 0)).setCell ⟨M, 258, none⟩ (.int .u8 0) = w4 at R6 B6 H6 ⊢
      have hr : w4.cell? ⟨R, 0, none⟩ = some (.slice (some ⟨M, 0, none⟩) 65536 65536) := R6.out.ram.2.1 0
      have hm := R6.out.mem 53249 (by decide)
      have hf := R6.out.free 53249
      go_upto_region 11 with (fail)
      clear hr hm hf
      have R7 := Lib.hid (R6.out.poke 53249 (by decide) 2 (by decide) (by decide))
      have B7 := Lib.hid (B6.out.setCell (p := ⟨M, 53249, none⟩) LM.out (.int .u8 2))
      have H7 := Lib.hid (H6.out.far ⟨M, 53249, none⟩ (.int .u8 2) (fun e => NS.out e.symm))
      clear R6 B6 H6
      generalize World.setCell w4 ⟨M, 53249, none⟩ (.int .u8 2) = w5 at R7 B7 H7 ⊢
      have R8 := Lib.hid (R7.out.below (own1 w5 (.cells #[.int .u8 0, .int .u8 0] 5)))
      have B8 := Lib.hid (via B7.out (own1 w5 (.cells #[.int .u8 0, .int .u8 0] 5)))
      have H8 := Lib.hid (H7.out.alloc (.cells #[.int .u8 0, .int .u8 0] 5))
      have C8 := Has.new w5 #[.int .u8 0, .int .u8 0] 5
      have hr : w5.cell? ⟨R, 0, none⟩ = some (.slice (some ⟨M, 0, none⟩) 65536 65536) := R7.out.ram.2.1 0
      have hcp := R8.out.copy2 0 0 C8 512 65024 65024 (by decide) (by decide)
      clear C8 R7 B7 H7
      go_upto_region 12 with (fail)
      clear hr hcp
      have R9 := Lib.hid ((R8.out.poke 512 (by decide) 0 (by decide) (by decide)).poke 513 (by decide) 0 (by decide) (by decide))
      have B9 := Lib.hid ((B8.out.setCell (p := ⟨M, 512, none⟩) LM.out (.int .u8 0)).setCell (p := ⟨M, 513, none⟩) LM.out (.int .u8 0))
      have H9 := Lib.hid ((H8.out.far ⟨M, 512, none⟩ (.int .u8 0) (fun e => NS.out e.symm)).far ⟨M, 513, none⟩ (.int .u8 0) (fun e => NS.out e.symm))
      clear R8 B8 H8
      generalize (World.setCell (World.alloc w5 (.cells #[.int .u8 0, .int .u8 0] 5)) ⟨M, 512, none⟩ (.int .u8 0)).setCell ⟨M, 513, none⟩ (.int .u8 0) = w6 at R9 B9 H9 ⊢
      go_wp2_with fail
      with_reducible refine (new_c _).mono ?_
      rintro e w' ⟨rfl, rfl⟩
      have T1 := Tab.new w6 81
      have B10 := Lib.hid (via B9.out (own1 w6 (.cells Tryz.zeroCells81 81)))
      have LT := Lib.hid B9.out.size
      have b10 := (R9.out.below (own1 w6 (.cells Tryz.zeroCells81 81))).bus (Or.inl T1) (by have := R9.out.ram.1; omega) (by have := R9.out.mlt; omega)
      have NT := Lib.hid (show ¬ sb = w6.heap.size by have := H9.out.1; omega)
      obtain ⟨y0, hy0⟩ : ∃ q, q = soonY0 s := ⟨_, rfl⟩
      have H10 := Lib.hid (show Has (w6.alloc (.cells Tryz.zeroCells81 81)) sb #[.int .u8 y0.s.r.a, .int .u8 y0.s.r.f, .int .u8 y0.s.r.b, .int .u8 y0.s.r.c, .int .u8 y0.s.r.d, .int .u8 y0.s.r.e, .int .u8 y0.s.r.h, .int .u8 y0.s.r.l, .int .u16 y0.s.r.sp, .int .u16 y0.s.r.pc, .bool y0.s.ime, .bool y0.s.soon, .bool y0.s.halt, .bool y0.s.stop] by rw [hy0]; exact H9.out.alloc _)
      have BB0 := Lib.hid (show Bus ramC (w6.alloc (.cells Tryz.zeroCells81 81)) R M w6.heap.size (.slice none 0 0) y0.m y0.acc 0 by rw [hy0]; exact b10)
      have OK0 := Lib.hid (show y0.s.r.ok by rw [hy0]; exact ok_pc (ok_sp ok 53248 (by decide) (by decide)) 256 (by decide) (by decide))
      have Y0 := Lib.hid hy0
      clear T1 b10 R9 B9 H9 hy0 ok
      generalize w6.alloc (.cells Tryz.zeroCells81 81) = w7 at B10 BB0 H10 ⊢
      generalize w6.heap.size = tb at LT NT BB0 ⊢
      have NB0 := Lib.hid (show ¬ BX R M tb (.slice none 0 0) sb from fun hx => by
        rcases hx with hx | hx | hx | hx
        · exact NSR.out hx
        · exact NS.out hx
        · exact NT.out hx
        · simp [Value.ownBlock] at hx)
      have OW0 := Lib.hid (World.ownsRow_nil w7 0 3 1)
      go_wp2
      refine wp_loop_rounds 4 ?_
      rw [rounds_succ]
      have QN0 := Lib.hid (show ∀ k, (Value.slice none 0 0).ownBlock = some k → ¬ BX R M tb (.slice none 0 0) k ∧ k ≠ sb from fun k hk => by simp [Value.ownBlock] at hk)
      have LQ0 := Lib.hid (show ∀ k, (Value.slice none 0 0).ownBlock = some k → w.heap.size ≤ k from fun k hk => by simp [Value.ownBlock] at hk)
      have LV0 := LQ0
      have hb := own1 w7 (.cells #[.int .i64 0, .int .i64 0, .int .u16 0, .int .i64 0, .int .i64 0, .int .i64 0, .int .i64 0, .int .u16 0, .bool false] 46)
      have bb := BB0.out.below hb
      have hh := H10.out.alloc (.cells #[.int .i64 0, .int .i64 0, .int .u16 0, .int .i64 0, .int .i64 0, .int .i64 0, .int .i64 0, .int .u16 0, .bool false] 46)
      have hd := Has.new w7 #[.int .i64 0, .int .i64 0, .int .u16 0, .int .i64 0, .int .i64 0, .int .i64 0, .int .i64 0, .int .u16 0, .bool false] 46
      have hcs := hh.2.1
      have ND := Lib.hid (show ¬ BX R M tb (.slice none 0 0) w7.heap.size from fun hx => by have := BB0.out.lt hx; omega)
      have NSD := Lib.hid (show ¬ sb = w7.heap.size by have := H10.out.1; omega)
      have LD := Lib.hid B10.out.size
      have bl := via B10.out hb
      have ow := OW0.out.alloc (.cells #[.int .i64 0, .int .i64 0, .int .u16 0, .int .i64 0, .int .i64 0, .int .i64 0, .int .i64 0, .int .u16 0, .bool false] 46)
      have QD := Lib.hid (show ∀ k, ((.slice none 0 0) : Value).ownBlock = some k → k ≠ w7.heap.size from fun k hk => by have := (OW0.out.lt k hk).2; omega)
      go_wp2_with fail
      with_reducible refine (Step_t bb (by omega) y0.s OK0.out).mono ?_
      rintro e ws ⟨rfl, ok', v1, b', m'⟩
      clear hcs
      obtain ⟨y1, hy⟩ : ∃ q_, q_ = stepS ⟨y0.s, y0.m, y0.acc⟩ := ⟨_, rfl⟩
      obtain ⟨D0, hD⟩ : ∃ q_, q_ = stepD ⟨y0.s, y0.m, y0.acc⟩ := ⟨_, rfl⟩
      rw [← hy] at b' ok' ⊢
      rw [← hD]
      unfold St.cells didC
      have Y1 := Lib.hid hy
      have DD0 := Lib.hid hD
      have OK1 := Lib.hid ok'
      clear hy hD ok'
      have hs' := hh.off m'.1 NB0.out
      have hd' := hd.off m'.1 ND.out
      have ow' := owns_off ow m'.1 (fun k hk => (QN0.out k hk).1)
      have bl' := bl.trans (m'.1.below (fun k hk hx => hx.elim (fun e => absurd LR.out (by omega)) (fun hx => hx.elim (fun e => absurd LM.out (by omega)) (fun hx => hx.elim (fun e => absurd LT.out (by omega)) (fun e => absurd (LV0.out k e) (by omega))))) bl.size)
      have LV1 := Lib.hid (show ∀ k, v1.ownBlock = some k → w.heap.size ≤ k from fun k hk => (m'.2 k hk).elim (fun e => LV0.out k e) (fun h => Nat.le_trans bl.size h))
      have NB1 := Lib.hid (m'.far hh.1 NB0.out)
      have ND' := m'.far hd.1 ND.out
      have QN := fun k (hk : ((.slice none 0 0) : Value).ownBlock = some k) => m'.far (ow.lt k hk).2 (QN0.out k hk).1
      clear bb hh hd hb bl ow m'
      generalize w7.heap.size = db0 at hd' ND ND' NSD LD QD ⊢
      have g1 := hs'.2.1
      have g2 := hs'.2.2
      have g3 := hd'.2.1
      have g4 := hd'.2.2
      have nsd := NSD.out
      have nsd2 : ¬ db0 = sb := fun e => nsd e.symm
      go_upto_region 18 with (fail)
      clear g1 g2 g3 g4
      have o1 := Off.put14 ws sb y1.s
      have o2 := Off.put9 (World.setCell (World.setCell (World.setCell (World.setCell (World.setCell (World.setCell (World.setCell (World.setCell (World.setCell (World.setCell (World.setCell (World.setCell (World.setCell (World.setCell ws ⟨sb, 0, none⟩ (.int .u8 y1.s.r.a)) ⟨sb, 1, none⟩ (.int .u8 y1.s.r.f)) ⟨sb, 2, none⟩ (.int .u8 y1.s.r.b)) ⟨sb, 3, none⟩ (.int .u8 y1.s.r.c)) ⟨sb, 4, none⟩ (.int .u8 y1.s.r.d)) ⟨sb, 5, none⟩ (.int .u8 y1.s.r.e)) ⟨sb, 6, none⟩ (.int .u8 y1.s.r.h)) ⟨sb, 7, none⟩ (.int .u8 y1.s.r.l)) ⟨sb, 8, none⟩ (.int .u16 y1.s.r.sp)) ⟨sb, 9, none⟩ (.int .u16 y1.s.r.pc)) ⟨sb, 10, none⟩ (.bool y1.s.ime)) ⟨sb, 11, none⟩ (.bool y1.s.soon)) ⟨sb, 12, none⟩ (.bool y1.s.halt)) ⟨sb, 13, none⟩ (.bool y1.s.stop)) db0 D0
      have hs2 := (hs'.put14 y1.s).off o2 nsd
      have hd2 := (hd'.off o1 nsd2).put9 D0
      have b2 := (b'.keep o1 (fun k hk e => NB1.out (by rw [← show k = sb from e]; exact hk))).keep o2 (fun k hk e => ND' (by rw [← show k = db0 from e]; exact hk))
      have ow2 := owns_off (owns_off ow' o1 (fun k hk e => (QN0.out k hk).2 e)) o2 (fun k hk e => QD.out k hk e)
      have bl2 := (bl'.trans (o1.below (fun k hk e => by have := LS.out; have e' : k = sb := e; omega) bl'.size)).trans (o2.below (fun k hk e => by have := LD.out; have e' : k = db0 := e; omega) (Nat.le_trans bl'.size o1.size))
      clear o1 o2 hs' hd' b' ow' bl'
      generalize (World.setCell (World.setCell (World.setCell (World.setCell (World.setCell (World.setCell (World.setCell (World.setCell (World.setCell (World.setCell (World.setCell (World.setCell (World.setCell (World.setCell (World.setCell (World.setCell (World.setCell (World.setCell (World.setCell (World.setCell (World.setCell (World.setCell (World.setCell ws ⟨sb, 0, none⟩ (.int .u8 y1.s.r.a)) ⟨sb, 1, none⟩ (.int .u8 y1.s.r.f)) ⟨sb, 2, none⟩ (.int .u8 y1.s.r.b)) ⟨sb, 3, none⟩ (.int .u8 y1.s.r.c)) ⟨sb, 4, none⟩ (.int .u8 y1.s.r.d)) ⟨sb, 5, none⟩ (.int .u8 y1.s.r.e)) ⟨sb, 6, none⟩ (.int .u8 y1.s.r.h)) ⟨sb, 7, none⟩ (.int .u8 y1.s.r.l)) ⟨sb, 8, none⟩ (.int .u16 y1.s.r.sp)) ⟨sb, 9, none⟩ (.int .u16 y1.s.r.pc)) ⟨sb, 10, none⟩ (.bool y1.s.ime)) ⟨sb, 11, none⟩ (.bool y1.s.soon)) ⟨sb, 12, none⟩ (.bool y1.s.halt)) ⟨sb, 13, none⟩ (.bool y1.s.stop)) ⟨db0, 0, none⟩ (.int .i64 D0.what)) ⟨db0, 1, none⟩ (.int .i64 D0.n)) ⟨db0, 2, none⟩ (.int .u16 D0.at')) ⟨db0, 3, none⟩ (.int .i64 D0.o.k)) ⟨db0, 4, none⟩ (.int .i64 D0.o.x)) ⟨db0, 5, none⟩ (.int .i64 D0.o.y)) ⟨db0, 6, none⟩ (.int .i64 D0.o.s)) ⟨db0, 7, none⟩ (.int .u16 D0.o.n)) ⟨db0, 8, none⟩ (.bool D0.t)) = ub at hs2 hd2 b2 ow2 bl2 ⊢
      obtain ⟨g1, cap1, x1, hrun, ho, hg, hat⟩ := app_int ow2 D0.what (by decide)
      have HRUN := Lib.hid (show (Builtin.append_ #[64, 64] 64 #[(.slice none 0 0), .slice (some ⟨ub.heap.size, 0, none⟩) 1 1]).run Tryz.prog (ub.alloc (.cells #[.int .i64 D0.what] 3)) = .ok (.slice (some ⟨g1, 0, none⟩) 1 cap1) x1 from hrun)
      have oa := own1 ub (.cells #[.int .i64 D0.what] 3)
      have og : Off (fun k => ((.slice none 0 0) : Value).ownBlock = some k) (ub.alloc (.cells #[.int .i64 D0.what] 3)) x1 := ⟨hg.os, hg.tape, hg.output, hg.size, fun k hk hn => hg.block k hk (fun e => hn e.symm)⟩
      have HS1 := Lib.hid ((hs2.below oa).off og (fun e => (QN0.out sb e).2 rfl))
      have BB1 := Lib.hid ((b2.below oa).keep og (fun k hk e => QN k e hk))
      have OW1 := Lib.hid (show x1.ownsRow 0 3 1 (.slice (some ⟨g1, 0, none⟩) 1 cap1) 1 (([] : List Value) ++ [.int .i64 D0.what]) from ho)
      have BL1 := Lib.hid ((via bl2 oa).trans (og.below (fun k hk e => absurd (LQ0.out k e) (by omega)) (via bl2 oa).size))
      have gne : g1 = (ub.alloc (.cells #[.int .i64 D0.what] 3)).heap.size → w.heap.size ≤ g1 := fun e => by rw [e]; exact (via bl2 oa).size
      have LQ1 := Lib.hid (show ∀ k, (Value.slice (some ⟨g1, 0, none⟩) 1 cap1).ownBlock = some k → w.heap.size ≤ k from fun k hk => (show g1 = k from Option.some.inj hk) ▸ (hat.elim (fun e => LQ0.out _ e.symm) gne))
      have QN1 := Lib.hid (show ∀ k, (Value.slice (some ⟨g1, 0, none⟩) 1 cap1).ownBlock = some k → ¬ BX R M tb v1 k ∧ k ≠ sb from fun k hk => (show g1 = k from Option.some.inj hk) ▸ (hat.elim (fun e => ⟨QN _ e.symm, (QN0.out _ e.symm).2⟩) (fun e => ⟨fun hx => absurd ((b2.below oa).lt hx) (by omega), fun h => absurd (hs2.below oa).1 (by omega)⟩)))
      have hdw : ub.cell? ⟨db0, 0, none⟩ = some (.int .i64 D0.what) := hd2.2.1 0
      clear hs2 hd2 b2 ow2 bl2 oa og hrun ho hg hat gne QN ND' nsd nsd2
      go_wp2_with (at_builtin; refine wpList_append_run rfl _ _ 64 _ _ _ rfl rfl rfl HRUN.out ?_)
      clear hdw HRUN ND NSD LD QD B10 H10 BB0 OW0 NB0 QN0 LQ0 LV0 OK0
      skip
      rw [rounds_succ]
      have hb := own1 x1 (.cells #[.int .i64 0, .int .i64 0, .int .u16 0, .int .i64 0, .int .i64 0, .int .i64 0, .int .i64 0, .int .u16 0, .bool false] 46)
      have bb := BB1.out.below hb
      have hh := HS1.out.alloc (.cells #[.int .i64 0, .int .i64 0, .int .u16 0, .int .i64 0, .int .i64 0, .int .i64 0, .int .i64 0, .int .u16 0, .bool false] 46)
      have hd := Has.new x1 #[.int .i64 0, .int .i64 0, .int .u16 0, .int .i64 0, .int .i64 0, .int .i64 0, .int .i64 0, .int .u16 0, .bool false] 46
      have hcs := hh.2.1
      have ND := Lib.hid (show ¬ BX R M tb v1 x1.heap.size from fun hx => by have := BB1.out.lt hx; omega)
      have NSD := Lib.hid (show ¬ sb = x1.heap.size by have := HS1.out.1; omega)
      have LD := Lib.hid BL1.out.size
      have bl := via BL1.out hb
      have ow := OW1.out.alloc (.cells #[.int .i64 0, .int .i64 0, .int .u16 0, .int .i64 0, .int .i64 0, .int .i64 0, .int .i64 0, .int .u16 0, .bool false] 46)
      have QD := Lib.hid (show ∀ k, ((.slice (some ⟨g1, 0, none⟩) 1 cap1) : Value).ownBlock = some k → k ≠ x1.heap.size from fun k hk => by have := (OW1.out.lt k hk).2; omega)
      go_wp2_with fail
      with_reducible refine (Step_t bb (by omega) y1.s OK1.out).mono ?_
      rintro e ws ⟨rfl, ok', v2, b', m'⟩
      clear hcs
      obtain ⟨y2, hy⟩ : ∃ q_, q_ = stepS ⟨y1.s, y1.m, y1.acc⟩ := ⟨_, rfl⟩
      obtain ⟨D1, hD⟩ : ∃ q_, q_ = stepD ⟨y1.s, y1.m, y1.acc⟩ := ⟨_, rfl⟩
      rw [← hy] at b' ok' ⊢
      rw [← hD]
      unfold St.cells didC
      have Y2 := Lib.hid hy
      have DD1 := Lib.hid hD
      have OK2 := Lib.hid ok'
      clear hy hD ok'
      have hs' := hh.off m'.1 NB1.out
      have hd' := hd.off m'.1 ND.out
      have ow' := owns_off ow m'.1 (fun k hk => (QN1.out k hk).1)
      have bl' := bl.trans (m'.1.below (fun k hk hx => hx.elim (fun e => absurd LR.out (by omega)) (fun hx => hx.elim (fun e => absurd LM.out (by omega)) (fun hx => hx.elim (fun e => absurd LT.out (by omega)) (fun e => absurd (LV1.out k e) (by omega))))) bl.size)
      have LV2 := Lib.hid (show ∀ k, v2.ownBlock = some k → w.heap.size ≤ k from fun k hk => (m'.2 k hk).elim (fun e => LV1.out k e) (fun h => Nat.le_trans bl.size h))
      have NB2 := Lib.hid (m'.far hh.1 NB1.out)
      have ND' := m'.far hd.1 ND.out
      have QN := fun k (hk : ((.slice (some ⟨g1, 0, none⟩) 1 cap1) : Value).ownBlock = some k) => m'.far (ow.lt k hk).2 (QN1.out k hk).1
      clear bb hh hd hb bl ow m'
      generalize x1.heap.size = db1 at hd' ND ND' NSD LD QD ⊢
      have g1 := hs'.2.1
      have g2 := hs'.2.2
      have g3 := hd'.2.1
      have g4 := hd'.2.2
      have nsd := NSD.out
      have nsd2 : ¬ db1 = sb := fun e => nsd e.symm
      go_upto_region 18 with (fail)
      clear g1 g2 g3 g4
      have o1 := Off.put14 ws sb y2.s
      have o2 := Off.put9 (World.setCell (World.setCell (World.setCell (World.setCell (World.setCell (World.setCell (World.setCell (World.setCell (World.setCell (World.setCell (World.setCell (World.setCell (World.setCell (World.setCell ws ⟨sb, 0, none⟩ (.int .u8 y2.s.r.a)) ⟨sb, 1, none⟩ (.int .u8 y2.s.r.f)) ⟨sb, 2, none⟩ (.int .u8 y2.s.r.b)) ⟨sb, 3, none⟩ (.int .u8 y2.s.r.c)) ⟨sb, 4, none⟩ (.int .u8 y2.s.r.d)) ⟨sb, 5, none⟩ (.int .u8 y2.s.r.e)) ⟨sb, 6, none⟩ (.int .u8 y2.s.r.h)) ⟨sb, 7, none⟩ (.int .u8 y2.s.r.l)) ⟨sb, 8, none⟩ (.int .u16 y2.s.r.sp)) ⟨sb, 9, none⟩ (.int .u16 y2.s.r.pc)) ⟨sb, 10, none⟩ (.bool y2.s.ime)) ⟨sb, 11, none⟩ (.bool y2.s.soon)) ⟨sb, 12, none⟩ (.bool y2.s.halt)) ⟨sb, 13, none⟩ (.bool y2.s.stop)) db1 D1
      have hs2 := (hs'.put14 y2.s).off o2 nsd
      have hd2 := (hd'.off o1 nsd2).put9 D1
      have b2 := (b'.keep o1 (fun k hk e => NB2.out (by rw [← show k = sb from e]; exact hk))).keep o2 (fun k hk e => ND' (by rw [← show k = db1 from e]; exact hk))
      have ow2 := owns_off (owns_off ow' o1 (fun k hk e => (QN1.out k hk).2 e)) o2 (fun k hk e => QD.out k hk e)
      have bl2 := (bl'.trans (o1.below (fun k hk e => by have := LS.out; have e' : k = sb := e; omega) bl'.size)).trans (o2.below (fun k hk e => by have := LD.out; have e' : k = db1 := e; omega) (Nat.le_trans bl'.size o1.size))
      clear o1 o2 hs' hd' b' ow' bl'
      generalize (World.setCell (World.setCell (World.setCell (World.setCell (World.setCell (World.setCell (World.setCell (World.setCell (World.setCell (World.setCell (World.setCell (World.setCell (World.setCell (World.setCell (World.setCell (World.setCell (World.setCell (World.setCell (World.setCell (World.setCell (World.setCell (World.setCell (World.setCell ws ⟨sb, 0, none⟩ (.int .u8 y2.s.r.a)) ⟨sb, 1, none⟩ (.int .u8 y2.s.r.f)) ⟨sb, 2, none⟩ (.int .u8 y2.s.r.b)) ⟨sb, 3, none⟩ (.int .u8 y2.s.r.c)) ⟨sb, 4, none⟩ (.int .u8 y2.s.r.d)) ⟨sb, 5, none⟩ (.int .u8 y2.s.r.e)) ⟨sb, 6, none⟩ (.int .u8 y2.s.r.h)) ⟨sb, 7, none⟩ (.int .u8 y2.s.r.l)) ⟨sb, 8, none⟩ (.int .u16 y2.s.r.sp)) ⟨sb, 9, none⟩ (.int .u16 y2.s.r.pc)) ⟨sb, 10, none⟩ (.bool y2.s.ime)) ⟨sb, 11, none⟩ (.bool y2.s.soon)) ⟨sb, 12, none⟩ (.bool y2.s.halt)) ⟨sb, 13, none⟩ (.bool y2.s.stop)) ⟨db1, 0, none⟩ (.int .i64 D1.what)) ⟨db1, 1, none⟩ (.int .i64 D1.n)) ⟨db1, 2, none⟩ (.int .u16 D1.at')) ⟨db1, 3, none⟩ (.int .i64 D1.o.k)) ⟨db1, 4, none⟩ (.int .i64 D1.o.x)) ⟨db1, 5, none⟩ (.int .i64 D1.o.y)) ⟨db1, 6, none⟩ (.int .i64 D1.o.s)) ⟨db1, 7, none⟩ (.int .u16 D1.o.n)) ⟨db1, 8, none⟩ (.bool D1.t)) = ub at hs2 hd2 b2 ow2 bl2 ⊢
      obtain ⟨g2, cap2, x2, hrun, ho, hg, hat⟩ := app_int ow2 D1.what (by decide)
      have HRUN := Lib.hid (show (Builtin.append_ #[64, 64] 64 #[(.slice (some ⟨g1, 0, none⟩) 1 cap1), .slice (some ⟨ub.heap.size, 0, none⟩) 1 1]).run Tryz.prog (ub.alloc (.cells #[.int .i64 D1.what] 3)) = .ok (.slice (some ⟨g2, 0, none⟩) 2 cap2) x2 from hrun)
      have oa := own1 ub (.cells #[.int .i64 D1.what] 3)
      have og : Off (fun k => ((.slice (some ⟨g1, 0, none⟩) 1 cap1) : Value).ownBlock = some k) (ub.alloc (.cells #[.int .i64 D1.what] 3)) x2 := ⟨hg.os, hg.tape, hg.output, hg.size, fun k hk hn => hg.block k hk (fun e => hn e.symm)⟩
      have HS2 := Lib.hid ((hs2.below oa).off og (fun e => (QN1.out sb e).2 rfl))
      have BB2 := Lib.hid ((b2.below oa).keep og (fun k hk e => QN k e hk))
      have OW2 := Lib.hid (show x2.ownsRow 0 3 1 (.slice (some ⟨g2, 0, none⟩) 2 cap2) 2 ((([] : List Value) ++ [.int .i64 D0.what]) ++ [.int .i64 D1.what]) from ho)
      have BL2 := Lib.hid ((via bl2 oa).trans (og.below (fun k hk e => absurd (LQ1.out k e) (by omega)) (via bl2 oa).size))
      have gne : g2 = (ub.alloc (.cells #[.int .i64 D1.what] 3)).heap.size → w.heap.size ≤ g2 := fun e => by rw [e]; exact (via bl2 oa).size
      have LQ2 := Lib.hid (show ∀ k, (Value.slice (some ⟨g2, 0, none⟩) 2 cap2).ownBlock = some k → w.heap.size ≤ k from fun k hk => (show g2 = k from Option.some.inj hk) ▸ (hat.elim (fun e => LQ1.out _ e.symm) gne))
      have QN2 := Lib.hid (show ∀ k, (Value.slice (some ⟨g2, 0, none⟩) 2 cap2).ownBlock = some k → ¬ BX R M tb v2 k ∧ k ≠ sb from fun k hk => (show g2 = k from Option.some.inj hk) ▸ (hat.elim (fun e => ⟨QN _ e.symm, (QN1.out _ e.symm).2⟩) (fun e => ⟨fun hx => absurd ((b2.below oa).lt hx) (by omega), fun h => absurd (hs2.below oa).1 (by omega)⟩)))
      have hdw : ub.cell? ⟨db1, 0, none⟩ = some (.int .i64 D1.what) := hd2.2.1 0
      clear hs2 hd2 b2 ow2 bl2 oa og hrun ho hg hat gne QN ND' nsd nsd2
      go_wp2_with (at_builtin; refine wpList_append_run rfl _ _ 64 _ _ _ rfl rfl rfl HRUN.out ?_)
      clear hdw HRUN ND NSD LD QD BL1 HS1 BB1 OW1 NB1 QN1 LQ1 LV1 OK1
      skip
      rw [rounds_succ]
      have hb := own1 x2 (.cells #[.int .i64 0, .int .i64 0, .int .u16 0, .int .i64 0, .int .i64 0, .int .i64 0, .int .i64 0, .int .u16 0, .bool false] 46)
      have bb := BB2.out.below hb
      have hh := HS2.out.alloc (.cells #[.int .i64 0, .int .i64 0, .int .u16 0, .int .i64 0, .int .i64 0, .int .i64 0, .int .i64 0, .int .u16 0, .bool false] 46)
      have hd := Has.new x2 #[.int .i64 0, .int .i64 0, .int .u16 0, .int .i64 0, .int .i64 0, .int .i64 0, .int .i64 0, .int .u16 0, .bool false] 46
      have hcs := hh.2.1
      have ND := Lib.hid (show ¬ BX R M tb v2 x2.heap.size from fun hx => by have := BB2.out.lt hx; omega)
      have NSD := Lib.hid (show ¬ sb = x2.heap.size by have := HS2.out.1; omega)
      have LD := Lib.hid BL2.out.size
      have bl := via BL2.out hb
      have ow := OW2.out.alloc (.cells #[.int .i64 0, .int .i64 0, .int .u16 0, .int .i64 0, .int .i64 0, .int .i64 0, .int .i64 0, .int .u16 0, .bool false] 46)
      have QD := Lib.hid (show ∀ k, ((.slice (some ⟨g2, 0, none⟩) 2 cap2) : Value).ownBlock = some k → k ≠ x2.heap.size from fun k hk => by have := (OW2.out.lt k hk).2; omega)
      go_wp2_with fail
      with_reducible refine (Step_t bb (by omega) y2.s OK2.out).mono ?_
      rintro e ws ⟨rfl, ok', v3, b', m'⟩
      clear hcs
      obtain ⟨y3, hy⟩ : ∃ q_, q_ = stepS ⟨y2.s, y2.m, y2.acc⟩ := ⟨_, rfl⟩
      obtain ⟨D2, hD⟩ : ∃ q_, q_ = stepD ⟨y2.s, y2.m, y2.acc⟩ := ⟨_, rfl⟩
      rw [← hy] at b' ok' ⊢
      rw [← hD]
      unfold St.cells didC
      have Y3 := Lib.hid hy
      have DD2 := Lib.hid hD
      have OK3 := Lib.hid ok'
      clear hy hD ok'
      have hs' := hh.off m'.1 NB2.out
      have hd' := hd.off m'.1 ND.out
      have ow' := owns_off ow m'.1 (fun k hk => (QN2.out k hk).1)
      have bl' := bl.trans (m'.1.below (fun k hk hx => hx.elim (fun e => absurd LR.out (by omega)) (fun hx => hx.elim (fun e => absurd LM.out (by omega)) (fun hx => hx.elim (fun e => absurd LT.out (by omega)) (fun e => absurd (LV2.out k e) (by omega))))) bl.size)
      have LV3 := Lib.hid (show ∀ k, v3.ownBlock = some k → w.heap.size ≤ k from fun k hk => (m'.2 k hk).elim (fun e => LV2.out k e) (fun h => Nat.le_trans bl.size h))
      have NB3 := Lib.hid (m'.far hh.1 NB2.out)
      have ND' := m'.far hd.1 ND.out
      have QN := fun k (hk : ((.slice (some ⟨g2, 0, none⟩) 2 cap2) : Value).ownBlock = some k) => m'.far (ow.lt k hk).2 (QN2.out k hk).1
      clear bb hh hd hb bl ow m'
      generalize x2.heap.size = db2 at hd' ND ND' NSD LD QD ⊢
      have g1 := hs'.2.1
      have g2 := hs'.2.2
      have g3 := hd'.2.1
      have g4 := hd'.2.2
      have nsd := NSD.out
      have nsd2 : ¬ db2 = sb := fun e => nsd e.symm
      go_upto_region 18 with (fail)
      clear g1 g2 g3 g4
      have o1 := Off.put14 ws sb y3.s
      have o2 := Off.put9 (World.setCell (World.setCell (World.setCell (World.setCell (World.setCell (World.setCell (World.setCell (World.setCell (World.setCell (World.setCell (World.setCell (World.setCell (World.setCell (World.setCell ws ⟨sb, 0, none⟩ (.int .u8 y3.s.r.a)) ⟨sb, 1, none⟩ (.int .u8 y3.s.r.f)) ⟨sb, 2, none⟩ (.int .u8 y3.s.r.b)) ⟨sb, 3, none⟩ (.int .u8 y3.s.r.c)) ⟨sb, 4, none⟩ (.int .u8 y3.s.r.d)) ⟨sb, 5, none⟩ (.int .u8 y3.s.r.e)) ⟨sb, 6, none⟩ (.int .u8 y3.s.r.h)) ⟨sb, 7, none⟩ (.int .u8 y3.s.r.l)) ⟨sb, 8, none⟩ (.int .u16 y3.s.r.sp)) ⟨sb, 9, none⟩ (.int .u16 y3.s.r.pc)) ⟨sb, 10, none⟩ (.bool y3.s.ime)) ⟨sb, 11, none⟩ (.bool y3.s.soon)) ⟨sb, 12, none⟩ (.bool y3.s.halt)) ⟨sb, 13, none⟩ (.bool y3.s.stop)) db2 D2
      have hs2 := (hs'.put14 y3.s).off o2 nsd
      have hd2 := (hd'.off o1 nsd2).put9 D2
      have b2 := (b'.keep o1 (fun k hk e => NB3.out (by rw [← show k = sb from e]; exact hk))).keep o2 (fun k hk e => ND' (by rw [← show k = db2 from e]; exact hk))
      have ow2 := owns_off (owns_off ow' o1 (fun k hk e => (QN2.out k hk).2 e)) o2 (fun k hk e => QD.out k hk e)
      have bl2 := (bl'.trans (o1.below (fun k hk e => by have := LS.out; have e' : k = sb := e; omega) bl'.size)).trans (o2.below (fun k hk e => by have := LD.out; have e' : k = db2 := e; omega) (Nat.le_trans bl'.size o1.size))
      clear o1 o2 hs' hd' b' ow' bl'
      generalize (World.setCell (World.setCell (World.setCell (World.setCell (World.setCell (World.setCell (World.setCell (World.setCell (World.setCell (World.setCell (World.setCell (World.setCell (World.setCell (World.setCell (World.setCell (World.setCell (World.setCell (World.setCell (World.setCell (World.setCell (World.setCell (World.setCell (World.setCell ws ⟨sb, 0, none⟩ (.int .u8 y3.s.r.a)) ⟨sb, 1, none⟩ (.int .u8 y3.s.r.f)) ⟨sb, 2, none⟩ (.int .u8 y3.s.r.b)) ⟨sb, 3, none⟩ (.int .u8 y3.s.r.c)) ⟨sb, 4, none⟩ (.int .u8 y3.s.r.d)) ⟨sb, 5, none⟩ (.int .u8 y3.s.r.e)) ⟨sb, 6, none⟩ (.int .u8 y3.s.r.h)) ⟨sb, 7, none⟩ (.int .u8 y3.s.r.l)) ⟨sb, 8, none⟩ (.int .u16 y3.s.r.sp)) ⟨sb, 9, none⟩ (.int .u16 y3.s.r.pc)) ⟨sb, 10, none⟩ (.bool y3.s.ime)) ⟨sb, 11, none⟩ (.bool y3.s.soon)) ⟨sb, 12, none⟩ (.bool y3.s.halt)) ⟨sb, 13, none⟩ (.bool y3.s.stop)) ⟨db2, 0, none⟩ (.int .i64 D2.what)) ⟨db2, 1, none⟩ (.int .i64 D2.n)) ⟨db2, 2, none⟩ (.int .u16 D2.at')) ⟨db2, 3, none⟩ (.int .i64 D2.o.k)) ⟨db2, 4, none⟩ (.int .i64 D2.o.x)) ⟨db2, 5, none⟩ (.int .i64 D2.o.y)) ⟨db2, 6, none⟩ (.int .i64 D2.o.s)) ⟨db2, 7, none⟩ (.int .u16 D2.o.n)) ⟨db2, 8, none⟩ (.bool D2.t)) = ub at hs2 hd2 b2 ow2 bl2 ⊢
      obtain ⟨g3, cap3, x3, hrun, ho, hg, hat⟩ := app_int ow2 D2.what (by decide)
      have HRUN := Lib.hid (show (Builtin.append_ #[64, 64] 64 #[(.slice (some ⟨g2, 0, none⟩) 2 cap2), .slice (some ⟨ub.heap.size, 0, none⟩) 1 1]).run Tryz.prog (ub.alloc (.cells #[.int .i64 D2.what] 3)) = .ok (.slice (some ⟨g3, 0, none⟩) 3 cap3) x3 from hrun)
      have oa := own1 ub (.cells #[.int .i64 D2.what] 3)
      have og : Off (fun k => ((.slice (some ⟨g2, 0, none⟩) 2 cap2) : Value).ownBlock = some k) (ub.alloc (.cells #[.int .i64 D2.what] 3)) x3 := ⟨hg.os, hg.tape, hg.output, hg.size, fun k hk hn => hg.block k hk (fun e => hn e.symm)⟩
      have HS3 := Lib.hid ((hs2.below oa).off og (fun e => (QN2.out sb e).2 rfl))
      have BB3 := Lib.hid ((b2.below oa).keep og (fun k hk e => QN k e hk))
      have OW3 := Lib.hid (show x3.ownsRow 0 3 1 (.slice (some ⟨g3, 0, none⟩) 3 cap3) 3 (((([] : List Value) ++ [.int .i64 D0.what]) ++ [.int .i64 D1.what]) ++ [.int .i64 D2.what]) from ho)
      have BL3 := Lib.hid ((via bl2 oa).trans (og.below (fun k hk e => absurd (LQ2.out k e) (by omega)) (via bl2 oa).size))
      have gne : g3 = (ub.alloc (.cells #[.int .i64 D2.what] 3)).heap.size → w.heap.size ≤ g3 := fun e => by rw [e]; exact (via bl2 oa).size
      have LQ3 := Lib.hid (show ∀ k, (Value.slice (some ⟨g3, 0, none⟩) 3 cap3).ownBlock = some k → w.heap.size ≤ k from fun k hk => (show g3 = k from Option.some.inj hk) ▸ (hat.elim (fun e => LQ2.out _ e.symm) gne))
      have QN3 := Lib.hid (show ∀ k, (Value.slice (some ⟨g3, 0, none⟩) 3 cap3).ownBlock = some k → ¬ BX R M tb v3 k ∧ k ≠ sb from fun k hk => (show g3 = k from Option.some.inj hk) ▸ (hat.elim (fun e => ⟨QN _ e.symm, (QN2.out _ e.symm).2⟩) (fun e => ⟨fun hx => absurd ((b2.below oa).lt hx) (by omega), fun h => absurd (hs2.below oa).1 (by omega)⟩)))
      have hdw : ub.cell? ⟨db2, 0, none⟩ = some (.int .i64 D2.what) := hd2.2.1 0
      clear hs2 hd2 b2 ow2 bl2 oa og hrun ho hg hat gne QN ND' nsd nsd2
      go_wp2_with (at_builtin; refine wpList_append_run rfl _ _ 64 _ _ _ rfl rfl rfl HRUN.out ?_)
      clear hdw HRUN ND NSD LD QD BL2 HS2 BB2 OW2 NB2 QN2 LQ2 LV2 OK2
      skip
      rw [rounds_succ]
      have pw := soonP0 s Y0.out Y1.out Y2.out Y3.out DD0.out DD1.out DD2.out
      have c0 : x3.cell? ⟨g3, 0, none⟩ = some (.int .i64 1) := by rw [row_cell OW3.out 0 _ rfl, pw.1]
      have c1 : x3.cell? ⟨g3, 1, none⟩ = some (.int .i64 1) := by rw [row_cell OW3.out 1 _ rfl, pw.2.1]
      have c2 : x3.cell? ⟨g3, 2, none⟩ = some (.int .i64 2) := by rw [row_cell OW3.out 2 _ rfl, pw.2.2.1]
      have hcs := HS3.out.2.1
      have hpc : y3.s.r.pc = 64 := pw.2.2.2.2
      have hime : y3.s.ime = false := pw.2.2.2.1
      rw [hpc, hime] at hcs
      go_wp2
      go_ret
      exact ⟨rfl, BL3.out⟩
end
end Go.Proofs.YtngdogldgcgnjaaGreat
