/-
  The walk through CpuStacks: it returns true, for every input and every world; no condition.
-/
import Derived.Test.YtngdogldgcgnjaaGreatL2
import Derived.Test.YtngdogldgcgnjaaGreatL4p
import Derived.Deep.Cut
import Derived.LoopN
namespace Go.Proofs.YtngdogldgcgnjaaGreat
open Go.ChangeShapes Go.WideShapes Go.ChangeAt Go.RowKit
open Reg
set_option linter.unusedVariables false
set_option maxRecDepth 100000
section
theorem Ram.copy6 {w : World} {R M cb : Nat} {m : Int → Int} (h : Ram w R M m) (x0 x1 x2 x3 x4 x5 : Int) (hb : Has w cb #[.int .u8 x0, .int .u8 x1, .int .u8 x2, .int .u8 x3, .int .u8 x4, .int .u8 x5]) (o n c : Nat) (ho : o + 6 ≤ 65536) (hn : 6 ≤ n) :
    (Builtin.copy_ #[27, 27] 3 #[.slice (some ⟨M, o, none⟩) n c, .slice (some ⟨cb, 0, none⟩) 6 6]).run Tryz.prog w = .ok (goInt 6) (((((((w.setCell ⟨M, o, none⟩ (.int .u8 x0)).setCell ⟨M, o + 1, none⟩ (.int .u8 x1)).setCell ⟨M, o + 1 + 1, none⟩ (.int .u8 x2)).setCell ⟨M, o + 1 + 1 + 1, none⟩ (.int .u8 x3)).setCell ⟨M, o + 1 + 1 + 1 + 1, none⟩ (.int .u8 x4)).setCell ⟨M, o + 1 + 1 + 1 + 1 + 1, none⟩ (.int .u8 x5))) := by
  have q := run_copy_cells (P := Tryz.prog) w 27 27 3 5 M o n c ⟨cb, 0, none⟩ 6 6 [.int .u8 x0, .int .u8 x1, .int .u8 x2, .int .u8 x3, .int .u8 x4, .int .u8 x5] Tryz.underlying27 sz1 (by show 6 = min 6 n; omega)
    (fun j v hj => by
      match j, hj with
      | 0, hj => simp at hj; subst hj; simpa [Addr.add] using hb.2.1 0
      | 1, hj => simp at hj; subst hj; simpa [Addr.add] using hb.2.1 1
      | 2, hj => simp at hj; subst hj; simpa [Addr.add] using hb.2.1 2
      | 3, hj => simp at hj; subst hj; simpa [Addr.add] using hb.2.1 3
      | 4, hj => simp at hj; subst hj; simpa [Addr.add] using hb.2.1 4
      | 5, hj => simp at hj; subst hj; simpa [Addr.add] using hb.2.1 5
      | j + 6, hj => simp at hj)
    (fun j hj => by rw [h.mem (o + j) (by simp at hj; omega)]; rfl) (fun j _ => h.free _) (by simp [Value.oneCell'])
  exact q
set_option maxHeartbeats 4000000 in
theorem cpuStacks.walk (s : St) (ok : s.r.ok) (n : Int) (n0 : 0 ≤ n) (n1 : n < 256) (t : Int) (t0 : 0 ≤ t) (t1 : t < 65536) (w : World) : Calls Tryz.prog 6 #[.agg #[.int .u8 s.r.a, .int .u8 s.r.f, .int .u8 s.r.b, .int .u8 s.r.c, .int .u8 s.r.d, .int .u8 s.r.e, .int .u8 s.r.h, .int .u8 s.r.l, .int .u16 s.r.sp, .int .u16 s.r.pc, .bool s.ime, .bool s.soon, .bool s.halt, .bool s.stop], .int .u8 n, .int .u16 t] w fun e w' => e = .returned (.bool true) ∧ Below w.heap.size w w' := by
  have hnot : ∀ (x : Bool) (w : World), (Op.unary .not (.bool x)).run Tryz.prog w = .ok (.bool (!x)) w := fun _ _ => rfl
  have hmk := mk_run
  have HB := Lib.hid (own1 w (.cells #[.int .u8 s.r.a, .int .u8 s.r.f, .int .u8 s.r.b, .int .u8 s.r.c, .int .u8 s.r.d, .int .u8 s.r.e, .int .u8 s.r.h, .int .u8 s.r.l, .int .u16 s.r.sp, .int .u16 s.r.pc, .bool s.ime, .bool s.soon, .bool s.halt, .bool s.stop] 26))
  have HR := Lib.hid (Has.new w #[.int .u8 s.r.a, .int .u8 s.r.f, .int .u8 s.r.b, .int .u8 s.r.c, .int .u8 s.r.d, .int .u8 s.r.e, .int .u8 s.r.h, .int .u8 s.r.l, .int .u16 s.r.sp, .int .u16 s.r.pc, .bool s.ime, .bool s.soon, .bool s.halt, .bool s.stop] 26)
  go_enter Tryz.func6, Tryz.ntmps6
  go_wp2_with fail
  refine (awake_c _).mono ?_
  rintro e w1 ⟨rfl, hb1⟩
  have HB1 := Lib.hid (via HB.out hb1)
  have HR0 := Lib.hid (HR.out.below hb1)
  clear HB HR hb1
  have r0 := Ram.zero w1
  go_upto_region 4 with (fail)
  clear hmk
  have B0 := Lib.hid (via HB1.out (own2 w1 (.cells zeroM 5) (.cells #[.slice (some ⟨w1.heap.size, 0, none⟩) 65536 65536, .slice none 0 0] 35)))
  have HR3 := Lib.hid (HR0.out.below (own2 w1 (.cells zeroM 5) (.cells #[.slice (some ⟨w1.heap.size, 0, none⟩) 65536 65536, .slice none 0 0] 35)))
  have LM := Lib.hid HB1.out.size
  clear HR0 HB1
  generalize ((w1.alloc (.cells zeroM 5)).alloc (.cells #[.slice (some ⟨w1.heap.size, 0, none⟩) 65536 65536, .slice none 0 0] 35)) = w0 at B0 r0 HR3 ⊢
  generalize hM : w1.heap.size = M at r0 LM ⊢
  generalize hR : M + 1 = R at r0 ⊢
  have LR := Lib.hid (show w.heap.size ≤ R by have := LM.out; omega)
  have R3 := Lib.hid r0
  clear hR hM r0
  have hrr := HR3.out.2.1
  go_wp2_with fail
  with_reducible refine (state_c s _).mono ?_
  rintro e w2 ⟨rfl, hb2⟩
  have R4 := Lib.hid (R3.out.below hb2)
  have B4 := Lib.hid (via B0.out hb2)
  clear R3 B0 HR3 hrr hb2
  go_upto_region 8 with (fail)
  have NS := Lib.hid (show ¬ w2.heap.size = M by have := R4.out.mlt; omega)
  have NSR := Lib.hid (show ¬ w2.heap.size = R by have := R4.out.ram.1; omega)
  have LS := Lib.hid B4.out.size
  generalize hfv : bits BinOp.and IntKind.u8 s.r.f 240 = fv
  obtain ⟨tn, htv, htn0, htn1⟩ := tv_ok t0 t1
  obtain ⟨kn, hkn⟩ : ∃ kn : Nat, n % 8 * 8 = (kn : Int) := ⟨(n % 8 * 8).toNat, by omega⟩
  have hkn1 : kn < 64 := by omega
  have hknI : (kn : Int) < 65536 := by omega
  have htnI : (tn : Int) < 65536 := by omega
  have hkw : IntKind.u16.wrap (IntKind.u16.wrap (n.tmod 8) * 8) = (kn : Int) := by rw [Int.tmod_eq_emod_of_nonneg n0, IntKind.wrap_u16, IntKind.wrap_u16]; omega
  rw [htv]
  have FV := Lib.hid hfv
  have R5 := Lib.hid (R4.out.below (own1 w2 (.cells #[.int .u8 s.r.a, .int .u8 fv, .int .u8 s.r.b, .int .u8 s.r.c, .int .u8 s.r.d, .int .u8 s.r.e, .int .u8 s.r.h, .int .u8 s.r.l, .int .u16 53248, .int .u16 256, .bool false, .bool false, .bool false, .bool false] 41)))
  have B5 := Lib.hid (via B4.out (own1 w2 (.cells #[.int .u8 s.r.a, .int .u8 fv, .int .u8 s.r.b, .int .u8 s.r.c, .int .u8 s.r.d, .int .u8 s.r.e, .int .u8 s.r.h, .int .u8 s.r.l, .int .u16 53248, .int .u16 256, .bool false, .bool false, .bool false, .bool false] 41)))
  have H5 := Lib.hid (Has.new w2 #[.int .u8 s.r.a, .int .u8 fv, .int .u8 s.r.b, .int .u8 s.r.c, .int .u8 s.r.d, .int .u8 s.r.e, .int .u8 s.r.h, .int .u8 s.r.l, .int .u16 53248, .int .u16 256, .bool false, .bool false, .bool false, .bool false] 41)
  clear R4 B4 hfv htv
  generalize World.alloc w2 (.cells #[.int .u8 s.r.a, .int .u8 fv, .int .u8 s.r.b, .int .u8 s.r.c, .int .u8 s.r.d, .int .u8 s.r.e, .int .u8 s.r.h, .int .u8 s.r.l, .int .u16 53248, .int .u16 256, .bool false, .bool false, .bool false, .bool false] 41) = w3 at R5 B5 H5 ⊢
  generalize w2.heap.size = sb at H5 NS NSR LS ⊢
  have hr : w3.cell? ⟨R, 0, none⟩ = some (.slice (some ⟨M, 0, none⟩) 65536 65536) := R5.out.ram.2.1 0
  have hcp := (R5.out.below (own1 w3 (.cells #[.int .u8 (197 + n % 4 * 16), .int .u8 205, .int .u8 ((tn : Int) % 256), .int .u8 ((tn : Int) / 256), .int .u8 (193 + n % 4 * 16), .int .u8 (199 + (kn : Int))] 5))).copy6 (197 + n % 4 * 16) 205 ((tn : Int) % 256) ((tn : Int) / 256) (193 + n % 4 * 16) (199 + (kn : Int)) (Has.new w3 #[.int .u8 (197 + n % 4 * 16), .int .u8 205, .int .u8 ((tn : Int) % 256), .int .u8 ((tn : Int) / 256), .int .u8 (193 + n % 4 * 16), .int .u8 (199 + (kn : Int))] 5) 256 65280 65280 (by decide) (by decide)
  go_upto_region 9 with (fail)
  clear hcp hr
  have R6 := Lib.hid (((((((R5.out.below (own1 w3 (.cells #[.int .u8 (197 + n % 4 * 16), .int .u8 205, .int .u8 ((tn : Int) % 256), .int .u8 ((tn : Int) / 256), .int .u8 (193 + n % 4 * 16), .int .u8 (199 + (kn : Int))] 5))).poke 256 (by decide) (197 + n % 4 * 16) (by omega) (by omega)).poke 257 (by decide) 205 (by omega) (by omega)).poke 258 (by decide) ((tn : Int) % 256) (by omega) (by omega)).poke 259 (by decide) ((tn : Int) / 256) (by omega) (by omega)).poke 260 (by decide) (193 + n % 4 * 16) (by omega) (by omega)).poke 261 (by decide) (199 + (kn : Int)) (by omega) (by omega))
  have B6 := Lib.hid (((((((via B5.out (own1 w3 (.cells #[.int .u8 (197 + n % 4 * 16), .int .u8 205, .int .u8 ((tn : Int) % 256), .int .u8 ((tn : Int) / 256), .int .u8 (193 + n % 4 * 16), .int .u8 (199 + (kn : Int))] 5))).setCell (p := ⟨M, 256, none⟩) LM.out (.int .u8 (197 + n % 4 * 16))).setCell (p := ⟨M, 257, none⟩) LM.out (.int .u8 205)).setCell (p := ⟨M, 258, none⟩) LM.out (.int .u8 ((tn : Int) % 256))).setCell (p := ⟨M, 259, none⟩) LM.out (.int .u8 ((tn : Int) / 256))).setCell (p := ⟨M, 260, none⟩) LM.out (.int .u8 (193 + n % 4 * 16))).setCell (p := ⟨M, 261, none⟩) LM.out (.int .u8 (199 + (kn : Int))))
  have H6 := Lib.hid (((((((H5.out.alloc (.cells #[.int .u8 (197 + n % 4 * 16), .int .u8 205, .int .u8 ((tn : Int) % 256), .int .u8 ((tn : Int) / 256), .int .u8 (193 + n % 4 * 16), .int .u8 (199 + (kn : Int))] 5)).far ⟨M, 256, none⟩ (.int .u8 (197 + n % 4 * 16)) (fun e => NS.out e.symm)).far ⟨M, 257, none⟩ (.int .u8 205) (fun e => NS.out e.symm)).far ⟨M, 258, none⟩ (.int .u8 ((tn : Int) % 256)) (fun e => NS.out e.symm)).far ⟨M, 259, none⟩ (.int .u8 ((tn : Int) / 256)) (fun e => NS.out e.symm)).far ⟨M, 260, none⟩ (.int .u8 (193 + n % 4 * 16)) (fun e => NS.out e.symm)).far ⟨M, 261, none⟩ (.int .u8 (199 + (kn : Int))) (fun e => NS.out e.symm))
  clear R5 B5 H5
  generalize (World.setCell (World.setCell (World.setCell (World.setCell (World.setCell (World.setCell (World.alloc w3 (.cells #[.int .u8 (197 + n % 4 * 16), .int .u8 205, .int .u8 ((tn : Int) % 256), .int .u8 ((tn : Int) / 256), .int .u8 (193 + n % 4 * 16), .int .u8 (199 + (kn : Int))] 5)) ⟨M, 256, none⟩ (.int .u8 (197 + n % 4 * 16))) ⟨M, 257, none⟩ (.int .u8 205)) ⟨M, 258, none⟩ (.int .u8 ((tn : Int) % 256))) ⟨M, 259, none⟩ (.int .u8 ((tn : Int) / 256))) ⟨M, 260, none⟩ (.int .u8 (193 + n % 4 * 16))) ⟨M, 261, none⟩ (.int .u8 (199 + (kn : Int)))) = w4 at R6 B6 H6 ⊢
  have R1 := Lib.hid (R6.out.below (Below.refl _ _).drew)
  have B1 := Lib.hid (B6.out.drew)
  have H1 := Lib.hid (H6.out.drew)
  clear R6 B6 H6
  refine wp_region_held_drew (S := (fun w' => (w'.cell? ⟨R, 0, none⟩ = some (.slice (some ⟨M, 0, none⟩) 65536 65536)) ∧ True)) (by kernel_rfl) ⟨R1.out.ram.2.1 0, trivial⟩ (fun hHeld => ?_)
  generalize World.drew w4 = u1 at hHeld R1 B1 H1 ⊢
  refine wpAnyH_take (i := 0) (oi := { dst := some 59, op := Go.Op.move (Go.Operand.tmp 7), type := 31, pos := "law.go:164", after := #[], guard := none }) (v := ?v1) rfl (by kernel_rfl) (by kernel_rfl) (by kernel_rfl) (fun _ _ _ h => h) (Or.inl ⟨by rfl, ?y1⟩) (by assumption) ?z1
  case y1 => (intro w hSw; (try dsimp only at hSw); go_simp) <;> with_reducible rfl
  try simp only [Act.put, List.setIfInBounds_toArray, List.set_cons_zero, List.set_cons_succ]
  refine wpAnyH_take (i := 1) (oi := { dst := some 60, op := Go.Op.nilCheck (Go.Operand.tmp 59), type := 0, pos := "law.go:164", after := #[{ on := 0, ground := Go.Ground.data }], guard := none }) (v := ?v2) rfl (by kernel_rfl) (by kernel_rfl) (by kernel_rfl) (fun _ _ _ h => h) (Or.inl ⟨by rfl, ?y2⟩) (by assumption) ?z2
  case y2 => (intro w hSw; (try dsimp only at hSw); go_simp) <;> with_reducible rfl
  try simp only [Act.put, List.setIfInBounds_toArray, List.set_cons_zero, List.set_cons_succ]
  refine wpAnyH_take (i := 2) (oi := { dst := some 61, op := Go.Op.fieldAddr 35 (Go.Operand.tmp 60) 0, type := 0, pos := "law.go:164", after := #[{ on := 1, ground := Go.Ground.data }], guard := none }) (v := ?v3) rfl (by kernel_rfl) (by kernel_rfl) (by kernel_rfl) (fun _ _ _ h => h) (Or.inl ⟨by rfl, ?y3⟩) (by assumption) ?z3
  case y3 => (intro w hSw; (try dsimp only at hSw); go_simp) <;> with_reducible rfl
  try simp only [Act.put, List.setIfInBounds_toArray, List.set_cons_zero, List.set_cons_succ]
  refine wpAnyH_take (i := 3) (oi := { dst := some 62, op := Go.Op.load 27 (Go.Operand.tmp 61), type := 27, pos := "law.go:164", after := #[{ on := 2, ground := Go.Ground.data }], guard := none }) (v := ?v4) rfl (by kernel_rfl) (by kernel_rfl) (by kernel_rfl) (fun _ _ _ h => h) (Or.inl ⟨by rfl, ?y4⟩) (by assumption) ?z4
  case y4 => (intro w hSw; (try dsimp only at hSw); go_simp) <;> with_reducible rfl
  try simp only [Act.put, List.setIfInBounds_toArray, List.set_cons_zero, List.set_cons_succ]
  refine wpAnyH_take (i := 4) (oi := { dst := some 63, op := Go.Op.move (Go.Operand.tmp 2), type := 22, pos := "law.go:164", after := #[], guard := none }) (v := ?v5) rfl (by kernel_rfl) (by kernel_rfl) (by kernel_rfl) (fun _ _ _ h => h) (Or.inl ⟨by rfl, ?y5⟩) (by assumption) ?z5
  case y5 => (intro w hSw; (try dsimp only at hSw); go_simp) <;> with_reducible rfl
  try simp only [Act.put, List.setIfInBounds_toArray, List.set_cons_zero, List.set_cons_succ]
  refine wpAnyH_take (i := 5) (oi := { dst := some 64, op := Go.Op.move (Go.Operand.tmp 7), type := 31, pos := "law.go:164", after := #[], guard := none }) (v := ?v6) rfl (by kernel_rfl) (by kernel_rfl) (by kernel_rfl) (fun _ _ _ h => h) (Or.inl ⟨by rfl, ?y6⟩) (by assumption) ?z6
  case y6 => (intro w hSw; (try dsimp only at hSw); go_simp) <;> with_reducible rfl
  try simp only [Act.put, List.setIfInBounds_toArray, List.set_cons_zero, List.set_cons_succ]
  refine wpAnyH_take (i := 6) (oi := { dst := some 65, op := Go.Op.nilCheck (Go.Operand.tmp 64), type := 0, pos := "law.go:164", after := #[{ on := 5, ground := Go.Ground.data }], guard := none }) (v := ?v7) rfl (by kernel_rfl) (by kernel_rfl) (by kernel_rfl) (fun _ _ _ h => h) (Or.inl ⟨by rfl, ?y7⟩) (by assumption) ?z7
  case y7 => (intro w hSw; (try dsimp only at hSw); go_simp) <;> with_reducible rfl
  try simp only [Act.put, List.setIfInBounds_toArray, List.set_cons_zero, List.set_cons_succ]
  refine wpAnyH_take (i := 7) (oi := { dst := some 66, op := Go.Op.fieldAddr 35 (Go.Operand.tmp 65) 0, type := 0, pos := "law.go:164", after := #[{ on := 6, ground := Go.Ground.data }], guard := none }) (v := ?v8) rfl (by kernel_rfl) (by kernel_rfl) (by kernel_rfl) (fun _ _ _ h => h) (Or.inl ⟨by rfl, ?y8⟩) (by assumption) ?z8
  case y8 => (intro w hSw; (try dsimp only at hSw); go_simp) <;> with_reducible rfl
  try simp only [Act.put, List.setIfInBounds_toArray, List.set_cons_zero, List.set_cons_succ]
  refine wpAnyH_take (i := 8) (oi := { dst := some 67, op := Go.Op.load 27 (Go.Operand.tmp 66), type := 27, pos := "law.go:164", after := #[{ on := 7, ground := Go.Ground.data }], guard := none }) (v := ?v9) rfl (by kernel_rfl) (by kernel_rfl) (by kernel_rfl) (fun _ _ _ h => h) (Or.inl ⟨by rfl, ?y9⟩) (by assumption) ?z9
  case y9 => (intro w hSw; (try dsimp only at hSw); go_simp) <;> with_reducible rfl
  try simp only [Act.put, List.setIfInBounds_toArray, List.set_cons_zero, List.set_cons_succ]
  refine wpAnyH_take (i := 9) (oi := { dst := some 68, op := Go.Op.move (Go.Operand.tmp 1), type := 5, pos := "law.go:164", after := #[{ on := 14, ground := Go.Ground.gcOnly Go.Departure.lateStores }], guard := none }) (v := ?v10) rfl (by kernel_rfl) (by kernel_rfl) (by kernel_rfl) (fun _ _ _ h => h) (Or.inl ⟨by rfl, ?y10⟩) (by assumption) ?z10
  case y10 => (intro w hSw; (try dsimp only at hSw); go_simp) <;> with_reducible rfl
  try simp only [Act.put, List.setIfInBounds_toArray, List.set_cons_zero, List.set_cons_succ]
  refine wpAnyH_take (i := 10) (oi := { dst := some 69, op := Go.Op.binOp Go.BinOp.rem 5 (Go.Operand.tmp 68) (Go.Operand.const (Go.Value.int Go.IntKind.u8 8)) 5, type := 5, pos := "law.go:164", after := #[{ on := 9, ground := Go.Ground.data }, { on := 14, ground := Go.Ground.gcOnly Go.Departure.lateStores }], guard := none }) (v := ?v11) rfl (by kernel_rfl) (by kernel_rfl) (by kernel_rfl) (fun _ _ _ h => h) (Or.inl ⟨by rfl, ?y11⟩) (by assumption) ?z11
  case y11 => (intro w hSw; (try dsimp only at hSw); go_simp) <;> with_reducible rfl
  try simp only [Act.put, List.setIfInBounds_toArray, List.set_cons_zero, List.set_cons_succ]
  refine wpAnyH_take (i := 11) (oi := { dst := some 70, op := Go.Op.convert 5 22 (Go.Operand.tmp 69), type := 22, pos := "law.go:164", after := #[{ on := 10, ground := Go.Ground.data }, { on := 14, ground := Go.Ground.gcOnly Go.Departure.lateStores }], guard := none }) (v := ?v12) rfl (by kernel_rfl) (by kernel_rfl) (by kernel_rfl) (fun _ _ _ h => h) (Or.inl ⟨by rfl, ?y12⟩) (by assumption) ?z12
  case y12 => (intro w hSw; (try dsimp only at hSw); go_simp) <;> with_reducible rfl
  try simp only [Act.put, List.setIfInBounds_toArray, List.set_cons_zero, List.set_cons_succ]
  refine wpAnyH_take (i := 12) (oi := { dst := some 71, op := Go.Op.binOp Go.BinOp.mul 22 (Go.Operand.tmp 70) (Go.Operand.const (Go.Value.int Go.IntKind.u16 8)) 22, type := 22, pos := "law.go:164", after := #[{ on := 11, ground := Go.Ground.data }, { on := 14, ground := Go.Ground.gcOnly Go.Departure.lateStores }], guard := none }) (v := ?v13) rfl (by kernel_rfl) (by kernel_rfl) (by kernel_rfl) (fun _ _ _ h => h) (Or.inl ⟨by rfl, ?y13⟩) (by assumption) ?z13
  case y13 => (intro w hSw; (try dsimp only at hSw); go_simp) <;> with_reducible rfl
  try simp only [Act.put, List.setIfInBounds_toArray, List.set_cons_zero, List.set_cons_succ]
  refine wpAnyH_take (i := 13) (oi := { dst := some 72, op := Go.Op.indexAddr 27 (Go.Operand.tmp 62) (Go.Operand.tmp 63), type := 0, pos := "law.go:164", after := #[{ on := 3, ground := Go.Ground.data }, { on := 4, ground := Go.Ground.data }, { on := 0, ground := Go.Ground.phase }, { on := 1, ground := Go.Ground.phase }, { on := 2, ground := Go.Ground.phase }, { on := 3, ground := Go.Ground.phase }, { on := 4, ground := Go.Ground.phase }, { on := 5, ground := Go.Ground.textOnly Go.Departure.lateStores }, { on := 6, ground := Go.Ground.textOnly Go.Departure.lateStoresUnsure }, { on := 7, ground := Go.Ground.textOnly Go.Departure.lateStoresUnsure }, { on := 8, ground := Go.Ground.phase }, { on := 9, ground := Go.Ground.textOnly Go.Departure.lateStores }, { on := 10, ground := Go.Ground.textOnly Go.Departure.lateStores }, { on := 11, ground := Go.Ground.textOnly Go.Departure.lateStores }, { on := 12, ground := Go.Ground.textOnly Go.Departure.lateStores }], guard := none }) (v := ?v14) rfl (by kernel_rfl) (by kernel_rfl) (by kernel_rfl) (fun _ _ _ h => h) (Or.inl ⟨by rfl, ?y14⟩) (by assumption) ?z14
  case y14 => (intro w hSw; (try dsimp only at hSw); go_simp) <;> with_reducible rfl
  try simp only [Act.put, List.setIfInBounds_toArray, List.set_cons_zero, List.set_cons_succ]
  refine wpAnyH_ready (rs := [14]) (by kernel_rfl) (by simp) ?_
  refine (AllReadyH.cons (o := { dst := none, op := Go.Op.store 5 (Go.Operand.tmp 72) (Go.Operand.const (Go.Value.int Go.IntKind.u8 201)), type := 0, pos := "law.go:164", after := #[{ on := 13, ground := Go.Ground.data }, { on := 0, ground := Go.Ground.phase }, { on := 1, ground := Go.Ground.phase }, { on := 2, ground := Go.Ground.phase }, { on := 3, ground := Go.Ground.phase }, { on := 4, ground := Go.Ground.phase }, { on := 5, ground := Go.Ground.textOnly Go.Departure.lateStores }, { on := 6, ground := Go.Ground.textOnly Go.Departure.lateStoresUnsure }, { on := 7, ground := Go.Ground.textOnly Go.Departure.lateStoresUnsure }, { on := 8, ground := Go.Ground.phase }, { on := 9, ground := Go.Ground.textOnly Go.Departure.lateStores }, { on := 10, ground := Go.Ground.textOnly Go.Departure.lateStores }, { on := 11, ground := Go.Ground.textOnly Go.Departure.lateStores }, { on := 12, ground := Go.Ground.textOnly Go.Departure.lateStores }], guard := none }) rfl (fun K hK => ?_) AllReadyH.nil)
  · skip
    have hm := R1.out.mem tn (by omega)
    have hf := R1.out.free
    go_simp
    have R2 := Lib.hid (R1.out.poke tn (by omega) 201 (by decide) (by decide))
    have B2 := Lib.hid (B1.out.setCell (p := ⟨M, tn, none⟩) LM.out (.int .u8 201))
    have H2 := Lib.hid (H1.out.far ⟨M, tn, none⟩ (.int .u8 201) (fun e => NS.out e.symm))
    refine hK.out _ _ ?s15 (fun hNew => ?r15)
    case s15 => exact ⟨R2.out.ram.2.1 0, trivial⟩
    clear hK K hHeld hm hf
    have hHeld := hNew
    clear hNew
    generalize World.setCell u1 ⟨M, tn, none⟩ (.int .u8 201) = u2 at hHeld R2 B2 H2 ⊢
    refine wpAnyH_take (i := 15) (oi := { dst := some 73, op := Go.Op.indexAddr 27 (Go.Operand.tmp 67) (Go.Operand.tmp 71), type := 0, pos := "law.go:164", after := #[{ on := 8, ground := Go.Ground.data }, { on := 12, ground := Go.Ground.data }, { on := 0, ground := Go.Ground.phase }, { on := 1, ground := Go.Ground.phase }, { on := 2, ground := Go.Ground.phase }, { on := 3, ground := Go.Ground.phase }, { on := 4, ground := Go.Ground.phase }, { on := 5, ground := Go.Ground.phase }, { on := 6, ground := Go.Ground.phase }, { on := 7, ground := Go.Ground.phase }, { on := 8, ground := Go.Ground.phase }, { on := 9, ground := Go.Ground.phase }, { on := 10, ground := Go.Ground.phase }, { on := 11, ground := Go.Ground.phase }, { on := 12, ground := Go.Ground.phase }, { on := 13, ground := Go.Ground.phase }, { on := 14, ground := Go.Ground.phase }], guard := none }) (v := ?v16) rfl (by kernel_rfl) (by kernel_rfl) (by kernel_rfl) (fun _ _ _ h => h) (Or.inl ⟨by rfl, ?y16⟩) (by assumption) ?z16
    case y16 => (intro w hSw; (try dsimp only at hSw); go_simp) <;> with_reducible rfl
    try simp only [Act.put, List.setIfInBounds_toArray, List.set_cons_zero, List.set_cons_succ]
    refine wpAnyH_ready (rs := [16]) (by kernel_rfl) (by simp) ?_
    refine (AllReadyH.cons (o := { dst := none, op := Go.Op.store 5 (Go.Operand.tmp 73) (Go.Operand.const (Go.Value.int Go.IntKind.u8 201)), type := 0, pos := "law.go:164", after := #[{ on := 15, ground := Go.Ground.data }, { on := 14, ground := Go.Ground.chain }, { on := 0, ground := Go.Ground.phase }, { on := 1, ground := Go.Ground.phase }, { on := 2, ground := Go.Ground.phase }, { on := 3, ground := Go.Ground.phase }, { on := 4, ground := Go.Ground.phase }, { on := 5, ground := Go.Ground.phase }, { on := 6, ground := Go.Ground.phase }, { on := 7, ground := Go.Ground.phase }, { on := 8, ground := Go.Ground.phase }, { on := 9, ground := Go.Ground.phase }, { on := 10, ground := Go.Ground.phase }, { on := 11, ground := Go.Ground.phase }, { on := 12, ground := Go.Ground.phase }, { on := 13, ground := Go.Ground.phase }, { on := 14, ground := Go.Ground.phase }], guard := none }) rfl (fun K hK => ?_) AllReadyH.nil)
    · skip
      have hm := R2.out.mem kn (by omega)
      have hf := R2.out.free
      go_simp
      have R3 := Lib.hid (R2.out.poke kn (by omega) 201 (by decide) (by decide))
      have B3 := Lib.hid (B2.out.setCell (p := ⟨M, kn, none⟩) LM.out (.int .u8 201))
      have H3 := Lib.hid (H2.out.far ⟨M, kn, none⟩ (.int .u8 201) (fun e => NS.out e.symm))
      refine hK.out _ _ ?s17 (fun hNew => ?r17)
      case s17 => exact ⟨R3.out.ram.2.1 0, trivial⟩
      clear hK K hHeld hm hf
      have hHeld := hNew
      clear hNew
      generalize World.setCell u2 ⟨M, kn, none⟩ (.int .u8 201) = u3 at hHeld R3 B3 H3 ⊢
      refine wpAnyH_done (by kernel_rfl) ?_ _
      clear htnI hknI hkw hHeld R1 B1 H1 R2 B2 H2
      go_wp2_with fail
      with_reducible refine (new_c _).mono ?_
      rintro e w' ⟨rfl, rfl⟩
      have T1 := Tab.new u3 81
      have B4 := Lib.hid (via B3.out (own1 u3 (.cells Tryz.zeroCells81 81)))
      have LT := Lib.hid B3.out.size
      have b10 := (R3.out.below (own1 u3 (.cells Tryz.zeroCells81 81))).bus (Or.inl T1) (by have := R3.out.ram.1; omega) (by have := R3.out.mlt; omega)
      have NT := Lib.hid (show ¬ sb = u3.heap.size by have := H3.out.1; omega)
      obtain ⟨y0, hy0⟩ : ∃ q, q = (⟨⟨{ s.r with f := fv, sp := 53248, pc := 256 }, false, false, false, false⟩, (upd (upd (upd (upd (upd (upd (upd (upd (fun _ => 0) 256 (197 + n % 4 * 16)) 257 205) 258 ((tn : Int) % 256)) 259 ((tn : Int) / 256)) 260 (193 + n % 4 * 16)) 261 (199 + (kn : Int))) (tn : Int) 201) (kn : Int) 201), []⟩ : Sy) := ⟨_, rfl⟩
      have H4 := Lib.hid (show Has (u3.alloc (.cells Tryz.zeroCells81 81)) sb #[.int .u8 y0.s.r.a, .int .u8 y0.s.r.f, .int .u8 y0.s.r.b, .int .u8 y0.s.r.c, .int .u8 y0.s.r.d, .int .u8 y0.s.r.e, .int .u8 y0.s.r.h, .int .u8 y0.s.r.l, .int .u16 y0.s.r.sp, .int .u16 y0.s.r.pc, .bool y0.s.ime, .bool y0.s.soon, .bool y0.s.halt, .bool y0.s.stop] by rw [hy0]; exact H3.out.alloc _)
      have BB := Lib.hid (show Bus ramC (u3.alloc (.cells Tryz.zeroCells81 81)) R M u3.heap.size (.slice none 0 0) y0.m y0.acc 0 by rw [hy0]; exact b10)
      have OK0 := Lib.hid (show y0.s.r.ok by rw [hy0]; exact ok_pc (ok_sp (ok_f ok fv (by rw [← FV.out]; exact (fv_ok ok.2.1.1 ok.2.1.2).1) (by rw [← FV.out]; exact (fv_ok ok.2.1.1 ok.2.1.2).2)) 53248 (by decide) (by decide)) 256 (by decide) (by decide))
      have Y0 := Lib.hid hy0
      have OKS := Lib.hid ok
      clear T1 b10 R3 B3 H3 hy0 ok
      generalize u3.alloc (.cells Tryz.zeroCells81 81) = w7 at B4 BB H4 ⊢
      generalize u3.heap.size = tb at LT NT BB ⊢
      have h4 := H4.out.2.1
      go_upto_region 12 with (fail)
      clear h4
      have OB := own1 w7 (.cells #[.int .u8 y0.s.r.a, .int .u8 y0.s.r.f, .int .u8 y0.s.r.b, .int .u8 y0.s.r.c, .int .u8 y0.s.r.d, .int .u8 y0.s.r.e, .int .u8 y0.s.r.h, .int .u8 y0.s.r.l, .int .u16 y0.s.r.sp, .int .u16 y0.s.r.pc, .bool y0.s.ime, .bool y0.s.soon, .bool y0.s.halt, .bool y0.s.stop] 41)
      have HP0 := Lib.hid (Has.new w7 #[.int .u8 y0.s.r.a, .int .u8 y0.s.r.f, .int .u8 y0.s.r.b, .int .u8 y0.s.r.c, .int .u8 y0.s.r.d, .int .u8 y0.s.r.e, .int .u8 y0.s.r.h, .int .u8 y0.s.r.l, .int .u16 y0.s.r.sp, .int .u16 y0.s.r.pc, .bool y0.s.ime, .bool y0.s.soon, .bool y0.s.halt, .bool y0.s.stop] 41)
      have HS0 := Lib.hid (H4.out.alloc (.cells #[.int .u8 y0.s.r.a, .int .u8 y0.s.r.f, .int .u8 y0.s.r.b, .int .u8 y0.s.r.c, .int .u8 y0.s.r.d, .int .u8 y0.s.r.e, .int .u8 y0.s.r.h, .int .u8 y0.s.r.l, .int .u16 y0.s.r.sp, .int .u16 y0.s.r.pc, .bool y0.s.ime, .bool y0.s.soon, .bool y0.s.halt, .bool y0.s.stop] 41))
      have BB0 := Lib.hid (BB.out.below OB)
      have BL0 := Lib.hid (via B4.out OB)
      have NPS := Lib.hid (show ¬ sb = w7.heap.size by have := H4.out.1; omega)
      have LP := Lib.hid B4.out.size
      have NB0 := Lib.hid (show ¬ BX R M tb (.slice none 0 0) w7.heap.size from fun hx => by have := BB.out.lt hx; omega)
      have NC0 := Lib.hid (show ¬ BX R M tb (.slice none 0 0) sb from fun hx => by
        rcases hx with hx | hx | hx | hx
        · exact NSR.out hx
        · exact NS.out hx
        · exact NT.out hx
        · simp [Value.ownBlock] at hx)
      have LV0 := Lib.hid (show ∀ k, (Value.slice none 0 0).ownBlock = some k → w.heap.size ≤ k from fun k hk => by simp [Value.ownBlock] at hk)
      clear OB B4 BB H4
      generalize w7.alloc (.cells #[.int .u8 y0.s.r.a, .int .u8 y0.s.r.f, .int .u8 y0.s.r.b, .int .u8 y0.s.r.c, .int .u8 y0.s.r.d, .int .u8 y0.s.r.e, .int .u8 y0.s.r.h, .int .u8 y0.s.r.l, .int .u16 y0.s.r.sp, .int .u16 y0.s.r.pc, .bool y0.s.ime, .bool y0.s.soon, .bool y0.s.halt, .bool y0.s.stop] 41) = x0 at HP0 HS0 BB0 BL0 ⊢
      generalize w7.heap.size = pb at HP0 NPS LP NB0 ⊢
      go_wp2
      refine wp_loop_rounds 7 ?_
      rw [rounds_succ]
      have hcs := HP0.out.2.1
      go_wp2_with fail
      with_reducible refine (Step_t BB0.out (by omega) y0.s OK0.out).mono ?_
      rintro e ws ⟨rfl, ok', v1, b', m'⟩
      clear hcs
      obtain ⟨y1, hy⟩ : ∃ q_, q_ = stepS ⟨y0.s, y0.m, y0.acc⟩ := ⟨_, rfl⟩
      generalize stepD ⟨y0.s, y0.m, y0.acc⟩ = D0 at ⊢
      rw [← hy] at b' ok' ⊢
      unfold St.cells didC
      have Y1 := Lib.hid hy
      have OK1 := Lib.hid ok'
      clear hy ok'
      have hs' := HP0.out.off m'.1 NB0.out
      have hq' := HS0.out.off m'.1 NC0.out
      have bl' := BL0.out.trans (m'.1.below (fun k hk hx => hx.elim (fun e => absurd LR.out (by omega)) (fun hx => hx.elim (fun e => absurd LM.out (by omega)) (fun hx => hx.elim (fun e => absurd LT.out (by omega)) (fun e => absurd (LV0.out k e) (by omega))))) BL0.out.size)
      have LV1 := Lib.hid (show ∀ k, v1.ownBlock = some k → w.heap.size ≤ k from fun k hk => (m'.2 k hk).elim (fun e => LV0.out k e) (fun h => Nat.le_trans BL0.out.size h))
      have NB1 := Lib.hid (m'.far HP0.out.1 NB0.out)
      have NC1 := Lib.hid (m'.far HS0.out.1 NC0.out)
      clear m'
      have g1 := hs'.2.1
      have g2 := hs'.2.2
      go_upto_region 15 with (fail)
      clear g1 g2
      have o1 := Off.put14 ws pb y1.s
      have HP1 := Lib.hid (hs'.put14 y1.s)
      have HS1 := Lib.hid (hq'.off o1 NPS.out)
      have BB1 := Lib.hid (b'.keep o1 (fun k hk e => NB1.out (by rw [← show k = pb from e]; exact hk)))
      have BL1 := Lib.hid (bl'.trans (o1.below (fun k hk e => by have := LP.out; have e' : k = pb := e; omega) bl'.size))
      clear o1 hs' hq' b' bl' HP0 HS0 BB0 BL0 NB0 NC0 LV0 OK0
      generalize (World.setCell (World.setCell (World.setCell (World.setCell (World.setCell (World.setCell (World.setCell (World.setCell (World.setCell (World.setCell (World.setCell (World.setCell (World.setCell (World.setCell ws ⟨pb, 0, none⟩ (.int .u8 y1.s.r.a)) ⟨pb, 1, none⟩ (.int .u8 y1.s.r.f)) ⟨pb, 2, none⟩ (.int .u8 y1.s.r.b)) ⟨pb, 3, none⟩ (.int .u8 y1.s.r.c)) ⟨pb, 4, none⟩ (.int .u8 y1.s.r.d)) ⟨pb, 5, none⟩ (.int .u8 y1.s.r.e)) ⟨pb, 6, none⟩ (.int .u8 y1.s.r.h)) ⟨pb, 7, none⟩ (.int .u8 y1.s.r.l)) ⟨pb, 8, none⟩ (.int .u16 y1.s.r.sp)) ⟨pb, 9, none⟩ (.int .u16 y1.s.r.pc)) ⟨pb, 10, none⟩ (.bool y1.s.ime)) ⟨pb, 11, none⟩ (.bool y1.s.soon)) ⟨pb, 12, none⟩ (.bool y1.s.halt)) ⟨pb, 13, none⟩ (.bool y1.s.stop)) = x1 at HP1 HS1 BB1 BL1 ⊢
      go_wp2
      rw [rounds_succ]
      have hcs := HP1.out.2.1
      go_wp2_with fail
      with_reducible refine (Step_t BB1.out (by omega) y1.s OK1.out).mono ?_
      rintro e ws ⟨rfl, ok', v2, b', m'⟩
      clear hcs
      obtain ⟨y2, hy⟩ : ∃ q_, q_ = stepS ⟨y1.s, y1.m, y1.acc⟩ := ⟨_, rfl⟩
      generalize stepD ⟨y1.s, y1.m, y1.acc⟩ = D1 at ⊢
      rw [← hy] at b' ok' ⊢
      unfold St.cells didC
      have Y2 := Lib.hid hy
      have OK2 := Lib.hid ok'
      clear hy ok'
      have hs' := HP1.out.off m'.1 NB1.out
      have hq' := HS1.out.off m'.1 NC1.out
      have bl' := BL1.out.trans (m'.1.below (fun k hk hx => hx.elim (fun e => absurd LR.out (by omega)) (fun hx => hx.elim (fun e => absurd LM.out (by omega)) (fun hx => hx.elim (fun e => absurd LT.out (by omega)) (fun e => absurd (LV1.out k e) (by omega))))) BL1.out.size)
      have LV2 := Lib.hid (show ∀ k, v2.ownBlock = some k → w.heap.size ≤ k from fun k hk => (m'.2 k hk).elim (fun e => LV1.out k e) (fun h => Nat.le_trans BL1.out.size h))
      have NB2 := Lib.hid (m'.far HP1.out.1 NB1.out)
      have NC2 := Lib.hid (m'.far HS1.out.1 NC1.out)
      clear m'
      have g1 := hs'.2.1
      have g2 := hs'.2.2
      go_upto_region 15 with (fail)
      clear g1 g2
      have o1 := Off.put14 ws pb y2.s
      have HP2 := Lib.hid (hs'.put14 y2.s)
      have HS2 := Lib.hid (hq'.off o1 NPS.out)
      have BB2 := Lib.hid (b'.keep o1 (fun k hk e => NB2.out (by rw [← show k = pb from e]; exact hk)))
      have BL2 := Lib.hid (bl'.trans (o1.below (fun k hk e => by have := LP.out; have e' : k = pb := e; omega) bl'.size))
      clear o1 hs' hq' b' bl' HP1 HS1 BB1 BL1 NB1 NC1 LV1 OK1
      generalize (World.setCell (World.setCell (World.setCell (World.setCell (World.setCell (World.setCell (World.setCell (World.setCell (World.setCell (World.setCell (World.setCell (World.setCell (World.setCell (World.setCell ws ⟨pb, 0, none⟩ (.int .u8 y2.s.r.a)) ⟨pb, 1, none⟩ (.int .u8 y2.s.r.f)) ⟨pb, 2, none⟩ (.int .u8 y2.s.r.b)) ⟨pb, 3, none⟩ (.int .u8 y2.s.r.c)) ⟨pb, 4, none⟩ (.int .u8 y2.s.r.d)) ⟨pb, 5, none⟩ (.int .u8 y2.s.r.e)) ⟨pb, 6, none⟩ (.int .u8 y2.s.r.h)) ⟨pb, 7, none⟩ (.int .u8 y2.s.r.l)) ⟨pb, 8, none⟩ (.int .u16 y2.s.r.sp)) ⟨pb, 9, none⟩ (.int .u16 y2.s.r.pc)) ⟨pb, 10, none⟩ (.bool y2.s.ime)) ⟨pb, 11, none⟩ (.bool y2.s.soon)) ⟨pb, 12, none⟩ (.bool y2.s.halt)) ⟨pb, 13, none⟩ (.bool y2.s.stop)) = x2 at HP2 HS2 BB2 BL2 ⊢
      go_wp2
      rw [rounds_succ]
      have hcs := HP2.out.2.1
      go_wp2_with fail
      with_reducible refine (Step_t BB2.out (by omega) y2.s OK2.out).mono ?_
      rintro e ws ⟨rfl, ok', v3, b', m'⟩
      clear hcs
      obtain ⟨y3, hy⟩ : ∃ q_, q_ = stepS ⟨y2.s, y2.m, y2.acc⟩ := ⟨_, rfl⟩
      generalize stepD ⟨y2.s, y2.m, y2.acc⟩ = D2 at ⊢
      rw [← hy] at b' ok' ⊢
      unfold St.cells didC
      have Y3 := Lib.hid hy
      have OK3 := Lib.hid ok'
      clear hy ok'
      have hs' := HP2.out.off m'.1 NB2.out
      have hq' := HS2.out.off m'.1 NC2.out
      have bl' := BL2.out.trans (m'.1.below (fun k hk hx => hx.elim (fun e => absurd LR.out (by omega)) (fun hx => hx.elim (fun e => absurd LM.out (by omega)) (fun hx => hx.elim (fun e => absurd LT.out (by omega)) (fun e => absurd (LV2.out k e) (by omega))))) BL2.out.size)
      have LV3 := Lib.hid (show ∀ k, v3.ownBlock = some k → w.heap.size ≤ k from fun k hk => (m'.2 k hk).elim (fun e => LV2.out k e) (fun h => Nat.le_trans BL2.out.size h))
      have NB3 := Lib.hid (m'.far HP2.out.1 NB2.out)
      have NC3 := Lib.hid (m'.far HS2.out.1 NC2.out)
      clear m'
      have g1 := hs'.2.1
      have g2 := hs'.2.2
      go_upto_region 15 with (fail)
      clear g1 g2
      have o1 := Off.put14 ws pb y3.s
      have HP3 := Lib.hid (hs'.put14 y3.s)
      have HS3 := Lib.hid (hq'.off o1 NPS.out)
      have BB3 := Lib.hid (b'.keep o1 (fun k hk e => NB3.out (by rw [← show k = pb from e]; exact hk)))
      have BL3 := Lib.hid (bl'.trans (o1.below (fun k hk e => by have := LP.out; have e' : k = pb := e; omega) bl'.size))
      clear o1 hs' hq' b' bl' HP2 HS2 BB2 BL2 NB2 NC2 LV2 OK2
      generalize (World.setCell (World.setCell (World.setCell (World.setCell (World.setCell (World.setCell (World.setCell (World.setCell (World.setCell (World.setCell (World.setCell (World.setCell (World.setCell (World.setCell ws ⟨pb, 0, none⟩ (.int .u8 y3.s.r.a)) ⟨pb, 1, none⟩ (.int .u8 y3.s.r.f)) ⟨pb, 2, none⟩ (.int .u8 y3.s.r.b)) ⟨pb, 3, none⟩ (.int .u8 y3.s.r.c)) ⟨pb, 4, none⟩ (.int .u8 y3.s.r.d)) ⟨pb, 5, none⟩ (.int .u8 y3.s.r.e)) ⟨pb, 6, none⟩ (.int .u8 y3.s.r.h)) ⟨pb, 7, none⟩ (.int .u8 y3.s.r.l)) ⟨pb, 8, none⟩ (.int .u16 y3.s.r.sp)) ⟨pb, 9, none⟩ (.int .u16 y3.s.r.pc)) ⟨pb, 10, none⟩ (.bool y3.s.ime)) ⟨pb, 11, none⟩ (.bool y3.s.soon)) ⟨pb, 12, none⟩ (.bool y3.s.halt)) ⟨pb, 13, none⟩ (.bool y3.s.stop)) = x3 at HP3 HS3 BB3 BL3 ⊢
      go_wp2
      rw [rounds_succ]
      have hcs := HP3.out.2.1
      go_wp2_with fail
      with_reducible refine (Step_t BB3.out (by omega) y3.s OK3.out).mono ?_
      rintro e ws ⟨rfl, ok', v4, b', m'⟩
      clear hcs
      obtain ⟨y4, hy⟩ : ∃ q_, q_ = stepS ⟨y3.s, y3.m, y3.acc⟩ := ⟨_, rfl⟩
      generalize stepD ⟨y3.s, y3.m, y3.acc⟩ = D3 at ⊢
      rw [← hy] at b' ok' ⊢
      unfold St.cells didC
      have Y4 := Lib.hid hy
      have OK4 := Lib.hid ok'
      clear hy ok'
      have hs' := HP3.out.off m'.1 NB3.out
      have hq' := HS3.out.off m'.1 NC3.out
      have bl' := BL3.out.trans (m'.1.below (fun k hk hx => hx.elim (fun e => absurd LR.out (by omega)) (fun hx => hx.elim (fun e => absurd LM.out (by omega)) (fun hx => hx.elim (fun e => absurd LT.out (by omega)) (fun e => absurd (LV3.out k e) (by omega))))) BL3.out.size)
      have LV4 := Lib.hid (show ∀ k, v4.ownBlock = some k → w.heap.size ≤ k from fun k hk => (m'.2 k hk).elim (fun e => LV3.out k e) (fun h => Nat.le_trans BL3.out.size h))
      have NB4 := Lib.hid (m'.far HP3.out.1 NB3.out)
      have NC4 := Lib.hid (m'.far HS3.out.1 NC3.out)
      clear m'
      have g1 := hs'.2.1
      have g2 := hs'.2.2
      go_upto_region 15 with (fail)
      clear g1 g2
      have o1 := Off.put14 ws pb y4.s
      have HP4 := Lib.hid (hs'.put14 y4.s)
      have HS4 := Lib.hid (hq'.off o1 NPS.out)
      have BB4 := Lib.hid (b'.keep o1 (fun k hk e => NB4.out (by rw [← show k = pb from e]; exact hk)))
      have BL4 := Lib.hid (bl'.trans (o1.below (fun k hk e => by have := LP.out; have e' : k = pb := e; omega) bl'.size))
      clear o1 hs' hq' b' bl' HP3 HS3 BB3 BL3 NB3 NC3 LV3 OK3
      generalize (World.setCell (World.setCell (World.setCell (World.setCell (World.setCell (World.setCell (World.setCell (World.setCell (World.setCell (World.setCell (World.setCell (World.setCell (World.setCell (World.setCell ws ⟨pb, 0, none⟩ (.int .u8 y4.s.r.a)) ⟨pb, 1, none⟩ (.int .u8 y4.s.r.f)) ⟨pb, 2, none⟩ (.int .u8 y4.s.r.b)) ⟨pb, 3, none⟩ (.int .u8 y4.s.r.c)) ⟨pb, 4, none⟩ (.int .u8 y4.s.r.d)) ⟨pb, 5, none⟩ (.int .u8 y4.s.r.e)) ⟨pb, 6, none⟩ (.int .u8 y4.s.r.h)) ⟨pb, 7, none⟩ (.int .u8 y4.s.r.l)) ⟨pb, 8, none⟩ (.int .u16 y4.s.r.sp)) ⟨pb, 9, none⟩ (.int .u16 y4.s.r.pc)) ⟨pb, 10, none⟩ (.bool y4.s.ime)) ⟨pb, 11, none⟩ (.bool y4.s.soon)) ⟨pb, 12, none⟩ (.bool y4.s.halt)) ⟨pb, 13, none⟩ (.bool y4.s.stop)) = x4 at HP4 HS4 BB4 BL4 ⊢
      go_wp2
      rw [rounds_succ]
      have hcs := HP4.out.2.1
      go_wp2_with fail
      with_reducible refine (Step_t BB4.out (by omega) y4.s OK4.out).mono ?_
      rintro e ws ⟨rfl, ok', v5, b', m'⟩
      clear hcs
      obtain ⟨y5, hy⟩ : ∃ q_, q_ = stepS ⟨y4.s, y4.m, y4.acc⟩ := ⟨_, rfl⟩
      generalize stepD ⟨y4.s, y4.m, y4.acc⟩ = D4 at ⊢
      rw [← hy] at b' ok' ⊢
      unfold St.cells didC
      have Y5 := Lib.hid hy
      have OK5 := Lib.hid ok'
      clear hy ok'
      have hs' := HP4.out.off m'.1 NB4.out
      have hq' := HS4.out.off m'.1 NC4.out
      have bl' := BL4.out.trans (m'.1.below (fun k hk hx => hx.elim (fun e => absurd LR.out (by omega)) (fun hx => hx.elim (fun e => absurd LM.out (by omega)) (fun hx => hx.elim (fun e => absurd LT.out (by omega)) (fun e => absurd (LV4.out k e) (by omega))))) BL4.out.size)
      have LV5 := Lib.hid (show ∀ k, v5.ownBlock = some k → w.heap.size ≤ k from fun k hk => (m'.2 k hk).elim (fun e => LV4.out k e) (fun h => Nat.le_trans BL4.out.size h))
      have NB5 := Lib.hid (m'.far HP4.out.1 NB4.out)
      have NC5 := Lib.hid (m'.far HS4.out.1 NC4.out)
      clear m'
      have g1 := hs'.2.1
      have g2 := hs'.2.2
      go_upto_region 15 with (fail)
      clear g1 g2
      have o1 := Off.put14 ws pb y5.s
      have HP5 := Lib.hid (hs'.put14 y5.s)
      have HS5 := Lib.hid (hq'.off o1 NPS.out)
      have BB5 := Lib.hid (b'.keep o1 (fun k hk e => NB5.out (by rw [← show k = pb from e]; exact hk)))
      have BL5 := Lib.hid (bl'.trans (o1.below (fun k hk e => by have := LP.out; have e' : k = pb := e; omega) bl'.size))
      clear o1 hs' hq' b' bl' HP4 HS4 BB4 BL4 NB4 NC4 LV4 OK4
      generalize (World.setCell (World.setCell (World.setCell (World.setCell (World.setCell (World.setCell (World.setCell (World.setCell (World.setCell (World.setCell (World.setCell (World.setCell (World.setCell (World.setCell ws ⟨pb, 0, none⟩ (.int .u8 y5.s.r.a)) ⟨pb, 1, none⟩ (.int .u8 y5.s.r.f)) ⟨pb, 2, none⟩ (.int .u8 y5.s.r.b)) ⟨pb, 3, none⟩ (.int .u8 y5.s.r.c)) ⟨pb, 4, none⟩ (.int .u8 y5.s.r.d)) ⟨pb, 5, none⟩ (.int .u8 y5.s.r.e)) ⟨pb, 6, none⟩ (.int .u8 y5.s.r.h)) ⟨pb, 7, none⟩ (.int .u8 y5.s.r.l)) ⟨pb, 8, none⟩ (.int .u16 y5.s.r.sp)) ⟨pb, 9, none⟩ (.int .u16 y5.s.r.pc)) ⟨pb, 10, none⟩ (.bool y5.s.ime)) ⟨pb, 11, none⟩ (.bool y5.s.soon)) ⟨pb, 12, none⟩ (.bool y5.s.halt)) ⟨pb, 13, none⟩ (.bool y5.s.stop)) = x5 at HP5 HS5 BB5 BL5 ⊢
      go_wp2
      rw [rounds_succ]
      have hcs := HP5.out.2.1
      go_wp2_with fail
      with_reducible refine (Step_t BB5.out (by omega) y5.s OK5.out).mono ?_
      rintro e ws ⟨rfl, ok', v6, b', m'⟩
      clear hcs
      obtain ⟨y6, hy⟩ : ∃ q_, q_ = stepS ⟨y5.s, y5.m, y5.acc⟩ := ⟨_, rfl⟩
      generalize stepD ⟨y5.s, y5.m, y5.acc⟩ = D5 at ⊢
      rw [← hy] at b' ok' ⊢
      unfold St.cells didC
      have Y6 := Lib.hid hy
      have OK6 := Lib.hid ok'
      clear hy ok'
      have hs' := HP5.out.off m'.1 NB5.out
      have hq' := HS5.out.off m'.1 NC5.out
      have bl' := BL5.out.trans (m'.1.below (fun k hk hx => hx.elim (fun e => absurd LR.out (by omega)) (fun hx => hx.elim (fun e => absurd LM.out (by omega)) (fun hx => hx.elim (fun e => absurd LT.out (by omega)) (fun e => absurd (LV5.out k e) (by omega))))) BL5.out.size)
      have LV6 := Lib.hid (show ∀ k, v6.ownBlock = some k → w.heap.size ≤ k from fun k hk => (m'.2 k hk).elim (fun e => LV5.out k e) (fun h => Nat.le_trans BL5.out.size h))
      have NB6 := Lib.hid (m'.far HP5.out.1 NB5.out)
      have NC6 := Lib.hid (m'.far HS5.out.1 NC5.out)
      clear m'
      have g1 := hs'.2.1
      have g2 := hs'.2.2
      go_upto_region 15 with (fail)
      clear g1 g2
      have o1 := Off.put14 ws pb y6.s
      have HP6 := Lib.hid (hs'.put14 y6.s)
      have HS6 := Lib.hid (hq'.off o1 NPS.out)
      have BB6 := Lib.hid (b'.keep o1 (fun k hk e => NB6.out (by rw [← show k = pb from e]; exact hk)))
      have BL6 := Lib.hid (bl'.trans (o1.below (fun k hk e => by have := LP.out; have e' : k = pb := e; omega) bl'.size))
      clear o1 hs' hq' b' bl' HP5 HS5 BB5 BL5 NB5 NC5 LV5 OK5
      generalize (World.setCell (World.setCell (World.setCell (World.setCell (World.setCell (World.setCell (World.setCell (World.setCell (World.setCell (World.setCell (World.setCell (World.setCell (World.setCell (World.setCell ws ⟨pb, 0, none⟩ (.int .u8 y6.s.r.a)) ⟨pb, 1, none⟩ (.int .u8 y6.s.r.f)) ⟨pb, 2, none⟩ (.int .u8 y6.s.r.b)) ⟨pb, 3, none⟩ (.int .u8 y6.s.r.c)) ⟨pb, 4, none⟩ (.int .u8 y6.s.r.d)) ⟨pb, 5, none⟩ (.int .u8 y6.s.r.e)) ⟨pb, 6, none⟩ (.int .u8 y6.s.r.h)) ⟨pb, 7, none⟩ (.int .u8 y6.s.r.l)) ⟨pb, 8, none⟩ (.int .u16 y6.s.r.sp)) ⟨pb, 9, none⟩ (.int .u16 y6.s.r.pc)) ⟨pb, 10, none⟩ (.bool y6.s.ime)) ⟨pb, 11, none⟩ (.bool y6.s.soon)) ⟨pb, 12, none⟩ (.bool y6.s.halt)) ⟨pb, 13, none⟩ (.bool y6.s.stop)) = x6 at HP6 HS6 BB6 BL6 ⊢
      go_wp2
      rw [rounds_succ]
      have e6 : y6.s = ⟨{ s.r with f := fv, sp := 53248, pc := 262 }, false, false, false, false⟩ := stacksP s OKS.out n n0 n1 tn htn0 htn1 kn hkn fv FV.out Y0.out Y1.out Y2.out Y3.out Y4.out Y5.out Y6.out
      have e0 : y0.s = ⟨{ s.r with f := fv, sp := 53248, pc := 256 }, false, false, false, false⟩ := by rw [Y0.out]
      have h6 := HP6.out
      have h0 := HS6.out
      rw [e6] at h6
      rw [e0] at h0
      have g1 := h6.2.1
      have g2 := h0.2.1
      have g3 := h0.2.2
      have nps := NPS.out
      have nps2 : ¬ pb = sb := fun e => nps e.symm
      go_wp2
      go_ret
      exact ⟨rfl, BL6.out.setCell (p := ⟨sb, 9, none⟩) LS.out (.int .u16 262)⟩
end
end Go.Proofs.YtngdogldgcgnjaaGreat
