/-
  The walk through CpuWakes where an interrupt is let in: the numbers 0 and 1.
-/
import Derived.Test.YtngdogldgcgnjaaGreatL5r
import Derived.Deep.Cut
import Derived.LoopN
import Derived.Deep.DeepCutAuto
import Derived.Deep.CutBlock
import Derived.Deep.QuietTactic
import Derived.BigQuiet
namespace Go.Proofs.YtngdogldgcgnjaaGreat
open Go.ChangeShapes Go.WideShapes Go.ChangeAt Go.RowKit
open Reg
set_option linter.unusedVariables false
set_option maxRecDepth 100000
section
theorem clr_all (k : Fin 5) : ∀ n : Fin 256, bits .andNot .u8 (n.val : Int) (2 ^ k.val) = clr (n.val : Int) k.val := by revert k; decide +kernel
theorem wakeC (r : RR) (soon : Bool) (fl le T : Int) (y0 y1 : Sy) (D : DidV) (h0 : y0 = wakeY r true soon false fl le) (h1 : y1 = stepS ⟨y0.s, y0.m, y0.acc⟩) (hD : D = stepD ⟨y0.s, y0.m, y0.acc⟩) (hT : thereV fl le = T) (hc : ¬ T = 0) (s0 : 49152 ≤ r.sp) (s1 : r.sp ≤ 61440) :
    y1.s = ⟨{ r with sp := r.sp - 2, pc := 64 + 8 * (lowV T : Int) }, false, false, false, false⟩ ∧ y1.m (r.sp - 2) = 0 ∧ y1.m (r.sp - 1) = 1 ∧ y1.m 65295 = clr fl (lowV T) ∧ y1.acc.length = 5 ∧ D.what = 2 ∧ D.n = lowV T := by
  subst h0 h1 hD
  subst hT
  exact wake_call r soon fl le hc s0 s1
set_option maxHeartbeats 8000000 in
theorem wakes_c0 (s : St) (ok : s.r.ok) (fl le : Int) (f0 : 0 ≤ fl) (f1 : fl < 256) (l0 : 0 ≤ le) (l1 : le < 256) (stop : Bool) (hst : stop = false) (hT' : ¬ thereV fl le = 0) (hi' : s.ime = true) (hl' : lowV (thereV fl le) = 0) (w : World) : Calls Tryz.prog 5 #[.agg #[.int .u8 s.r.a, .int .u8 s.r.f, .int .u8 s.r.b, .int .u8 s.r.c, .int .u8 s.r.d, .int .u8 s.r.e, .int .u8 s.r.h, .int .u8 s.r.l, .int .u16 s.r.sp, .int .u16 s.r.pc, .bool s.ime, .bool s.soon, .bool s.halt, .bool s.stop], .int .u8 fl, .int .u8 le, .bool stop] w fun e w' => e = .returned (.bool true) ∧ Below w.heap.size w w' := by
  subst hst
  have hi := Lib.hid hi'
  have hl := Lib.hid hl'
  have hTz := Lib.hid hT'
  clear hi' hl' hT'
  have hnot : ∀ (x : Bool) (w : World), (Op.unary .not (.bool x)).run Tryz.prog w = .ok (.bool (!x)) w := fun _ _ => rfl
  have hmk := mk_run
  have HB := Lib.hid (own1 w (.cells #[.int .u8 s.r.a, .int .u8 s.r.f, .int .u8 s.r.b, .int .u8 s.r.c, .int .u8 s.r.d, .int .u8 s.r.e, .int .u8 s.r.h, .int .u8 s.r.l, .int .u16 s.r.sp, .int .u16 s.r.pc, .bool s.ime, .bool s.soon, .bool s.halt, .bool s.stop] 26))
  have HR := Lib.hid (Has.new w #[.int .u8 s.r.a, .int .u8 s.r.f, .int .u8 s.r.b, .int .u8 s.r.c, .int .u8 s.r.d, .int .u8 s.r.e, .int .u8 s.r.h, .int .u8 s.r.l, .int .u16 s.r.sp, .int .u16 s.r.pc, .bool s.ime, .bool s.soon, .bool s.halt, .bool s.stop] 26)
  go_enter Tryz.func5, Tryz.ntmps5
  go_wp2_with fail
  refine (awake_c _).mono ?_
  rintro e w1 ⟨rfl, hb1⟩
  have HB1 := Lib.hid (via HB.out hb1)
  have HR0 := Lib.hid (HR.out.below hb1)
  clear HB HR hb1
  have r0 := Ram.zero w1
  go_wp2
  clear hmk
  have B0 := Lib.hid (via HB1.out (own2 w1 (.cells zeroM 5) (.cells #[.slice (some ⟨w1.heap.size, 0, none⟩) 65536 65536, .slice none 0 0] 35)))
  have HR1 := Lib.hid ((HR0.out.below (own2 w1 (.cells zeroM 5) (.cells #[.slice (some ⟨w1.heap.size, 0, none⟩) 65536 65536, .slice none 0 0] 35))).drew)
  have NM := Lib.hid (show ¬ w1.heap.size = w.heap.size by have := HR0.out.1; omega)
  have LM := Lib.hid HB1.out.size
  clear HR0 HB1
  generalize ((w1.alloc (.cells zeroM 5)).alloc (.cells #[.slice (some ⟨w1.heap.size, 0, none⟩) 65536 65536, .slice none 0 0] 35)) = w0 at B0 r0 HR1 ⊢
  generalize hM : w1.heap.size = M at r0 NM LM ⊢
  generalize hR : M + 1 = R at r0 ⊢
  have LR := Lib.hid (show w.heap.size ≤ R by have := LM.out; omega)
  clear hR hM
  have R1 := Lib.hid (r0.below (Below.refl _ _).drew)
  have B1 := Lib.hid (B0.out.drew)
  clear r0 B0
  refine wp_region_held_drew (S := (fun w' => (w'.cell? ⟨R, 0, none⟩ = some (.slice (some ⟨M, 0, none⟩) 65536 65536)) ∧ True)) (by kernel_rfl) ⟨R1.out.ram.2.1 0, trivial⟩ (fun hHeld => ?_)
  generalize World.drew w0 = u1 at hHeld R1 B1 HR1 ⊢
  refine wpAnyH_take (i := 0) (oi := { dst := some 21, op := Go.Op.move (Go.Operand.tmp 9), type := 31, pos := "law.go:130", after := #[], guard := none }) (v := ?v1) rfl (by kernel_rfl) (by kernel_rfl) (by kernel_rfl) (fun _ _ _ h => h) (Or.inl ⟨by rfl, ?y1⟩) (by assumption) ?z1
  case y1 => (intro w hSw; (try dsimp only at hSw); go_simp) <;> with_reducible rfl
  try simp only [Act.put, List.setIfInBounds_toArray, List.set_cons_zero, List.set_cons_succ]
  refine wpAnyH_take (i := 1) (oi := { dst := some 22, op := Go.Op.nilCheck (Go.Operand.tmp 21), type := 0, pos := "law.go:130", after := #[{ on := 0, ground := Go.Ground.data }], guard := none }) (v := ?v2) rfl (by kernel_rfl) (by kernel_rfl) (by kernel_rfl) (fun _ _ _ h => h) (Or.inl ⟨by rfl, ?y2⟩) (by assumption) ?z2
  case y2 => (intro w hSw; (try dsimp only at hSw); go_simp) <;> with_reducible rfl
  try simp only [Act.put, List.setIfInBounds_toArray, List.set_cons_zero, List.set_cons_succ]
  refine wpAnyH_take (i := 2) (oi := { dst := some 23, op := Go.Op.fieldAddr 35 (Go.Operand.tmp 22) 0, type := 0, pos := "law.go:130", after := #[{ on := 1, ground := Go.Ground.data }], guard := none }) (v := ?v3) rfl (by kernel_rfl) (by kernel_rfl) (by kernel_rfl) (fun _ _ _ h => h) (Or.inl ⟨by rfl, ?y3⟩) (by assumption) ?z3
  case y3 => (intro w hSw; (try dsimp only at hSw); go_simp) <;> with_reducible rfl
  try simp only [Act.put, List.setIfInBounds_toArray, List.set_cons_zero, List.set_cons_succ]
  refine wpAnyH_take (i := 3) (oi := { dst := some 24, op := Go.Op.load 27 (Go.Operand.tmp 23), type := 27, pos := "law.go:130", after := #[{ on := 2, ground := Go.Ground.data }], guard := none }) (v := ?v4) rfl (by kernel_rfl) (by kernel_rfl) (by kernel_rfl) (fun _ _ _ h => h) (Or.inl ⟨by rfl, ?y4⟩) (by assumption) ?z4
  case y4 => (intro w hSw; (try dsimp only at hSw); go_simp) <;> with_reducible rfl
  try simp only [Act.put, List.setIfInBounds_toArray, List.set_cons_zero, List.set_cons_succ]
  refine wpAnyH_take (i := 4) (oi := { dst := some 25, op := Go.Op.move (Go.Operand.tmp 9), type := 31, pos := "law.go:130", after := #[], guard := none }) (v := ?v5) rfl (by kernel_rfl) (by kernel_rfl) (by kernel_rfl) (fun _ _ _ h => h) (Or.inl ⟨by rfl, ?y5⟩) (by assumption) ?z5
  case y5 => (intro w hSw; (try dsimp only at hSw); go_simp) <;> with_reducible rfl
  try simp only [Act.put, List.setIfInBounds_toArray, List.set_cons_zero, List.set_cons_succ]
  refine wpAnyH_take (i := 5) (oi := { dst := some 26, op := Go.Op.nilCheck (Go.Operand.tmp 25), type := 0, pos := "law.go:130", after := #[{ on := 4, ground := Go.Ground.data }], guard := none }) (v := ?v6) rfl (by kernel_rfl) (by kernel_rfl) (by kernel_rfl) (fun _ _ _ h => h) (Or.inl ⟨by rfl, ?y6⟩) (by assumption) ?z6
  case y6 => (intro w hSw; (try dsimp only at hSw); go_simp) <;> with_reducible rfl
  try simp only [Act.put, List.setIfInBounds_toArray, List.set_cons_zero, List.set_cons_succ]
  refine wpAnyH_take (i := 6) (oi := { dst := some 27, op := Go.Op.fieldAddr 35 (Go.Operand.tmp 26) 0, type := 0, pos := "law.go:130", after := #[{ on := 5, ground := Go.Ground.data }], guard := none }) (v := ?v7) rfl (by kernel_rfl) (by kernel_rfl) (by kernel_rfl) (fun _ _ _ h => h) (Or.inl ⟨by rfl, ?y7⟩) (by assumption) ?z7
  case y7 => (intro w hSw; (try dsimp only at hSw); go_simp) <;> with_reducible rfl
  try simp only [Act.put, List.setIfInBounds_toArray, List.set_cons_zero, List.set_cons_succ]
  refine wpAnyH_take (i := 7) (oi := { dst := some 28, op := Go.Op.load 27 (Go.Operand.tmp 27), type := 27, pos := "law.go:130", after := #[{ on := 6, ground := Go.Ground.data }], guard := none }) (v := ?v8) rfl (by kernel_rfl) (by kernel_rfl) (by kernel_rfl) (fun _ _ _ h => h) (Or.inl ⟨by rfl, ?y8⟩) (by assumption) ?z8
  case y8 => (intro w hSw; (try dsimp only at hSw); go_simp) <;> with_reducible rfl
  try simp only [Act.put, List.setIfInBounds_toArray, List.set_cons_zero, List.set_cons_succ]
  refine wpAnyH_take (i := 8) (oi := { dst := some 29, op := Go.Op.move (Go.Operand.tmp 1), type := 5, pos := "law.go:130", after := #[], guard := none }) (v := ?v9) rfl (by kernel_rfl) (by kernel_rfl) (by kernel_rfl) (fun _ _ _ h => h) (Or.inl ⟨by rfl, ?y9⟩) (by assumption) ?z9
  case y9 => (intro w hSw; (try dsimp only at hSw); go_simp) <;> with_reducible rfl
  try simp only [Act.put, List.setIfInBounds_toArray, List.set_cons_zero, List.set_cons_succ]
  refine wpAnyH_take (i := 9) (oi := { dst := some 30, op := Go.Op.move (Go.Operand.tmp 2), type := 5, pos := "law.go:130", after := #[{ on := 11, ground := Go.Ground.gcOnly Go.Departure.lateStores }], guard := none }) (v := ?v10) rfl (by kernel_rfl) (by kernel_rfl) (by kernel_rfl) (fun _ _ _ h => h) (Or.inl ⟨by rfl, ?y10⟩) (by assumption) ?z10
  case y10 => (intro w hSw; (try dsimp only at hSw); go_simp) <;> with_reducible rfl
  try simp only [Act.put, List.setIfInBounds_toArray, List.set_cons_zero, List.set_cons_succ]
  refine wpAnyH_take (i := 10) (oi := { dst := some 31, op := Go.Op.indexAddr 27 (Go.Operand.tmp 24) (Go.Operand.const (Go.Value.int Go.IntKind.i64 65295)), type := 0, pos := "law.go:130", after := #[{ on := 3, ground := Go.Ground.data }, { on := 0, ground := Go.Ground.phase }, { on := 1, ground := Go.Ground.phase }, { on := 2, ground := Go.Ground.phase }, { on := 3, ground := Go.Ground.phase }, { on := 4, ground := Go.Ground.textOnly Go.Departure.lateStores }, { on := 5, ground := Go.Ground.textOnly Go.Departure.lateStoresUnsure }, { on := 6, ground := Go.Ground.textOnly Go.Departure.lateStoresUnsure }, { on := 7, ground := Go.Ground.phase }, { on := 8, ground := Go.Ground.phase }, { on := 9, ground := Go.Ground.textOnly Go.Departure.lateStores }], guard := none }) (v := ?v11) rfl (by kernel_rfl) (by kernel_rfl) (by kernel_rfl) (fun _ _ _ h => h) (Or.inl ⟨by rfl, ?y11⟩) (by assumption) ?z11
  case y11 => (intro w hSw; (try dsimp only at hSw); go_simp) <;> with_reducible rfl
  try simp only [Act.put, List.setIfInBounds_toArray, List.set_cons_zero, List.set_cons_succ]
  refine wpAnyH_ready (rs := [11]) (by kernel_rfl) (by simp) ?_
  refine (AllReadyH.cons (o := { dst := none, op := Go.Op.store 5 (Go.Operand.tmp 31) (Go.Operand.tmp 29), type := 0, pos := "law.go:130", after := #[{ on := 10, ground := Go.Ground.data }, { on := 8, ground := Go.Ground.data }, { on := 0, ground := Go.Ground.phase }, { on := 1, ground := Go.Ground.phase }, { on := 2, ground := Go.Ground.phase }, { on := 3, ground := Go.Ground.phase }, { on := 4, ground := Go.Ground.textOnly Go.Departure.lateStores }, { on := 5, ground := Go.Ground.textOnly Go.Departure.lateStoresUnsure }, { on := 6, ground := Go.Ground.textOnly Go.Departure.lateStoresUnsure }, { on := 7, ground := Go.Ground.phase }, { on := 8, ground := Go.Ground.phase }, { on := 9, ground := Go.Ground.textOnly Go.Departure.lateStores }], guard := none }) rfl (fun K hK => ?_) AllReadyH.nil)
  · skip
    have hm := R1.out.mem 65295 (by decide)
    have hf := R1.out.free
    go_simp
    have R2 := Lib.hid (R1.out.poke 65295 (by decide) fl (by omega) (by omega))
    have B2 := Lib.hid (B1.out.setCell (p := ⟨M, 65295, none⟩) LM.out (.int .u8 fl))
    have HR2 := Lib.hid (HR1.out.far ⟨M, 65295, none⟩ (.int .u8 fl) NM.out)
    refine hK.out _ _ ?s12 (fun hNew => ?r12)
    case s12 => exact ⟨R2.out.ram.2.1 0, trivial⟩
    clear hK K hHeld hm hf
    have hHeld := hNew
    clear hNew
    generalize World.setCell u1 ⟨M, 65295, none⟩ (.int .u8 fl) = u2 at hHeld R2 B2 HR2 ⊢
    refine wpAnyH_take (i := 12) (oi := { dst := some 32, op := Go.Op.indexAddr 27 (Go.Operand.tmp 28) (Go.Operand.const (Go.Value.int Go.IntKind.i64 65535)), type := 0, pos := "law.go:130", after := #[{ on := 7, ground := Go.Ground.data }, { on := 0, ground := Go.Ground.phase }, { on := 1, ground := Go.Ground.phase }, { on := 2, ground := Go.Ground.phase }, { on := 3, ground := Go.Ground.phase }, { on := 4, ground := Go.Ground.phase }, { on := 5, ground := Go.Ground.phase }, { on := 6, ground := Go.Ground.phase }, { on := 7, ground := Go.Ground.phase }, { on := 8, ground := Go.Ground.phase }, { on := 9, ground := Go.Ground.phase }, { on := 10, ground := Go.Ground.phase }, { on := 11, ground := Go.Ground.phase }], guard := none }) (v := ?v13) rfl (by kernel_rfl) (by kernel_rfl) (by kernel_rfl) (fun _ _ _ h => h) (Or.inl ⟨by rfl, ?y13⟩) (by assumption) ?z13
    case y13 => (intro w hSw; (try dsimp only at hSw); go_simp) <;> with_reducible rfl
    try simp only [Act.put, List.setIfInBounds_toArray, List.set_cons_zero, List.set_cons_succ]
    refine wpAnyH_ready (rs := [13]) (by kernel_rfl) (by simp) ?_
    refine (AllReadyH.cons (o := { dst := none, op := Go.Op.store 5 (Go.Operand.tmp 32) (Go.Operand.tmp 30), type := 0, pos := "law.go:130", after := #[{ on := 12, ground := Go.Ground.data }, { on := 9, ground := Go.Ground.data }, { on := 11, ground := Go.Ground.chain }, { on := 0, ground := Go.Ground.phase }, { on := 1, ground := Go.Ground.phase }, { on := 2, ground := Go.Ground.phase }, { on := 3, ground := Go.Ground.phase }, { on := 4, ground := Go.Ground.phase }, { on := 5, ground := Go.Ground.phase }, { on := 6, ground := Go.Ground.phase }, { on := 7, ground := Go.Ground.phase }, { on := 8, ground := Go.Ground.phase }, { on := 9, ground := Go.Ground.phase }, { on := 10, ground := Go.Ground.phase }, { on := 11, ground := Go.Ground.phase }], guard := none }) rfl (fun K hK => ?_) AllReadyH.nil)
    · skip
      have hm := R2.out.mem 65535 (by decide)
      have hf := R2.out.free
      go_simp
      have R3 := Lib.hid (R2.out.poke 65535 (by decide) le (by omega) (by omega))
      have B3 := Lib.hid (B2.out.setCell (p := ⟨M, 65535, none⟩) LM.out (.int .u8 le))
      have HR3 := Lib.hid (HR2.out.far ⟨M, 65535, none⟩ (.int .u8 le) NM.out)
      refine hK.out _ _ ?s14 (fun hNew => ?r14)
      case s14 => exact ⟨R3.out.ram.2.1 0, trivial⟩
      clear hK K hHeld hm hf
      have hHeld := hNew
      clear hNew
      generalize World.setCell u2 ⟨M, 65535, none⟩ (.int .u8 le) = u3 at hHeld R3 B3 HR3 ⊢
      refine wpAnyH_done (by kernel_rfl) ?_ _
      clear R1 B1 HR1 R2 B2 HR2 hHeld
      have hrr := HR3.out.2.1
      go_wp2_with fail
      with_reducible refine (state_c s _).mono ?_
      rintro e w2 ⟨rfl, hb2⟩
      have R4 := Lib.hid (R3.out.below hb2)
      have B4 := Lib.hid (via B3.out hb2)
      clear R3 B3 HR3 hrr hb2
      have spb := ok.2.2.2.2.2.2.2.2.1
      go_upto_region 7 with (fail)
      have q4 := own1 w2 (.cells #[.int .u8 s.r.a, .int .u8 s.r.f, .int .u8 s.r.b, .int .u8 s.r.c, .int .u8 s.r.d, .int .u8 s.r.e, .int .u8 s.r.h, .int .u8 s.r.l, .int .u16 s.r.sp, .int .u16 256, .bool s.ime, .bool s.soon, .bool true, .bool false] 41)
      have R5 := Lib.hid (R4.out.below q4)
      have B5 := Lib.hid (via B4.out q4)
      have H5 := Lib.hid (Has.new w2 #[.int .u8 s.r.a, .int .u8 s.r.f, .int .u8 s.r.b, .int .u8 s.r.c, .int .u8 s.r.d, .int .u8 s.r.e, .int .u8 s.r.h, .int .u8 s.r.l, .int .u16 s.r.sp, .int .u16 256, .bool s.ime, .bool s.soon, .bool true, .bool false] 41)
      have XS1 := Lib.hid (show w2.heap.size ≠ R by have := R4.out.ram.1; omega)
      have XS2 := Lib.hid (show w2.heap.size ≠ M by have := R4.out.mlt; omega)
      have LS := Lib.hid B4.out.size
      clear q4 R4 B4
      generalize w2.alloc (.cells #[.int .u8 s.r.a, .int .u8 s.r.f, .int .u8 s.r.b, .int .u8 s.r.c, .int .u8 s.r.d, .int .u8 s.r.e, .int .u8 s.r.h, .int .u8 s.r.l, .int .u16 s.r.sp, .int .u16 256, .bool s.ime, .bool s.soon, .bool true, .bool false] 41) = w3 at R5 B5 H5 ⊢
      generalize w2.heap.size = sb at H5 XS1 XS2 LS ⊢
      go_cut [10, 49] (fun s10 s49 wx => s10 = .pointer (some ⟨sb, 0, none⟩) ∧ s49 = .bool (decide (s.r.sp < 49152) || decide (61440 < s.r.sp)) ∧ wx = w3)
      case first =>
        have hcc := H5.out.2.1
        by_cases hA : s.r.sp < 49152
        · go_wp2
          go_meet
          exact ⟨rfl, by simp [hA], rfl⟩
        · by_cases hB : 61440 < s.r.sp
          · go_wp2
            go_meet
            exact ⟨rfl, by simp [hB], rfl⟩
          · go_wp2
            go_meet
            exact ⟨rfl, by simp [hA, hB], rfl⟩
      case rest =>
       obtain ⟨rfl, rfl, rfl⟩ := hcut
       obtain ⟨bq, hbq⟩ : ∃ q_, (decide (s.r.sp < 49152) || decide (61440 < s.r.sp)) = q_ := ⟨_, rfl⟩
       rw [hbq]
       have HBQ := Lib.hid hbq
       clear hbq
       go_upto_if 49 with (fail)
       go_cut [10] (fun s10 wx => ∃ spv : Int, (49152 ≤ spv ∧ spv ≤ 61440) ∧ s10 = .pointer (some ⟨sb, 0, none⟩) ∧ Ram wx R M (wakeM fl le) ∧ Below w.heap.size w wx ∧ Has wx sb #[.int .u8 s.r.a, .int .u8 s.r.f, .int .u8 s.r.b, .int .u8 s.r.c, .int .u8 s.r.d, .int .u8 s.r.e, .int .u8 s.r.h, .int .u8 s.r.l, .int .u16 spv, .int .u16 256, .bool s.ime, .bool s.soon, .bool true, .bool false])
       case first =>
        have hcc := H5.out.2.1
        have hfz := H5.out.2.2
        cases bq with
        | true =>
          go_wp2
          go_meet
          exact ⟨53248, by decide, rfl, R5.out.off (Off.setCell (X := fun k => k = sb) wc sb 8 (.int .u16 53248) rfl) (fun e => XS1.out e.symm) (fun e => XS2.out e.symm), B5.out.setCell (p := ⟨sb, 8, none⟩) LS.out _, by have := H5.out.set 8 (.int .u16 53248) (by simp); simpa using this⟩
        | false =>
          have hb2 := HBQ.out
          simp at hb2
          have HB2 := Lib.hid hb2
          clear hb2
          go_wp2
          go_meet
          exact ⟨s.r.sp, by have := HB2.out; omega, rfl, R5.out, B5.out, H5.out⟩
       case rest =>
        obtain ⟨spv, hsp, rfl, r6, b6, h6⟩ := hcut
        obtain ⟨y0, hy0⟩ : ∃ q_, q_ = wakeY { s.r with sp := spv } s.ime s.soon false fl le := ⟨_, rfl⟩
        have HY := Lib.hid hy0
        have H0' := Lib.hid (show Has wc sb #[.int .u8 y0.s.r.a, .int .u8 y0.s.r.f, .int .u8 y0.s.r.b, .int .u8 y0.s.r.c, .int .u8 y0.s.r.d, .int .u8 y0.s.r.e, .int .u8 y0.s.r.h, .int .u8 y0.s.r.l, .int .u16 y0.s.r.sp, .int .u16 y0.s.r.pc, .bool y0.s.ime, .bool y0.s.soon, .bool y0.s.halt, .bool y0.s.stop] by rw [hy0]; exact h6)
        have OK := Lib.hid (show y0.s.r.ok by rw [hy0]; exact ok_pc (ok_sp ok spv (by omega) (by omega)) 256 (by decide) (by decide))
        obtain ⟨y1, hy1⟩ : ∃ q_, q_ = stepS ⟨y0.s, y0.m, y0.acc⟩ := ⟨_, rfl⟩
        obtain ⟨DV, hDV⟩ : ∃ q_, q_ = stepD ⟨y0.s, y0.m, y0.acc⟩ := ⟨_, rfl⟩
        have Y1 := Lib.hid hy1
        have YD := Lib.hid hDV
        have SPB := Lib.hid hsp
        have tb0 := there_bd fl le f0 f1 l0 l1
        have R6 := Lib.hid r6
        have B6 := Lib.hid b6
        clear hy0 hy1 hDV hsp r6 b6 h6 R5 B5 H5 spb
        have htv : bits .and .u8 (bits .and .u8 fl le) 31 = thereV fl le := rfl
        obtain ⟨T, hT⟩ : ∃ q_, thereV fl le = q_ := ⟨_, rfl⟩
        rw [hT] at htv tb0
        have hT0 : ¬ T = 0 := by rw [← hT]; exact hTz.out
        have HT := Lib.hid hT
        clear hT
        go_upto_region 10 with (fail)
        clear htv
        refine reg10 w wc R M sb (wakeM fl le) y0 y1 DV (by rw [HY.out]; exact ⟨rfl, rfl⟩) Y1.out YD.out OK.out LM.out LR.out LS.out XS1.out XS2.out R6.out B6.out H0'.out _ _ _ _ _ _ _ _ _ _ _ _ _ _ _ _ _ _ _ _ _ _ _ _ _ _ _ _ _ _ _ _ _ _ _ _ _ _ _ _ _ _ _ _ _ _ _ _ _ _ _ _ _ _ _ _ _ _ _ _ _ _ _ _ _ _ _ _ _ _ _ _ _ _ _ _ _ _ _ _ _ _ _ _ _ _ _ _ _ _ _ _ _ _ _ _ _ _ _ _ _ _ _ _ _ _ _ _ _ _ _ _ _ _ _ _ _ _ _ _ _ _ _ _ _ _ _ _ _ _ _ _ _ _ _ _ _ _ _ _ _ _ _ _ _ _ _ _ _ _ _ _ _ _ _ _ _ _ _ _ _ _ _ _ _ _ _ _ _ _ _ _ _ _ _ _ _ _ _ _ _ _ _ _ _ _ _ _ _ _ _ _ _ _ _ _ _ _ _ _ _ _ _ _ _ _ _ _ _ _ _ _ _ _ _ _ _ _ ?_
        intro tb v pb db d56 d57 d58 d59 d60 d61 d62 d63 wn hF
        have FN := Lib.hid hF
        clear hF H0' R6 B6
        have hTb : (T == 0) = false := by simpa using hT0
        have hsc := FN.out.hs.2.1
        have him : y0.s.ime = true := by rw [HY.out]; exact hi.out
        rw [him] at hsc
        clear him
        have HYI := Lib.hid (show y0 = wakeY { s.r with sp := spv } true s.soon false fl le by rw [HY.out, hi.out])
        have HL := Lib.hid (show lowV T = 0 by rw [← HT.out]; exact hl.out)
        have hC := wakeC { s.r with sp := spv } s.soon fl le T y0 y1 DV HYI.out Y1.out YD.out HT.out hT0 SPB.out.1 SPB.out.2
        dsimp only at hC
        have HC := Lib.hid hC
        clear hC
        go_upto_block 0 with (fail)
        go_cut [14] (fun s14 wx => s14 = .int .i64 (lowV T : Nat) ∧ wx = wn)
        case first =>
          clear hsc
          have hall : T = 1 ∨ T = 2 ∨ T = 3 ∨ T = 4 ∨ T = 5 ∨ T = 6 ∨ T = 7 ∨ T = 8 ∨ T = 9 ∨ T = 10 ∨ T = 11 ∨ T = 12 ∨ T = 13 ∨ T = 14 ∨ T = 15 ∨ T = 16 ∨ T = 17 ∨ T = 18 ∨ T = 19 ∨ T = 20 ∨ T = 21 ∨ T = 22 ∨ T = 23 ∨ T = 24 ∨ T = 25 ∨ T = 26 ∨ T = 27 ∨ T = 28 ∨ T = 29 ∨ T = 30 ∨ T = 31 := by omega
          clear hT0 hTb HT FN HC tb0
          rcases hall with rfl | rfl | rfl | rfl | rfl | rfl | rfl | rfl | rfl | rfl | rfl | rfl | rfl | rfl | rfl | rfl | rfl | rfl | rfl | rfl | rfl | rfl | rfl | rfl | rfl | rfl | rfl | rfl | rfl | rfl | rfl
          · go_wp2
            refine wp_loop_rounds 1 ?_
            rw [rounds_succ]
            go_wp2
            go_meet
            exact ⟨rfl, rfl⟩
          · exact absurd HL.out (by decide)
          · go_wp2
            refine wp_loop_rounds 1 ?_
            rw [rounds_succ]
            go_wp2
            go_meet
            exact ⟨rfl, rfl⟩
          · exact absurd HL.out (by decide)
          · go_wp2
            refine wp_loop_rounds 1 ?_
            rw [rounds_succ]
            go_wp2
            go_meet
            exact ⟨rfl, rfl⟩
          · exact absurd HL.out (by decide)
          · go_wp2
            refine wp_loop_rounds 1 ?_
            rw [rounds_succ]
            go_wp2
            go_meet
            exact ⟨rfl, rfl⟩
          · exact absurd HL.out (by decide)
          · go_wp2
            refine wp_loop_rounds 1 ?_
            rw [rounds_succ]
            go_wp2
            go_meet
            exact ⟨rfl, rfl⟩
          · exact absurd HL.out (by decide)
          · go_wp2
            refine wp_loop_rounds 1 ?_
            rw [rounds_succ]
            go_wp2
            go_meet
            exact ⟨rfl, rfl⟩
          · exact absurd HL.out (by decide)
          · go_wp2
            refine wp_loop_rounds 1 ?_
            rw [rounds_succ]
            go_wp2
            go_meet
            exact ⟨rfl, rfl⟩
          · exact absurd HL.out (by decide)
          · go_wp2
            refine wp_loop_rounds 1 ?_
            rw [rounds_succ]
            go_wp2
            go_meet
            exact ⟨rfl, rfl⟩
          · exact absurd HL.out (by decide)
          · go_wp2
            refine wp_loop_rounds 1 ?_
            rw [rounds_succ]
            go_wp2
            go_meet
            exact ⟨rfl, rfl⟩
          · exact absurd HL.out (by decide)
          · go_wp2
            refine wp_loop_rounds 1 ?_
            rw [rounds_succ]
            go_wp2
            go_meet
            exact ⟨rfl, rfl⟩
          · exact absurd HL.out (by decide)
          · go_wp2
            refine wp_loop_rounds 1 ?_
            rw [rounds_succ]
            go_wp2
            go_meet
            exact ⟨rfl, rfl⟩
          · exact absurd HL.out (by decide)
          · go_wp2
            refine wp_loop_rounds 1 ?_
            rw [rounds_succ]
            go_wp2
            go_meet
            exact ⟨rfl, rfl⟩
          · exact absurd HL.out (by decide)
          · go_wp2
            refine wp_loop_rounds 1 ?_
            rw [rounds_succ]
            go_wp2
            go_meet
            exact ⟨rfl, rfl⟩
          · exact absurd HL.out (by decide)
          · go_wp2
            refine wp_loop_rounds 1 ?_
            rw [rounds_succ]
            go_wp2
            go_meet
            exact ⟨rfl, rfl⟩
          · exact absurd HL.out (by decide)
          · go_wp2
            refine wp_loop_rounds 1 ?_
            rw [rounds_succ]
            go_wp2
            go_meet
            exact ⟨rfl, rfl⟩
          · exact absurd HL.out (by decide)
          · go_wp2
            refine wp_loop_rounds 1 ?_
            rw [rounds_succ]
            go_wp2
            go_meet
            exact ⟨rfl, rfl⟩
        case rest =>
          obtain ⟨rfl, rfl⟩ := hcut
          obtain ⟨hs1, hm0, hm1, hmf, hln, hdw, hdn⟩ := HC.out
          obtain ⟨an, han⟩ : ∃ an : Nat, spv = an + 2 := ⟨(spv - 2).toNat, by have := SPB.out; omega⟩
          have ysp : y0.s.r.sp = spv := by rw [HYI.out]; rfl
          have ypc : y0.s.r.pc = 256 := by rw [HYI.out]; rfl
          subst han
          have an1 : an ≤ 61438 := by have := SPB.out; omega
          have e1 : (an : Int) + 2 - 2 = an := by omega
          have e2 : (an : Int) + 2 - 1 = ((an + 1 : Nat) : Int) := by omega
          rw [e1] at hs1 hm0
          rw [e2] at hm1
          obtain ⟨va, vc, hv⟩ := FN.out.bus.form
          rw [hln] at hv
          subst hv
          obtain ⟨qr, hR⟩ := FN.out.bus.ram
          have hr0 : wc.cell? ⟨R, 0, none⟩ = some (.slice (some ⟨M, 0, none⟩) 65536 65536) := hR.2.1 0
          have hr1 : wc.cell? ⟨R, 1, none⟩ = some (.slice va 5 vc) := hR.2.1 1
          have hma := FN.out.bus.mem an (by omega)
          rw [hm0] at hma
          have hmb := FN.out.bus.mem (an + 1) (by omega)
          rw [hm1] at hmb
          have hmc := FN.out.bus.mem 65295 (by decide)
          have fp := FN.out.hp.2.1
          have fs := FN.out.hs.2.1
          have fd := FN.out.hd.2.1
          rw [ysp, ypc] at fs
          have L4 := Lib.hid FN.out.bl
          have hmf' : y1.m ((65295 : Nat) : Int) = clr fl (lowV T) := hmf
          rw [hmf'] at hmc
          rw [hs1] at fp
          rw [hdw, hdn] at fd
          dsimp only at fp
          rw [HL.out] at hmc fp fd ⊢
          clear hsc hs1 hm0 hm1 hmf hmf' hln hdw hdn ysp ypc e1 e2 hR FN HC hTb hT0
          have hcl : bits .andNot .u8 fl 1 = clr fl 0 := byte_all (P := fun x => bits .andNot .u8 x 1 = clr x 0) (fun n => clr_all ⟨0, by decide⟩ n) fl f0 f1
          generalize clr fl 0 = cf at hmc hcl
          have k1 : (64 : Int) + 8 * ((0 : Nat) : Int) = 64 := by decide
          have k2 : ((0 : Nat) : Int) = 0 := rfl
          rw [k1] at fp
          rw [k2] at fd ⊢
          clear k1 k2
          have w1 : IntKind.u16.wrap ((an : Int) + 1) = ((an + 1 : Nat) : Int) := by show ((an : Int) + 1) % 65536 = _; omega
          have w2 : IntKind.u16.wrap ((an : Int) + 2 - 2) = an := by show ((an : Int) + 2 - 2) % 65536 = _; omega
          have h256 : bits .or .u16 0 256 = 256 := by decide +kernel
          go_upto_region 19 with (fail)
          go_quiet (fail)
          clear h256
          go_wp2
          go_ret
          exact ⟨rfl, via L4.out ⟨rfl, rfl, rfl, Nat.le_refl _, fun _ _ => rfl⟩⟩
set_option maxHeartbeats 8000000 in
theorem wakes_c1 (s : St) (ok : s.r.ok) (fl le : Int) (f0 : 0 ≤ fl) (f1 : fl < 256) (l0 : 0 ≤ le) (l1 : le < 256) (stop : Bool) (hst : stop = false) (hT' : ¬ thereV fl le = 0) (hi' : s.ime = true) (hl' : lowV (thereV fl le) = 1) (w : World) : Calls Tryz.prog 5 #[.agg #[.int .u8 s.r.a, .int .u8 s.r.f, .int .u8 s.r.b, .int .u8 s.r.c, .int .u8 s.r.d, .int .u8 s.r.e, .int .u8 s.r.h, .int .u8 s.r.l, .int .u16 s.r.sp, .int .u16 s.r.pc, .bool s.ime, .bool s.soon, .bool s.halt, .bool s.stop], .int .u8 fl, .int .u8 le, .bool stop] w fun e w' => e = .returned (.bool true) ∧ Below w.heap.size w w' := by
  subst hst
  have hi := Lib.hid hi'
  have hl := Lib.hid hl'
  have hTz := Lib.hid hT'
  clear hi' hl' hT'
  have hnot : ∀ (x : Bool) (w : World), (Op.unary .not (.bool x)).run Tryz.prog w = .ok (.bool (!x)) w := fun _ _ => rfl
  have hmk := mk_run
  have HB := Lib.hid (own1 w (.cells #[.int .u8 s.r.a, .int .u8 s.r.f, .int .u8 s.r.b, .int .u8 s.r.c, .int .u8 s.r.d, .int .u8 s.r.e, .int .u8 s.r.h, .int .u8 s.r.l, .int .u16 s.r.sp, .int .u16 s.r.pc, .bool s.ime, .bool s.soon, .bool s.halt, .bool s.stop] 26))
  have HR := Lib.hid (Has.new w #[.int .u8 s.r.a, .int .u8 s.r.f, .int .u8 s.r.b, .int .u8 s.r.c, .int .u8 s.r.d, .int .u8 s.r.e, .int .u8 s.r.h, .int .u8 s.r.l, .int .u16 s.r.sp, .int .u16 s.r.pc, .bool s.ime, .bool s.soon, .bool s.halt, .bool s.stop] 26)
  go_enter Tryz.func5, Tryz.ntmps5
  go_wp2_with fail
  refine (awake_c _).mono ?_
  rintro e w1 ⟨rfl, hb1⟩
  have HB1 := Lib.hid (via HB.out hb1)
  have HR0 := Lib.hid (HR.out.below hb1)
  clear HB HR hb1
  have r0 := Ram.zero w1
  go_wp2
  clear hmk
  have B0 := Lib.hid (via HB1.out (own2 w1 (.cells zeroM 5) (.cells #[.slice (some ⟨w1.heap.size, 0, none⟩) 65536 65536, .slice none 0 0] 35)))
  have HR1 := Lib.hid ((HR0.out.below (own2 w1 (.cells zeroM 5) (.cells #[.slice (some ⟨w1.heap.size, 0, none⟩) 65536 65536, .slice none 0 0] 35))).drew)
  have NM := Lib.hid (show ¬ w1.heap.size = w.heap.size by have := HR0.out.1; omega)
  have LM := Lib.hid HB1.out.size
  clear HR0 HB1
  generalize ((w1.alloc (.cells zeroM 5)).alloc (.cells #[.slice (some ⟨w1.heap.size, 0, none⟩) 65536 65536, .slice none 0 0] 35)) = w0 at B0 r0 HR1 ⊢
  generalize hM : w1.heap.size = M at r0 NM LM ⊢
  generalize hR : M + 1 = R at r0 ⊢
  have LR := Lib.hid (show w.heap.size ≤ R by have := LM.out; omega)
  clear hR hM
  have R1 := Lib.hid (r0.below (Below.refl _ _).drew)
  have B1 := Lib.hid (B0.out.drew)
  clear r0 B0
  refine wp_region_held_drew (S := (fun w' => (w'.cell? ⟨R, 0, none⟩ = some (.slice (some ⟨M, 0, none⟩) 65536 65536)) ∧ True)) (by kernel_rfl) ⟨R1.out.ram.2.1 0, trivial⟩ (fun hHeld => ?_)
  generalize World.drew w0 = u1 at hHeld R1 B1 HR1 ⊢
  refine wpAnyH_take (i := 0) (oi := { dst := some 21, op := Go.Op.move (Go.Operand.tmp 9), type := 31, pos := "law.go:130", after := #[], guard := none }) (v := ?v1) rfl (by kernel_rfl) (by kernel_rfl) (by kernel_rfl) (fun _ _ _ h => h) (Or.inl ⟨by rfl, ?y1⟩) (by assumption) ?z1
  case y1 => (intro w hSw; (try dsimp only at hSw); go_simp) <;> with_reducible rfl
  try simp only [Act.put, List.setIfInBounds_toArray, List.set_cons_zero, List.set_cons_succ]
  refine wpAnyH_take (i := 1) (oi := { dst := some 22, op := Go.Op.nilCheck (Go.Operand.tmp 21), type := 0, pos := "law.go:130", after := #[{ on := 0, ground := Go.Ground.data }], guard := none }) (v := ?v2) rfl (by kernel_rfl) (by kernel_rfl) (by kernel_rfl) (fun _ _ _ h => h) (Or.inl ⟨by rfl, ?y2⟩) (by assumption) ?z2
  case y2 => (intro w hSw; (try dsimp only at hSw); go_simp) <;> with_reducible rfl
  try simp only [Act.put, List.setIfInBounds_toArray, List.set_cons_zero, List.set_cons_succ]
  refine wpAnyH_take (i := 2) (oi := { dst := some 23, op := Go.Op.fieldAddr 35 (Go.Operand.tmp 22) 0, type := 0, pos := "law.go:130", after := #[{ on := 1, ground := Go.Ground.data }], guard := none }) (v := ?v3) rfl (by kernel_rfl) (by kernel_rfl) (by kernel_rfl) (fun _ _ _ h => h) (Or.inl ⟨by rfl, ?y3⟩) (by assumption) ?z3
  case y3 => (intro w hSw; (try dsimp only at hSw); go_simp) <;> with_reducible rfl
  try simp only [Act.put, List.setIfInBounds_toArray, List.set_cons_zero, List.set_cons_succ]
  refine wpAnyH_take (i := 3) (oi := { dst := some 24, op := Go.Op.load 27 (Go.Operand.tmp 23), type := 27, pos := "law.go:130", after := #[{ on := 2, ground := Go.Ground.data }], guard := none }) (v := ?v4) rfl (by kernel_rfl) (by kernel_rfl) (by kernel_rfl) (fun _ _ _ h => h) (Or.inl ⟨by rfl, ?y4⟩) (by assumption) ?z4
  case y4 => (intro w hSw; (try dsimp only at hSw); go_simp) <;> with_reducible rfl
  try simp only [Act.put, List.setIfInBounds_toArray, List.set_cons_zero, List.set_cons_succ]
  refine wpAnyH_take (i := 4) (oi := { dst := some 25, op := Go.Op.move (Go.Operand.tmp 9), type := 31, pos := "law.go:130", after := #[], guard := none }) (v := ?v5) rfl (by kernel_rfl) (by kernel_rfl) (by kernel_rfl) (fun _ _ _ h => h) (Or.inl ⟨by rfl, ?y5⟩) (by assumption) ?z5
  case y5 => (intro w hSw; (try dsimp only at hSw); go_simp) <;> with_reducible rfl
  try simp only [Act.put, List.setIfInBounds_toArray, List.set_cons_zero, List.set_cons_succ]
  refine wpAnyH_take (i := 5) (oi := { dst := some 26, op := Go.Op.nilCheck (Go.Operand.tmp 25), type := 0, pos := "law.go:130", after := #[{ on := 4, ground := Go.Ground.data }], guard := none }) (v := ?v6) rfl (by kernel_rfl) (by kernel_rfl) (by kernel_rfl) (fun _ _ _ h => h) (Or.inl ⟨by rfl, ?y6⟩) (by assumption) ?z6
  case y6 => (intro w hSw; (try dsimp only at hSw); go_simp) <;> with_reducible rfl
  try simp only [Act.put, List.setIfInBounds_toArray, List.set_cons_zero, List.set_cons_succ]
  refine wpAnyH_take (i := 6) (oi := { dst := some 27, op := Go.Op.fieldAddr 35 (Go.Operand.tmp 26) 0, type := 0, pos := "law.go:130", after := #[{ on := 5, ground := Go.Ground.data }], guard := none }) (v := ?v7) rfl (by kernel_rfl) (by kernel_rfl) (by kernel_rfl) (fun _ _ _ h => h) (Or.inl ⟨by rfl, ?y7⟩) (by assumption) ?z7
  case y7 => (intro w hSw; (try dsimp only at hSw); go_simp) <;> with_reducible rfl
  try simp only [Act.put, List.setIfInBounds_toArray, List.set_cons_zero, List.set_cons_succ]
  refine wpAnyH_take (i := 7) (oi := { dst := some 28, op := Go.Op.load 27 (Go.Operand.tmp 27), type := 27, pos := "law.go:130", after := #[{ on := 6, ground := Go.Ground.data }], guard := none }) (v := ?v8) rfl (by kernel_rfl) (by kernel_rfl) (by kernel_rfl) (fun _ _ _ h => h) (Or.inl ⟨by rfl, ?y8⟩) (by assumption) ?z8
  case y8 => (intro w hSw; (try dsimp only at hSw); go_simp) <;> with_reducible rfl
  try simp only [Act.put, List.setIfInBounds_toArray, List.set_cons_zero, List.set_cons_succ]
  refine wpAnyH_take (i := 8) (oi := { dst := some 29, op := Go.Op.move (Go.Operand.tmp 1), type := 5, pos := "law.go:130", after := #[], guard := none }) (v := ?v9) rfl (by kernel_rfl) (by kernel_rfl) (by kernel_rfl) (fun _ _ _ h => h) (Or.inl ⟨by rfl, ?y9⟩) (by assumption) ?z9
  case y9 => (intro w hSw; (try dsimp only at hSw); go_simp) <;> with_reducible rfl
  try simp only [Act.put, List.setIfInBounds_toArray, List.set_cons_zero, List.set_cons_succ]
  refine wpAnyH_take (i := 9) (oi := { dst := some 30, op := Go.Op.move (Go.Operand.tmp 2), type := 5, pos := "law.go:130", after := #[{ on := 11, ground := Go.Ground.gcOnly Go.Departure.lateStores }], guard := none }) (v := ?v10) rfl (by kernel_rfl) (by kernel_rfl) (by kernel_rfl) (fun _ _ _ h => h) (Or.inl ⟨by rfl, ?y10⟩) (by assumption) ?z10
  case y10 => (intro w hSw; (try dsimp only at hSw); go_simp) <;> with_reducible rfl
  try simp only [Act.put, List.setIfInBounds_toArray, List.set_cons_zero, List.set_cons_succ]
  refine wpAnyH_take (i := 10) (oi := { dst := some 31, op := Go.Op.indexAddr 27 (Go.Operand.tmp 24) (Go.Operand.const (Go.Value.int Go.IntKind.i64 65295)), type := 0, pos := "law.go:130", after := #[{ on := 3, ground := Go.Ground.data }, { on := 0, ground := Go.Ground.phase }, { on := 1, ground := Go.Ground.phase }, { on := 2, ground := Go.Ground.phase }, { on := 3, ground := Go.Ground.phase }, { on := 4, ground := Go.Ground.textOnly Go.Departure.lateStores }, { on := 5, ground := Go.Ground.textOnly Go.Departure.lateStoresUnsure }, { on := 6, ground := Go.Ground.textOnly Go.Departure.lateStoresUnsure }, { on := 7, ground := Go.Ground.phase }, { on := 8, ground := Go.Ground.phase }, { on := 9, ground := Go.Ground.textOnly Go.Departure.lateStores }], guard := none }) (v := ?v11) rfl (by kernel_rfl) (by kernel_rfl) (by kernel_rfl) (fun _ _ _ h => h) (Or.inl ⟨by rfl, ?y11⟩) (by assumption) ?z11
  case y11 => (intro w hSw; (try dsimp only at hSw); go_simp) <;> with_reducible rfl
  try simp only [Act.put, List.setIfInBounds_toArray, List.set_cons_zero, List.set_cons_succ]
  refine wpAnyH_ready (rs := [11]) (by kernel_rfl) (by simp) ?_
  refine (AllReadyH.cons (o := { dst := none, op := Go.Op.store 5 (Go.Operand.tmp 31) (Go.Operand.tmp 29), type := 0, pos := "law.go:130", after := #[{ on := 10, ground := Go.Ground.data }, { on := 8, ground := Go.Ground.data }, { on := 0, ground := Go.Ground.phase }, { on := 1, ground := Go.Ground.phase }, { on := 2, ground := Go.Ground.phase }, { on := 3, ground := Go.Ground.phase }, { on := 4, ground := Go.Ground.textOnly Go.Departure.lateStores }, { on := 5, ground := Go.Ground.textOnly Go.Departure.lateStoresUnsure }, { on := 6, ground := Go.Ground.textOnly Go.Departure.lateStoresUnsure }, { on := 7, ground := Go.Ground.phase }, { on := 8, ground := Go.Ground.phase }, { on := 9, ground := Go.Ground.textOnly Go.Departure.lateStores }], guard := none }) rfl (fun K hK => ?_) AllReadyH.nil)
  · skip
    have hm := R1.out.mem 65295 (by decide)
    have hf := R1.out.free
    go_simp
    have R2 := Lib.hid (R1.out.poke 65295 (by decide) fl (by omega) (by omega))
    have B2 := Lib.hid (B1.out.setCell (p := ⟨M, 65295, none⟩) LM.out (.int .u8 fl))
    have HR2 := Lib.hid (HR1.out.far ⟨M, 65295, none⟩ (.int .u8 fl) NM.out)
    refine hK.out _ _ ?s12 (fun hNew => ?r12)
    case s12 => exact ⟨R2.out.ram.2.1 0, trivial⟩
    clear hK K hHeld hm hf
    have hHeld := hNew
    clear hNew
    generalize World.setCell u1 ⟨M, 65295, none⟩ (.int .u8 fl) = u2 at hHeld R2 B2 HR2 ⊢
    refine wpAnyH_take (i := 12) (oi := { dst := some 32, op := Go.Op.indexAddr 27 (Go.Operand.tmp 28) (Go.Operand.const (Go.Value.int Go.IntKind.i64 65535)), type := 0, pos := "law.go:130", after := #[{ on := 7, ground := Go.Ground.data }, { on := 0, ground := Go.Ground.phase }, { on := 1, ground := Go.Ground.phase }, { on := 2, ground := Go.Ground.phase }, { on := 3, ground := Go.Ground.phase }, { on := 4, ground := Go.Ground.phase }, { on := 5, ground := Go.Ground.phase }, { on := 6, ground := Go.Ground.phase }, { on := 7, ground := Go.Ground.phase }, { on := 8, ground := Go.Ground.phase }, { on := 9, ground := Go.Ground.phase }, { on := 10, ground := Go.Ground.phase }, { on := 11, ground := Go.Ground.phase }], guard := none }) (v := ?v13) rfl (by kernel_rfl) (by kernel_rfl) (by kernel_rfl) (fun _ _ _ h => h) (Or.inl ⟨by rfl, ?y13⟩) (by assumption) ?z13
    case y13 => (intro w hSw; (try dsimp only at hSw); go_simp) <;> with_reducible rfl
    try simp only [Act.put, List.setIfInBounds_toArray, List.set_cons_zero, List.set_cons_succ]
    refine wpAnyH_ready (rs := [13]) (by kernel_rfl) (by simp) ?_
    refine (AllReadyH.cons (o := { dst := none, op := Go.Op.store 5 (Go.Operand.tmp 32) (Go.Operand.tmp 30), type := 0, pos := "law.go:130", after := #[{ on := 12, ground := Go.Ground.data }, { on := 9, ground := Go.Ground.data }, { on := 11, ground := Go.Ground.chain }, { on := 0, ground := Go.Ground.phase }, { on := 1, ground := Go.Ground.phase }, { on := 2, ground := Go.Ground.phase }, { on := 3, ground := Go.Ground.phase }, { on := 4, ground := Go.Ground.phase }, { on := 5, ground := Go.Ground.phase }, { on := 6, ground := Go.Ground.phase }, { on := 7, ground := Go.Ground.phase }, { on := 8, ground := Go.Ground.phase }, { on := 9, ground := Go.Ground.phase }, { on := 10, ground := Go.Ground.phase }, { on := 11, ground := Go.Ground.phase }], guard := none }) rfl (fun K hK => ?_) AllReadyH.nil)
    · skip
      have hm := R2.out.mem 65535 (by decide)
      have hf := R2.out.free
      go_simp
      have R3 := Lib.hid (R2.out.poke 65535 (by decide) le (by omega) (by omega))
      have B3 := Lib.hid (B2.out.setCell (p := ⟨M, 65535, none⟩) LM.out (.int .u8 le))
      have HR3 := Lib.hid (HR2.out.far ⟨M, 65535, none⟩ (.int .u8 le) NM.out)
      refine hK.out _ _ ?s14 (fun hNew => ?r14)
      case s14 => exact ⟨R3.out.ram.2.1 0, trivial⟩
      clear hK K hHeld hm hf
      have hHeld := hNew
      clear hNew
      generalize World.setCell u2 ⟨M, 65535, none⟩ (.int .u8 le) = u3 at hHeld R3 B3 HR3 ⊢
      refine wpAnyH_done (by kernel_rfl) ?_ _
      clear R1 B1 HR1 R2 B2 HR2 hHeld
      have hrr := HR3.out.2.1
      go_wp2_with fail
      with_reducible refine (state_c s _).mono ?_
      rintro e w2 ⟨rfl, hb2⟩
      have R4 := Lib.hid (R3.out.below hb2)
      have B4 := Lib.hid (via B3.out hb2)
      clear R3 B3 HR3 hrr hb2
      have spb := ok.2.2.2.2.2.2.2.2.1
      go_upto_region 7 with (fail)
      have q4 := own1 w2 (.cells #[.int .u8 s.r.a, .int .u8 s.r.f, .int .u8 s.r.b, .int .u8 s.r.c, .int .u8 s.r.d, .int .u8 s.r.e, .int .u8 s.r.h, .int .u8 s.r.l, .int .u16 s.r.sp, .int .u16 256, .bool s.ime, .bool s.soon, .bool true, .bool false] 41)
      have R5 := Lib.hid (R4.out.below q4)
      have B5 := Lib.hid (via B4.out q4)
      have H5 := Lib.hid (Has.new w2 #[.int .u8 s.r.a, .int .u8 s.r.f, .int .u8 s.r.b, .int .u8 s.r.c, .int .u8 s.r.d, .int .u8 s.r.e, .int .u8 s.r.h, .int .u8 s.r.l, .int .u16 s.r.sp, .int .u16 256, .bool s.ime, .bool s.soon, .bool true, .bool false] 41)
      have XS1 := Lib.hid (show w2.heap.size ≠ R by have := R4.out.ram.1; omega)
      have XS2 := Lib.hid (show w2.heap.size ≠ M by have := R4.out.mlt; omega)
      have LS := Lib.hid B4.out.size
      clear q4 R4 B4
      generalize w2.alloc (.cells #[.int .u8 s.r.a, .int .u8 s.r.f, .int .u8 s.r.b, .int .u8 s.r.c, .int .u8 s.r.d, .int .u8 s.r.e, .int .u8 s.r.h, .int .u8 s.r.l, .int .u16 s.r.sp, .int .u16 256, .bool s.ime, .bool s.soon, .bool true, .bool false] 41) = w3 at R5 B5 H5 ⊢
      generalize w2.heap.size = sb at H5 XS1 XS2 LS ⊢
      go_cut [10, 49] (fun s10 s49 wx => s10 = .pointer (some ⟨sb, 0, none⟩) ∧ s49 = .bool (decide (s.r.sp < 49152) || decide (61440 < s.r.sp)) ∧ wx = w3)
      case first =>
        have hcc := H5.out.2.1
        by_cases hA : s.r.sp < 49152
        · go_wp2
          go_meet
          exact ⟨rfl, by simp [hA], rfl⟩
        · by_cases hB : 61440 < s.r.sp
          · go_wp2
            go_meet
            exact ⟨rfl, by simp [hB], rfl⟩
          · go_wp2
            go_meet
            exact ⟨rfl, by simp [hA, hB], rfl⟩
      case rest =>
       obtain ⟨rfl, rfl, rfl⟩ := hcut
       obtain ⟨bq, hbq⟩ : ∃ q_, (decide (s.r.sp < 49152) || decide (61440 < s.r.sp)) = q_ := ⟨_, rfl⟩
       rw [hbq]
       have HBQ := Lib.hid hbq
       clear hbq
       go_upto_if 49 with (fail)
       go_cut [10] (fun s10 wx => ∃ spv : Int, (49152 ≤ spv ∧ spv ≤ 61440) ∧ s10 = .pointer (some ⟨sb, 0, none⟩) ∧ Ram wx R M (wakeM fl le) ∧ Below w.heap.size w wx ∧ Has wx sb #[.int .u8 s.r.a, .int .u8 s.r.f, .int .u8 s.r.b, .int .u8 s.r.c, .int .u8 s.r.d, .int .u8 s.r.e, .int .u8 s.r.h, .int .u8 s.r.l, .int .u16 spv, .int .u16 256, .bool s.ime, .bool s.soon, .bool true, .bool false])
       case first =>
        have hcc := H5.out.2.1
        have hfz := H5.out.2.2
        cases bq with
        | true =>
          go_wp2
          go_meet
          exact ⟨53248, by decide, rfl, R5.out.off (Off.setCell (X := fun k => k = sb) wc sb 8 (.int .u16 53248) rfl) (fun e => XS1.out e.symm) (fun e => XS2.out e.symm), B5.out.setCell (p := ⟨sb, 8, none⟩) LS.out _, by have := H5.out.set 8 (.int .u16 53248) (by simp); simpa using this⟩
        | false =>
          have hb2 := HBQ.out
          simp at hb2
          have HB2 := Lib.hid hb2
          clear hb2
          go_wp2
          go_meet
          exact ⟨s.r.sp, by have := HB2.out; omega, rfl, R5.out, B5.out, H5.out⟩
       case rest =>
        obtain ⟨spv, hsp, rfl, r6, b6, h6⟩ := hcut
        obtain ⟨y0, hy0⟩ : ∃ q_, q_ = wakeY { s.r with sp := spv } s.ime s.soon false fl le := ⟨_, rfl⟩
        have HY := Lib.hid hy0
        have H0' := Lib.hid (show Has wc sb #[.int .u8 y0.s.r.a, .int .u8 y0.s.r.f, .int .u8 y0.s.r.b, .int .u8 y0.s.r.c, .int .u8 y0.s.r.d, .int .u8 y0.s.r.e, .int .u8 y0.s.r.h, .int .u8 y0.s.r.l, .int .u16 y0.s.r.sp, .int .u16 y0.s.r.pc, .bool y0.s.ime, .bool y0.s.soon, .bool y0.s.halt, .bool y0.s.stop] by rw [hy0]; exact h6)
        have OK := Lib.hid (show y0.s.r.ok by rw [hy0]; exact ok_pc (ok_sp ok spv (by omega) (by omega)) 256 (by decide) (by decide))
        obtain ⟨y1, hy1⟩ : ∃ q_, q_ = stepS ⟨y0.s, y0.m, y0.acc⟩ := ⟨_, rfl⟩
        obtain ⟨DV, hDV⟩ : ∃ q_, q_ = stepD ⟨y0.s, y0.m, y0.acc⟩ := ⟨_, rfl⟩
        have Y1 := Lib.hid hy1
        have YD := Lib.hid hDV
        have SPB := Lib.hid hsp
        have tb0 := there_bd fl le f0 f1 l0 l1
        have R6 := Lib.hid r6
        have B6 := Lib.hid b6
        clear hy0 hy1 hDV hsp r6 b6 h6 R5 B5 H5 spb
        have htv : bits .and .u8 (bits .and .u8 fl le) 31 = thereV fl le := rfl
        obtain ⟨T, hT⟩ : ∃ q_, thereV fl le = q_ := ⟨_, rfl⟩
        rw [hT] at htv tb0
        have hT0 : ¬ T = 0 := by rw [← hT]; exact hTz.out
        have HT := Lib.hid hT
        clear hT
        go_upto_region 10 with (fail)
        clear htv
        refine reg10 w wc R M sb (wakeM fl le) y0 y1 DV (by rw [HY.out]; exact ⟨rfl, rfl⟩) Y1.out YD.out OK.out LM.out LR.out LS.out XS1.out XS2.out R6.out B6.out H0'.out _ _ _ _ _ _ _ _ _ _ _ _ _ _ _ _ _ _ _ _ _ _ _ _ _ _ _ _ _ _ _ _ _ _ _ _ _ _ _ _ _ _ _ _ _ _ _ _ _ _ _ _ _ _ _ _ _ _ _ _ _ _ _ _ _ _ _ _ _ _ _ _ _ _ _ _ _ _ _ _ _ _ _ _ _ _ _ _ _ _ _ _ _ _ _ _ _ _ _ _ _ _ _ _ _ _ _ _ _ _ _ _ _ _ _ _ _ _ _ _ _ _ _ _ _ _ _ _ _ _ _ _ _ _ _ _ _ _ _ _ _ _ _ _ _ _ _ _ _ _ _ _ _ _ _ _ _ _ _ _ _ _ _ _ _ _ _ _ _ _ _ _ _ _ _ _ _ _ _ _ _ _ _ _ _ _ _ _ _ _ _ _ _ _ _ _ _ _ _ _ _ _ _ _ _ _ _ _ _ _ _ _ _ _ _ _ _ _ ?_
        intro tb v pb db d56 d57 d58 d59 d60 d61 d62 d63 wn hF
        have FN := Lib.hid hF
        clear hF H0' R6 B6
        have hTb : (T == 0) = false := by simpa using hT0
        have hsc := FN.out.hs.2.1
        have him : y0.s.ime = true := by rw [HY.out]; exact hi.out
        rw [him] at hsc
        clear him
        have HYI := Lib.hid (show y0 = wakeY { s.r with sp := spv } true s.soon false fl le by rw [HY.out, hi.out])
        have HL := Lib.hid (show lowV T = 1 by rw [← HT.out]; exact hl.out)
        have hC := wakeC { s.r with sp := spv } s.soon fl le T y0 y1 DV HYI.out Y1.out YD.out HT.out hT0 SPB.out.1 SPB.out.2
        dsimp only at hC
        have HC := Lib.hid hC
        clear hC
        go_upto_block 0 with (fail)
        go_cut [14] (fun s14 wx => s14 = .int .i64 (lowV T : Nat) ∧ wx = wn)
        case first =>
          clear hsc
          have hall : T = 1 ∨ T = 2 ∨ T = 3 ∨ T = 4 ∨ T = 5 ∨ T = 6 ∨ T = 7 ∨ T = 8 ∨ T = 9 ∨ T = 10 ∨ T = 11 ∨ T = 12 ∨ T = 13 ∨ T = 14 ∨ T = 15 ∨ T = 16 ∨ T = 17 ∨ T = 18 ∨ T = 19 ∨ T = 20 ∨ T = 21 ∨ T = 22 ∨ T = 23 ∨ T = 24 ∨ T = 25 ∨ T = 26 ∨ T = 27 ∨ T = 28 ∨ T = 29 ∨ T = 30 ∨ T = 31 := by omega
          clear hT0 hTb HT FN HC tb0
          rcases hall with rfl | rfl | rfl | rfl | rfl | rfl | rfl | rfl | rfl | rfl | rfl | rfl | rfl | rfl | rfl | rfl | rfl | rfl | rfl | rfl | rfl | rfl | rfl | rfl | rfl | rfl | rfl | rfl | rfl | rfl | rfl
          · exact absurd HL.out (by decide)
          · go_wp2
            refine wp_loop_rounds 2 ?_
            rw [rounds_succ]
            go_wp2
            rw [rounds_succ]
            go_wp2
            go_meet
            exact ⟨rfl, rfl⟩
          · exact absurd HL.out (by decide)
          · exact absurd HL.out (by decide)
          · exact absurd HL.out (by decide)
          · go_wp2
            refine wp_loop_rounds 2 ?_
            rw [rounds_succ]
            go_wp2
            rw [rounds_succ]
            go_wp2
            go_meet
            exact ⟨rfl, rfl⟩
          · exact absurd HL.out (by decide)
          · exact absurd HL.out (by decide)
          · exact absurd HL.out (by decide)
          · go_wp2
            refine wp_loop_rounds 2 ?_
            rw [rounds_succ]
            go_wp2
            rw [rounds_succ]
            go_wp2
            go_meet
            exact ⟨rfl, rfl⟩
          · exact absurd HL.out (by decide)
          · exact absurd HL.out (by decide)
          · exact absurd HL.out (by decide)
          · go_wp2
            refine wp_loop_rounds 2 ?_
            rw [rounds_succ]
            go_wp2
            rw [rounds_succ]
            go_wp2
            go_meet
            exact ⟨rfl, rfl⟩
          · exact absurd HL.out (by decide)
          · exact absurd HL.out (by decide)
          · exact absurd HL.out (by decide)
          · go_wp2
            refine wp_loop_rounds 2 ?_
            rw [rounds_succ]
            go_wp2
            rw [rounds_succ]
            go_wp2
            go_meet
            exact ⟨rfl, rfl⟩
          · exact absurd HL.out (by decide)
          · exact absurd HL.out (by decide)
          · exact absurd HL.out (by decide)
          · go_wp2
            refine wp_loop_rounds 2 ?_
            rw [rounds_succ]
            go_wp2
            rw [rounds_succ]
            go_wp2
            go_meet
            exact ⟨rfl, rfl⟩
          · exact absurd HL.out (by decide)
          · exact absurd HL.out (by decide)
          · exact absurd HL.out (by decide)
          · go_wp2
            refine wp_loop_rounds 2 ?_
            rw [rounds_succ]
            go_wp2
            rw [rounds_succ]
            go_wp2
            go_meet
            exact ⟨rfl, rfl⟩
          · exact absurd HL.out (by decide)
          · exact absurd HL.out (by decide)
          · exact absurd HL.out (by decide)
          · go_wp2
            refine wp_loop_rounds 2 ?_
            rw [rounds_succ]
            go_wp2
            rw [rounds_succ]
            go_wp2
            go_meet
            exact ⟨rfl, rfl⟩
          · exact absurd HL.out (by decide)
        case rest =>
          obtain ⟨rfl, rfl⟩ := hcut
          obtain ⟨hs1, hm0, hm1, hmf, hln, hdw, hdn⟩ := HC.out
          obtain ⟨an, han⟩ : ∃ an : Nat, spv = an + 2 := ⟨(spv - 2).toNat, by have := SPB.out; omega⟩
          have ysp : y0.s.r.sp = spv := by rw [HYI.out]; rfl
          have ypc : y0.s.r.pc = 256 := by rw [HYI.out]; rfl
          subst han
          have an1 : an ≤ 61438 := by have := SPB.out; omega
          have e1 : (an : Int) + 2 - 2 = an := by omega
          have e2 : (an : Int) + 2 - 1 = ((an + 1 : Nat) : Int) := by omega
          rw [e1] at hs1 hm0
          rw [e2] at hm1
          obtain ⟨va, vc, hv⟩ := FN.out.bus.form
          rw [hln] at hv
          subst hv
          obtain ⟨qr, hR⟩ := FN.out.bus.ram
          have hr0 : wc.cell? ⟨R, 0, none⟩ = some (.slice (some ⟨M, 0, none⟩) 65536 65536) := hR.2.1 0
          have hr1 : wc.cell? ⟨R, 1, none⟩ = some (.slice va 5 vc) := hR.2.1 1
          have hma := FN.out.bus.mem an (by omega)
          rw [hm0] at hma
          have hmb := FN.out.bus.mem (an + 1) (by omega)
          rw [hm1] at hmb
          have hmc := FN.out.bus.mem 65295 (by decide)
          have fp := FN.out.hp.2.1
          have fs := FN.out.hs.2.1
          have fd := FN.out.hd.2.1
          rw [ysp, ypc] at fs
          have L4 := Lib.hid FN.out.bl
          have hmf' : y1.m ((65295 : Nat) : Int) = clr fl (lowV T) := hmf
          rw [hmf'] at hmc
          rw [hs1] at fp
          rw [hdw, hdn] at fd
          dsimp only at fp
          rw [HL.out] at hmc fp fd ⊢
          clear hsc hs1 hm0 hm1 hmf hmf' hln hdw hdn ysp ypc e1 e2 hR FN HC hTb hT0
          have hcl : bits .andNot .u8 fl 2 = clr fl 1 := byte_all (P := fun x => bits .andNot .u8 x 2 = clr x 1) (fun n => clr_all ⟨1, by decide⟩ n) fl f0 f1
          generalize clr fl 1 = cf at hmc hcl
          have k1 : (64 : Int) + 8 * ((1 : Nat) : Int) = 72 := by decide
          have k2 : ((1 : Nat) : Int) = 1 := rfl
          rw [k1] at fp
          rw [k2] at fd ⊢
          clear k1 k2
          have w1 : IntKind.u16.wrap ((an : Int) + 1) = ((an + 1 : Nat) : Int) := by show ((an : Int) + 1) % 65536 = _; omega
          have w2 : IntKind.u16.wrap ((an : Int) + 2 - 2) = an := by show ((an : Int) + 2 - 2) % 65536 = _; omega
          have h256 : bits .or .u16 0 256 = 256 := by decide +kernel
          go_upto_region 19 with (fail)
          go_quiet (fail)
          clear h256
          go_wp2
          go_ret
          exact ⟨rfl, via L4.out ⟨rfl, rfl, rfl, Nat.le_refl _, fun _ _ => rfl⟩⟩
end
end Go.Proofs.YtngdogldgcgnjaaGreat
