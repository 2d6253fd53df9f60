/-
  CpuNil: what the step over the second memory leaves, in whatever order its operations run; no condition but those that it names.
-/
import Derived.Test.YtngdogldgcgnjaaGreatN9
import Derived.Deep.Cut
namespace Go.Proofs.YtngdogldgcgnjaaGreat
open Go.ChangeShapes Go.WideShapes Go.ChangeAt Go.RowKit
open Reg
set_option linter.unusedVariables false
set_option maxRecDepth 100000
set_option maxHeartbeats 8000000 in
theorem nreg17 (wc : World) (R M sb : Nat) (m : Int → Int) (s : St) (y1 : Sy) (DV : DidV) (hy1 : y1 = stepS ⟨s, m, []⟩) (hdv : DV = stepD ⟨s, m, []⟩) (ok : s.r.ok) (x1 : sb ≠ R) (x2 : sb ≠ M)
  (rm : Ram wc R M m) (hs : Has wc sb #[.int .u8 s.r.a, .int .u8 s.r.f, .int .u8 s.r.b, .int .u8 s.r.c, .int .u8 s.r.d, .int .u8 s.r.e, .int .u8 s.r.h, .int .u8 s.r.l, .int .u16 s.r.sp, .int .u16 s.r.pc, .bool s.ime, .bool s.soon, .bool s.halt, .bool s.stop]) (c0 c1 c2 c3 c4 c5 c6 c8 c9 c10 c11 c12 c14 c15 c16 c17 c18 c19 c20 c21 c22 c23 c24 c25 c26 c27 c28 c29 c30 c31 c32 c33 c34 c35 c36 c37 c38 c39 c40 c41 c42 c43 c44 c45 c46 c47 c48 c49 c50 c51 c52 c53 c54 c55 c56 c57 c58 c59 c60 c61 c62 c63 c64 c65 c66 c67 c68 c69 c70 c71 c72 c73 c74 c75 c76 c77 c78 c79 c80 c81 c82 c83 c84 c85 c86 c87 c88 c89 c90 c91 c92 c93 c94 c95 c96 c97 c98 c99 c100 c101 c102 c103 c104 c105 c106 c107 c108 c109 c110 c111 c112 c113 c114 c115 c116 c117 c118 c119 c120 c121 c122 c123 c124 c125 c126 c127 c128 c129 c130 c131 c132 c133 c134 c135 c136 c137 c138 c139 c140 c141 c142 c143 c144 c145 c146 c147 c148 c149 c150 c151 c152 c153 c154 c155 c156 c157 c158 c159 c160 c161 c162 c163 c164 c165 c166 c167 c168 c169 c170 c171 c172 c173 c174 c175 c176 c177 c178 c179 c180 : Value) (Kz : Act → World → Prop) (Pz : Ending → World → Prop)
  (hQ : ∀ (tb : Nat) (v : Value) (pb db : Nat) (d154 d155 d156 d157 d158 d159 d160 d161 : Value) (wx : World), FinN wc wx R M tb pb db v y1 DV → Kz ⟨#[c0, c1, c2, c3, c4, c5, c6, .pointer (some ⟨sb, 0, none⟩), c8, c9, c10, c11, c12, .pointer (some ⟨R, 0, none⟩), c14, c15, c16, .pointer (some ⟨pb, 0, none⟩), .pointer (some ⟨db, 0, none⟩), c19, c20, c21, c22, c23, c24, c25, c26, c27, c28, c29, c30, c31, c32, c33, c34, c35, c36, c37, c38, c39, c40, c41, c42, c43, c44, c45, c46, c47, c48, c49, c50, c51, c52, c53, c54, c55, c56, c57, c58, c59, c60, c61, c62, c63, c64, c65, c66, c67, c68, c69, c70, c71, c72, c73, c74, c75, c76, c77, c78, c79, c80, c81, c82, c83, c84, c85, c86, c87, c88, c89, c90, c91, c92, c93, c94, c95, c96, c97, c98, c99, c100, c101, c102, c103, c104, c105, c106, c107, c108, c109, c110, c111, c112, c113, c114, c115, c116, c117, c118, c119, c120, c121, c122, c123, c124, c125, c126, c127, c128, c129, c130, c131, c132, c133, c134, c135, c136, c137, c138, c139, c140, c141, c142, c143, c144, c145, c146, c147, c148, c149, c150, c151, c152, c153, d154, d155, d156, d157, d158, d159, d160, d161, c162, c163, c164, c165, c166, c167, c168, c169, c170, c171, c172, c173, c174, c175, c176, c177, c178, c179, c180], []⟩ wx) :
  Code.wp Tryz.prog (.region 17 #[{ dst := some 155, op := Go.Op.call { callee := Go.Callee.value (Go.Operand.func 11), args := #[], argTypes := #[] }, type := 29, pos := "law.go:250", after := #[], guard := none }, { dst := some 156, op := Go.Op.load 41 (Go.Operand.tmp 7), type := 41, pos := "law.go:250", after := #[], guard := none }, { dst := some 157, op := Go.Op.move (Go.Operand.tmp 13), type := 31, pos := "law.go:250", after := #[], guard := none }, { dst := some 158, op := Go.Op.makeInterface 31 (Go.Operand.tmp 157), type := 83, pos := "law.go:250", after := #[{ on := 2, ground := Go.Ground.data }], guard := none }, { dst := some 159, op := Go.Op.call { callee := Go.Callee.value (Go.Operand.func 14), args := #[Go.Operand.tmp 155, Go.Operand.tmp 156, Go.Operand.tmp 158], argTypes := #[29, 41, 83] }, type := 50, pos := "law.go:250", after := #[{ on := 0, ground := Go.Ground.data }, { on := 1, ground := Go.Ground.data }, { on := 3, ground := Go.Ground.data }, { on := 0, ground := Go.Ground.chain }], guard := none }, { dst := some 154, op := Go.Op.move (Go.Operand.tmp 159), type := 50, pos := "law.go:250", after := #[{ on := 4, ground := Go.Ground.data }], guard := none }, { dst := some 160, op := Go.Op.extract (Go.Operand.tmp 154) 0, type := 41, pos := "law.go:250", after := #[{ on := 5, ground := Go.Ground.data }], guard := none }, { dst := some 161, op := Go.Op.extract (Go.Operand.tmp 154) 1, type := 46, pos := "law.go:250", after := #[{ on := 5, ground := Go.Ground.data }, { on := 10, ground := Go.Ground.gcOnly Go.Departure.lateStores }], guard := none }, { dst := some 17, op := Go.Op.alloc 41, type := 0, pos := "law.go:250", after := #[], guard := none }, { dst := some 18, op := Go.Op.alloc 46, type := 0, pos := "law.go:250", after := #[], guard := none }, { dst := none, op := Go.Op.store 41 (Go.Operand.tmp 17) (Go.Operand.tmp 160), type := 0, pos := "law.go:250", after := #[{ on := 8, ground := Go.Ground.data }, { on := 6, ground := Go.Ground.data }, { on := 4, ground := Go.Ground.chain }, { on := 0, ground := Go.Ground.phase }, { on := 1, ground := Go.Ground.phase }, { on := 2, ground := Go.Ground.phase }, { on := 3, ground := Go.Ground.phase }, { on := 4, ground := Go.Ground.phase }, { on := 5, ground := Go.Ground.phase }, { on := 6, ground := Go.Ground.phase }, { on := 7, ground := Go.Ground.textOnly Go.Departure.lateStores }, { on := 8, ground := Go.Ground.phase }, { on := 9, ground := Go.Ground.phase }], guard := none }, { dst := none, op := Go.Op.store 46 (Go.Operand.tmp 18) (Go.Operand.tmp 161), type := 0, pos := "law.go:250", after := #[{ on := 9, ground := Go.Ground.data }, { on := 7, ground := Go.Ground.data }, { on := 10, ground := Go.Ground.chain }, { on := 0, ground := Go.Ground.phase }, { on := 1, ground := Go.Ground.phase }, { on := 2, ground := Go.Ground.phase }, { on := 3, ground := Go.Ground.phase }, { on := 4, ground := Go.Ground.phase }, { on := 5, ground := Go.Ground.phase }, { on := 6, ground := Go.Ground.phase }, { on := 7, ground := Go.Ground.phase }, { on := 8, ground := Go.Ground.phase }, { on := 9, ground := Go.Ground.phase }, { on := 10, ground := Go.Ground.phase }], guard := none }] true) (Exit.then Kz (bodyPost Tryz.prog Tryz.f9 Pz)) ⟨#[c0, c1, c2, c3, c4, c5, c6, .pointer (some ⟨sb, 0, none⟩), c8, c9, c10, c11, c12, .pointer (some ⟨R, 0, none⟩), c14, c15, c16, c17, c18, c19, c20, c21, c22, c23, c24, c25, c26, c27, c28, c29, c30, c31, c32, c33, c34, c35, c36, c37, c38, c39, c40, c41, c42, c43, c44, c45, c46, c47, c48, c49, c50, c51, c52, c53, c54, c55, c56, c57, c58, c59, c60, c61, c62, c63, c64, c65, c66, c67, c68, c69, c70, c71, c72, c73, c74, c75, c76, c77, c78, c79, c80, c81, c82, c83, c84, c85, c86, c87, c88, c89, c90, c91, c92, c93, c94, c95, c96, c97, c98, c99, c100, c101, c102, c103, c104, c105, c106, c107, c108, c109, c110, c111, c112, c113, c114, c115, c116, c117, c118, c119, c120, c121, c122, c123, c124, c125, c126, c127, c128, c129, c130, c131, c132, c133, c134, c135, c136, c137, c138, c139, c140, c141, c142, c143, c144, c145, c146, c147, c148, c149, c150, c151, c152, c153, c154, c155, c156, c157, c158, c159, c160, c161, c162, c163, c164, c165, c166, c167, c168, c169, c170, c171, c172, c173, c174, c175, c176, c177, c178, c179, c180], []⟩ wc := by
 have HQ := Lib.hid hQ
 have Y1 := Lib.hid hy1
 have YD := Lib.hid hdv
 have OK := Lib.hid ok
 have HS := Lib.hid hs
 have NX := Lib.hid (show ¬ (sb = R ∨ sb = M) from fun h => h.elim x1 x2)
 have O0 := Lib.hid (Off.refl (fun k => k = R ∨ k = M) wc).drew
 have RM0 := Lib.hid (rm.below (Below.refl _ _).drew)
 clear hQ hy1 hdv ok hs x1 x2 rm
 refine wp_region_held_drew (S := (fun w' => (∀ o, w'.cell? ⟨sb, o, none⟩ = #[.int .u8 s.r.a, .int .u8 s.r.f, .int .u8 s.r.b, .int .u8 s.r.c, .int .u8 s.r.d, .int .u8 s.r.e, .int .u8 s.r.h, .int .u8 s.r.l, .int .u16 s.r.sp, .int .u16 s.r.pc, .bool s.ime, .bool s.soon, .bool s.halt, .bool s.stop][o]?) ∧ True)) (by kernel_rfl) ⟨(HS.out.off O0.out NX.out).2.1, trivial⟩ (fun hHeld => ?_)
 generalize World.drew wc = u0 at hHeld O0 RM0 ⊢
 refine tk 1 rfl (v := ?v1) ?y1 ?z1
 case y1 => (intro w hSw; (try dsimp only at hSw); go_simp) <;> with_reducible rfl
 try simp only [Act.put, qqA, qqB, qqC]
 refine tk 2 rfl (v := ?v2) ?y2 ?z2
 case y2 => (intro w hSw; (try dsimp only at hSw); go_simp) <;> with_reducible rfl
 try simp only [Act.put, qqA, qqB, qqC]
 refine tk 3 rfl (v := ?v3) ?y3 ?z3
 case y3 => (intro w hSw; (try dsimp only at hSw); go_simp) <;> with_reducible rfl
 try simp only [Act.put, qqA, qqB, qqC]
 refine wpAnyH_ready (rs := [0, 8, 9]) (by kernel_rfl) (by simp) ?_
 refine (ac rfl (fun K hK => ?_) (ac rfl (fun K hK => ?_) (ac rfl (fun K hK => ?_) AllReadyH.nil)))
 ·skip
  go_simp
  with_reducible refine (new_c u0).mono ?_
  rintro e w' ⟨rfl, rfl⟩
  have T1 := Tab.new u0 81
  have q := own1 u0 (.cells Tryz.zeroCells81 81)
  have O1 := Lib.hid (O0.out.trans (Off.of (fun _ => False) q) (fun b hb hx => hx.elim))
  have BB1 := Lib.hid ((RM0.out.below q).bus (Or.inl T1) (by have := RM0.out.ram.1; omega) (by have := RM0.out.mlt; omega))
  have LT := Lib.hid O0.out.size
  clear T1 q
  refine hK.out _ _ ?s4 (fun hNew => ?r4)
  case s4 => exact ⟨(HS.out.off O1.out NX.out).2.1, trivial⟩
  clear hK K hHeld
  have hHeld := hNew
  clear hNew
  generalize u0.alloc (.cells Tryz.zeroCells81 81) = u1 at hHeld O1 BB1 ⊢
  generalize u0.heap.size = tb at BB1 LT  ⊢
  refine wpAnyH_ready (rs := [4, 8, 9]) (by kernel_rfl) (by simp) ?_
  refine (ac rfl (fun K hK => ?_) (ac rfl (fun K hK => ?_) (ac rfl (fun K hK => ?_) AllReadyH.nil)))
  ·skip
   go_simp
   with_reducible refine (Step_t BB1.out (by omega) s OK.out).mono ?_
   rintro e u2 ⟨rfl, ok', v, b', m'⟩
   have hyA := Y1.out
   have hDA := YD.out
   rw [← hyA] at b' ⊢
   rw [← hDA]
   unfold St.cells didC
   clear ok' hyA hDA
   have LV := Lib.hid (show ∀ k, v.ownBlock = some k → wc.heap.size ≤ k from fun k hk => (m'.2 k hk).elim (fun e => by simp [Value.ownBlock] at e) (fun h => Nat.le_trans O1.out.size h))
   have O2 := Lib.hid (O1.out.trans m'.1 (fun k hk hx => hx.elim Or.inl (fun hx => hx.elim Or.inr (fun hx => hx.elim (fun e => absurd LT.out (by omega)) (fun e => by simp [Value.ownBlock] at e)))))
   have BB2 := Lib.hid b'
   clear b' m'
   refine hK.out _ _ ?s5 (fun hNew => ?r5)
   case s5 => exact ⟨(HS.out.off O2.out NX.out).2.1, trivial⟩
   clear hK K hHeld
   have hHeld := hNew
   clear hNew
   refine tk 5 rfl (v := ?v6) ?y6 ?z6
   case y6 => (intro w hSw; (try dsimp only at hSw); go_simp) <;> with_reducible rfl
   try simp only [Act.put, qqA, qqB, qqC]
   refine tk 6 rfl (v := ?v7) ?y7 ?z7
   case y7 => (intro w hSw; (try dsimp only at hSw); go_simp) <;> with_reducible rfl
   try simp only [Act.put, qqA, qqB, qqC]
   refine tk 7 rfl (v := ?v8) ?y8 ?z8
   case y8 => (intro w hSw; (try dsimp only at hSw); go_simp) <;> with_reducible rfl
   try simp only [Act.put, qqA, qqB, qqC]
   refine wpAnyH_ready (rs := [8, 9]) (by kernel_rfl) (by simp) ?_
   refine (ac rfl (fun K hK => ?_) (ac rfl (fun K hK => ?_) AllReadyH.nil))
   ·skip
    go_simp
    have q := own1 u2 (.cells #[.int .u8 0, .int .u8 0, .int .u8 0, .int .u8 0, .int .u8 0, .int .u8 0, .int .u8 0, .int .u8 0, .int .u16 0, .int .u16 0, .bool false, .bool false, .bool false, .bool false] 41)
    have O3 := Lib.hid (O2.out.trans (Off.of (fun _ => False) q) (fun b hb hx => hx.elim))
    have BB3 := Lib.hid (BB2.out.below q)
    have P3 := Lib.hid (Has.new u2 #[.int .u8 0, .int .u8 0, .int .u8 0, .int .u8 0, .int .u8 0, .int .u8 0, .int .u8 0, .int .u8 0, .int .u16 0, .int .u16 0, .bool false, .bool false, .bool false, .bool false] 41)
    have LP := Lib.hid O2.out.size
    have NP := Lib.hid (show ¬ BX R M tb v u2.heap.size from fun hx => by have := BB2.out.lt hx; omega)
    clear q
    refine hK.out _ _ ?s9 (fun hNew => ?r9)
    case s9 => exact ⟨(HS.out.off O3.out NX.out).2.1, trivial⟩
    clear hK K hHeld
    have hHeld := hNew
    clear hNew
    generalize u2.alloc (.cells #[.int .u8 0, .int .u8 0, .int .u8 0, .int .u8 0, .int .u8 0, .int .u8 0, .int .u8 0, .int .u8 0, .int .u16 0, .int .u16 0, .bool false, .bool false, .bool false, .bool false] 41) = u3 at hHeld O3 BB3 P3 ⊢
    generalize u2.heap.size = pb at P3 LP NP ⊢
    refine wpAnyH_ready (rs := [9]) (by kernel_rfl) (by simp) ?_
    refine (ac rfl (fun K hK => ?_) AllReadyH.nil)
    ·skip
     go_simp
     have q := own1 u3 (.cells #[.int .i64 0, .int .i64 0, .int .u16 0, .int .i64 0, .int .i64 0, .int .i64 0, .int .i64 0, .int .u16 0, .bool false] 46)
     have O4 := Lib.hid (O3.out.trans (Off.of (fun _ => False) q) (fun b hb hx => hx.elim))
     have BB4 := Lib.hid (BB3.out.below q)
     have P4 := Lib.hid (P3.out.below q)
     have D4 := Lib.hid (Has.new u3 #[.int .i64 0, .int .i64 0, .int .u16 0, .int .i64 0, .int .i64 0, .int .i64 0, .int .i64 0, .int .u16 0, .bool false] 46)
     have LD := Lib.hid O3.out.size
     have ND := Lib.hid (show ¬ BX R M tb v u3.heap.size from fun hx => by have := BB3.out.lt hx; omega)
     have DP := Lib.hid (show pb ≠ u3.heap.size by have := P3.out.1; omega)
     clear q
     refine hK.out _ _ ?s10 (fun hNew => ?r10)
     case s10 => exact ⟨(HS.out.off O4.out NX.out).2.1, trivial⟩
     clear hK K hHeld
     have hHeld := hNew
     clear hNew
     generalize u3.alloc (.cells #[.int .i64 0, .int .i64 0, .int .u16 0, .int .i64 0, .int .i64 0, .int .i64 0, .int .i64 0, .int .u16 0, .bool false] 46) = u4 at hHeld O4 BB4 P4 D4 ⊢
     generalize u3.heap.size = db at D4 LD ND DP ⊢
     refine wpAnyH_ready (rs := [10]) (by kernel_rfl) (by simp) ?_
     refine (ac rfl (fun K hK => ?_) AllReadyH.nil)
     ·skip
      have hcc := P4.out.2.1
      have hfz := P4.out.2.2
      go_simp
      clear hcc hfz
      have o1 := Off.put14 u4 pb y1.s
      have P5 := Lib.hid (Has.put14 (s0 := ⟨⟨0, 0, 0, 0, 0, 0, 0, 0, 0, 0⟩, false, false, false, false⟩) P4.out y1.s)
      have D5 := Lib.hid (D4.out.off o1 (fun e => DP.out e.symm))
      have BB5 := Lib.hid (BB4.out.keep o1 (fun k hk e => NP.out (by rw [← show k = pb from e]; exact hk)))
      have O5 := Lib.hid (O4.out.trans o1 (fun b hb e => absurd LP.out (by have e' : b = pb := e; omega)))
      clear o1
      refine hK.out _ _ ?s11 (fun hNew => ?r11)
      case s11 => exact ⟨(HS.out.off O5.out NX.out).2.1, trivial⟩
      clear hK K hHeld
      have hHeld := hNew
      clear hNew
      generalize (World.setCell (World.setCell (World.setCell (World.setCell (World.setCell (World.setCell (World.setCell (World.setCell (World.setCell (World.setCell (World.setCell (World.setCell (World.setCell (World.setCell u4 ⟨pb, 0, none⟩ (.int .u8 y1.s.r.a)) ⟨pb, 1, none⟩ (.int .u8 y1.s.r.f)) ⟨pb, 2, none⟩ (.int .u8 y1.s.r.b)) ⟨pb, 3, none⟩ (.int .u8 y1.s.r.c)) ⟨pb, 4, none⟩ (.int .u8 y1.s.r.d)) ⟨pb, 5, none⟩ (.int .u8 y1.s.r.e)) ⟨pb, 6, none⟩ (.int .u8 y1.s.r.h)) ⟨pb, 7, none⟩ (.int .u8 y1.s.r.l)) ⟨pb, 8, none⟩ (.int .u16 y1.s.r.sp)) ⟨pb, 9, none⟩ (.int .u16 y1.s.r.pc)) ⟨pb, 10, none⟩ (.bool y1.s.ime)) ⟨pb, 11, none⟩ (.bool y1.s.soon)) ⟨pb, 12, none⟩ (.bool y1.s.halt)) ⟨pb, 13, none⟩ (.bool y1.s.stop)) = u5 at hHeld P5 D5 BB5 O5 ⊢
      refine wpAnyH_ready (rs := [11]) (by kernel_rfl) (by simp) ?_
      refine (ac rfl (fun K hK => ?_) AllReadyH.nil)
      ·skip
       have hcc := D5.out.2.1
       have hfz := D5.out.2.2
       go_simp
       clear hcc hfz
       have o1 := Off.put9 u5 db DV
       have D6 := Lib.hid (D5.out.put9 DV)
       have P6 := Lib.hid (P5.out.off o1 (fun e => DP.out e))
       have BB6 := Lib.hid (BB5.out.keep o1 (fun k hk e => ND.out (by rw [← show k = db from e]; exact hk)))
       have O6 := Lib.hid (O5.out.trans o1 (fun b hb e => absurd LD.out (by have e' : b = db := e; omega)))
       clear o1
       refine hK.out _ _ ?s12 (fun hNew => ?r12)
       case s12 => exact ⟨(HS.out.off O6.out NX.out).2.1, trivial⟩
       clear hK K hHeld
       have hHeld := hNew
       clear hNew
       generalize (World.setCell (World.setCell (World.setCell (World.setCell (World.setCell (World.setCell (World.setCell (World.setCell (World.setCell u5 ⟨db, 0, none⟩ (.int .i64 DV.what)) ⟨db, 1, none⟩ (.int .i64 DV.n)) ⟨db, 2, none⟩ (.int .u16 DV.at')) ⟨db, 3, none⟩ (.int .i64 DV.o.k)) ⟨db, 4, none⟩ (.int .i64 DV.o.x)) ⟨db, 5, none⟩ (.int .i64 DV.o.y)) ⟨db, 6, none⟩ (.int .i64 DV.o.s)) ⟨db, 7, none⟩ (.int .u16 DV.o.n)) ⟨db, 8, none⟩ (.bool DV.t)) = u6 at hHeld P6 D6 BB6 O6 ⊢
       refine wpAnyH_done (by kernel_rfl) ?_ _
       clear hHeld
       exact HQ.out tb v pb db _ _ _ _ _ _ _ _ _ ⟨O6.out, BB6.out, P6.out, D6.out, LP.out, LD.out, DP.out, LT.out, LV.out⟩
   ·skip
    go_simp
    have q := own1 u2 (.cells #[.int .i64 0, .int .i64 0, .int .u16 0, .int .i64 0, .int .i64 0, .int .i64 0, .int .i64 0, .int .u16 0, .bool false] 46)
    have O3 := Lib.hid (O2.out.trans (Off.of (fun _ => False) q) (fun b hb hx => hx.elim))
    have BB3 := Lib.hid (BB2.out.below q)
    have D3 := Lib.hid (Has.new u2 #[.int .i64 0, .int .i64 0, .int .u16 0, .int .i64 0, .int .i64 0, .int .i64 0, .int .i64 0, .int .u16 0, .bool false] 46)
    have LD := Lib.hid O2.out.size
    have ND := Lib.hid (show ¬ BX R M tb v u2.heap.size from fun hx => by have := BB2.out.lt hx; omega)
    clear q
    refine hK.out _ _ ?s13 (fun hNew => ?r13)
    case s13 => exact ⟨(HS.out.off O3.out NX.out).2.1, trivial⟩
    clear hK K hHeld
    have hHeld := hNew
    clear hNew
    generalize u2.alloc (.cells #[.int .i64 0, .int .i64 0, .int .u16 0, .int .i64 0, .int .i64 0, .int .i64 0, .int .i64 0, .int .u16 0, .bool false] 46) = u3 at hHeld O3 BB3 D3 ⊢
    generalize u2.heap.size = db at D3 LD ND ⊢
    refine wpAnyH_ready (rs := [8]) (by kernel_rfl) (by simp) ?_
    refine (ac rfl (fun K hK => ?_) AllReadyH.nil)
    ·skip
     go_simp
     have q := own1 u3 (.cells #[.int .u8 0, .int .u8 0, .int .u8 0, .int .u8 0, .int .u8 0, .int .u8 0, .int .u8 0, .int .u8 0, .int .u16 0, .int .u16 0, .bool false, .bool false, .bool false, .bool false] 41)
     have O4 := Lib.hid (O3.out.trans (Off.of (fun _ => False) q) (fun b hb hx => hx.elim))
     have BB4 := Lib.hid (BB3.out.below q)
     have D4 := Lib.hid (D3.out.below q)
     have P4 := Lib.hid (Has.new u3 #[.int .u8 0, .int .u8 0, .int .u8 0, .int .u8 0, .int .u8 0, .int .u8 0, .int .u8 0, .int .u8 0, .int .u16 0, .int .u16 0, .bool false, .bool false, .bool false, .bool false] 41)
     have LP := Lib.hid O3.out.size
     have NP := Lib.hid (show ¬ BX R M tb v u3.heap.size from fun hx => by have := BB3.out.lt hx; omega)
     have DP := Lib.hid (show db ≠ u3.heap.size by have := D3.out.1; omega)
     clear q
     refine hK.out _ _ ?s14 (fun hNew => ?r14)
     case s14 => exact ⟨(HS.out.off O4.out NX.out).2.1, trivial⟩
     clear hK K hHeld
     have hHeld := hNew
     clear hNew
     generalize u3.alloc (.cells #[.int .u8 0, .int .u8 0, .int .u8 0, .int .u8 0, .int .u8 0, .int .u8 0, .int .u8 0, .int .u8 0, .int .u16 0, .int .u16 0, .bool false, .bool false, .bool false, .bool false] 41) = u4 at hHeld O4 BB4 D4 P4 ⊢
     generalize u3.heap.size = pb at P4 LP NP DP ⊢
     refine wpAnyH_ready (rs := [10]) (by kernel_rfl) (by simp) ?_
     refine (ac rfl (fun K hK => ?_) AllReadyH.nil)
     ·skip
      have hcc := P4.out.2.1
      have hfz := P4.out.2.2
      go_simp
      clear hcc hfz
      have o1 := Off.put14 u4 pb y1.s
      have P5 := Lib.hid (Has.put14 (s0 := ⟨⟨0, 0, 0, 0, 0, 0, 0, 0, 0, 0⟩, false, false, false, false⟩) P4.out y1.s)
      have D5 := Lib.hid (D4.out.off o1 (fun e => DP.out e))
      have BB5 := Lib.hid (BB4.out.keep o1 (fun k hk e => NP.out (by rw [← show k = pb from e]; exact hk)))
      have O5 := Lib.hid (O4.out.trans o1 (fun b hb e => absurd LP.out (by have e' : b = pb := e; omega)))
      clear o1
      refine hK.out _ _ ?s15 (fun hNew => ?r15)
      case s15 => exact ⟨(HS.out.off O5.out NX.out).2.1, trivial⟩
      clear hK K hHeld
      have hHeld := hNew
      clear hNew
      generalize (World.setCell (World.setCell (World.setCell (World.setCell (World.setCell (World.setCell (World.setCell (World.setCell (World.setCell (World.setCell (World.setCell (World.setCell (World.setCell (World.setCell u4 ⟨pb, 0, none⟩ (.int .u8 y1.s.r.a)) ⟨pb, 1, none⟩ (.int .u8 y1.s.r.f)) ⟨pb, 2, none⟩ (.int .u8 y1.s.r.b)) ⟨pb, 3, none⟩ (.int .u8 y1.s.r.c)) ⟨pb, 4, none⟩ (.int .u8 y1.s.r.d)) ⟨pb, 5, none⟩ (.int .u8 y1.s.r.e)) ⟨pb, 6, none⟩ (.int .u8 y1.s.r.h)) ⟨pb, 7, none⟩ (.int .u8 y1.s.r.l)) ⟨pb, 8, none⟩ (.int .u16 y1.s.r.sp)) ⟨pb, 9, none⟩ (.int .u16 y1.s.r.pc)) ⟨pb, 10, none⟩ (.bool y1.s.ime)) ⟨pb, 11, none⟩ (.bool y1.s.soon)) ⟨pb, 12, none⟩ (.bool y1.s.halt)) ⟨pb, 13, none⟩ (.bool y1.s.stop)) = u5 at hHeld P5 D5 BB5 O5 ⊢
      refine wpAnyH_ready (rs := [11]) (by kernel_rfl) (by simp) ?_
      refine (ac rfl (fun K hK => ?_) AllReadyH.nil)
      ·skip
       have hcc := D5.out.2.1
       have hfz := D5.out.2.2
       go_simp
       clear hcc hfz
       have o1 := Off.put9 u5 db DV
       have D6 := Lib.hid (D5.out.put9 DV)
       have P6 := Lib.hid (P5.out.off o1 (fun e => DP.out e.symm))
       have BB6 := Lib.hid (BB5.out.keep o1 (fun k hk e => ND.out (by rw [← show k = db from e]; exact hk)))
       have O6 := Lib.hid (O5.out.trans o1 (fun b hb e => absurd LD.out (by have e' : b = db := e; omega)))
       clear o1
       refine hK.out _ _ ?s16 (fun hNew => ?r16)
       case s16 => exact ⟨(HS.out.off O6.out NX.out).2.1, trivial⟩
       clear hK K hHeld
       have hHeld := hNew
       clear hNew
       generalize (World.setCell (World.setCell (World.setCell (World.setCell (World.setCell (World.setCell (World.setCell (World.setCell (World.setCell u5 ⟨db, 0, none⟩ (.int .i64 DV.what)) ⟨db, 1, none⟩ (.int .i64 DV.n)) ⟨db, 2, none⟩ (.int .u16 DV.at')) ⟨db, 3, none⟩ (.int .i64 DV.o.k)) ⟨db, 4, none⟩ (.int .i64 DV.o.x)) ⟨db, 5, none⟩ (.int .i64 DV.o.y)) ⟨db, 6, none⟩ (.int .i64 DV.o.s)) ⟨db, 7, none⟩ (.int .u16 DV.o.n)) ⟨db, 8, none⟩ (.bool DV.t)) = u6 at hHeld P6 D6 BB6 O6 ⊢
       refine wpAnyH_done (by kernel_rfl) ?_ _
       clear hHeld
       exact HQ.out tb v pb db _ _ _ _ _ _ _ _ _ ⟨O6.out, BB6.out, P6.out, D6.out, LP.out, LD.out, DP.out.symm, LT.out, LV.out⟩
  ·skip
   go_simp
   have q := own1 u1 (.cells #[.int .u8 0, .int .u8 0, .int .u8 0, .int .u8 0, .int .u8 0, .int .u8 0, .int .u8 0, .int .u8 0, .int .u16 0, .int .u16 0, .bool false, .bool false, .bool false, .bool false] 41)
   have O2 := Lib.hid (O1.out.trans (Off.of (fun _ => False) q) (fun b hb hx => hx.elim))
   have BB2 := Lib.hid (BB1.out.below q)
   have P2 := Lib.hid (Has.new u1 #[.int .u8 0, .int .u8 0, .int .u8 0, .int .u8 0, .int .u8 0, .int .u8 0, .int .u8 0, .int .u8 0, .int .u16 0, .int .u16 0, .bool false, .bool false, .bool false, .bool false] 41)
   have LP := Lib.hid O1.out.size
   have NP := Lib.hid (show ¬ BX R M tb (.slice none 0 0) u1.heap.size from fun hx => by have := BB1.out.lt hx; omega)
   clear q
   refine hK.out _ _ ?s17 (fun hNew => ?r17)
   case s17 => exact ⟨(HS.out.off O2.out NX.out).2.1, trivial⟩
   clear hK K hHeld
   have hHeld := hNew
   clear hNew
   generalize u1.alloc (.cells #[.int .u8 0, .int .u8 0, .int .u8 0, .int .u8 0, .int .u8 0, .int .u8 0, .int .u8 0, .int .u8 0, .int .u16 0, .int .u16 0, .bool false, .bool false, .bool false, .bool false] 41) = u2 at hHeld O2 BB2 P2 ⊢
   generalize u1.heap.size = pb at P2 LP NP ⊢
   refine wpAnyH_ready (rs := [4, 9]) (by kernel_rfl) (by simp) ?_
   refine (ac rfl (fun K hK => ?_) (ac rfl (fun K hK => ?_) AllReadyH.nil))
   ·skip
    go_simp
    with_reducible refine (Step_t BB2.out (by omega) s OK.out).mono ?_
    rintro e u3 ⟨rfl, ok', v, b', m'⟩
    have hyA := Y1.out
    have hDA := YD.out
    rw [← hyA] at b' ⊢
    rw [← hDA]
    unfold St.cells didC
    clear ok' hyA hDA
    have LV := Lib.hid (show ∀ k, v.ownBlock = some k → wc.heap.size ≤ k from fun k hk => (m'.2 k hk).elim (fun e => by simp [Value.ownBlock] at e) (fun h => Nat.le_trans O2.out.size h))
    have O3 := Lib.hid (O2.out.trans m'.1 (fun k hk hx => hx.elim Or.inl (fun hx => hx.elim Or.inr (fun hx => hx.elim (fun e => absurd LT.out (by omega)) (fun e => by simp [Value.ownBlock] at e)))))
    have P3 := Lib.hid (P2.out.off m'.1 NP.out)
    have NP' := Lib.hid (m'.far P2.out.1 NP.out)
    clear NP
    have NP := NP'
    clear NP'
    have BB3 := Lib.hid b'
    clear b' m'
    refine hK.out _ _ ?s18 (fun hNew => ?r18)
    case s18 => exact ⟨(HS.out.off O3.out NX.out).2.1, trivial⟩
    clear hK K hHeld
    have hHeld := hNew
    clear hNew
    refine tk 5 rfl (v := ?v19) ?y19 ?z19
    case y19 => (intro w hSw; (try dsimp only at hSw); go_simp) <;> with_reducible rfl
    try simp only [Act.put, qqA, qqB, qqC]
    refine tk 6 rfl (v := ?v20) ?y20 ?z20
    case y20 => (intro w hSw; (try dsimp only at hSw); go_simp) <;> with_reducible rfl
    try simp only [Act.put, qqA, qqB, qqC]
    refine tk 7 rfl (v := ?v21) ?y21 ?z21
    case y21 => (intro w hSw; (try dsimp only at hSw); go_simp) <;> with_reducible rfl
    try simp only [Act.put, qqA, qqB, qqC]
    refine wpAnyH_ready (rs := [9]) (by kernel_rfl) (by simp) ?_
    refine (ac rfl (fun K hK => ?_) AllReadyH.nil)
    ·skip
     go_simp
     have q := own1 u3 (.cells #[.int .i64 0, .int .i64 0, .int .u16 0, .int .i64 0, .int .i64 0, .int .i64 0, .int .i64 0, .int .u16 0, .bool false] 46)
     have O4 := Lib.hid (O3.out.trans (Off.of (fun _ => False) q) (fun b hb hx => hx.elim))
     have BB4 := Lib.hid (BB3.out.below q)
     have P4 := Lib.hid (P3.out.below q)
     have D4 := Lib.hid (Has.new u3 #[.int .i64 0, .int .i64 0, .int .u16 0, .int .i64 0, .int .i64 0, .int .i64 0, .int .i64 0, .int .u16 0, .bool false] 46)
     have LD := Lib.hid O3.out.size
     have ND := Lib.hid (show ¬ BX R M tb v u3.heap.size from fun hx => by have := BB3.out.lt hx; omega)
     have DP := Lib.hid (show pb ≠ u3.heap.size by have := P3.out.1; omega)
     clear q
     refine hK.out _ _ ?s22 (fun hNew => ?r22)
     case s22 => exact ⟨(HS.out.off O4.out NX.out).2.1, trivial⟩
     clear hK K hHeld
     have hHeld := hNew
     clear hNew
     generalize u3.alloc (.cells #[.int .i64 0, .int .i64 0, .int .u16 0, .int .i64 0, .int .i64 0, .int .i64 0, .int .i64 0, .int .u16 0, .bool false] 46) = u4 at hHeld O4 BB4 P4 D4 ⊢
     generalize u3.heap.size = db at D4 LD ND DP ⊢
     refine wpAnyH_ready (rs := [10]) (by kernel_rfl) (by simp) ?_
     refine (ac rfl (fun K hK => ?_) AllReadyH.nil)
     ·skip
      have hcc := P4.out.2.1
      have hfz := P4.out.2.2
      go_simp
      clear hcc hfz
      have o1 := Off.put14 u4 pb y1.s
      have P5 := Lib.hid (Has.put14 (s0 := ⟨⟨0, 0, 0, 0, 0, 0, 0, 0, 0, 0⟩, false, false, false, false⟩) P4.out y1.s)
      have D5 := Lib.hid (D4.out.off o1 (fun e => DP.out e.symm))
      have BB5 := Lib.hid (BB4.out.keep o1 (fun k hk e => NP.out (by rw [← show k = pb from e]; exact hk)))
      have O5 := Lib.hid (O4.out.trans o1 (fun b hb e => absurd LP.out (by have e' : b = pb := e; omega)))
      clear o1
      refine hK.out _ _ ?s23 (fun hNew => ?r23)
      case s23 => exact ⟨(HS.out.off O5.out NX.out).2.1, trivial⟩
      clear hK K hHeld
      have hHeld := hNew
      clear hNew
      generalize (World.setCell (World.setCell (World.setCell (World.setCell (World.setCell (World.setCell (World.setCell (World.setCell (World.setCell (World.setCell (World.setCell (World.setCell (World.setCell (World.setCell u4 ⟨pb, 0, none⟩ (.int .u8 y1.s.r.a)) ⟨pb, 1, none⟩ (.int .u8 y1.s.r.f)) ⟨pb, 2, none⟩ (.int .u8 y1.s.r.b)) ⟨pb, 3, none⟩ (.int .u8 y1.s.r.c)) ⟨pb, 4, none⟩ (.int .u8 y1.s.r.d)) ⟨pb, 5, none⟩ (.int .u8 y1.s.r.e)) ⟨pb, 6, none⟩ (.int .u8 y1.s.r.h)) ⟨pb, 7, none⟩ (.int .u8 y1.s.r.l)) ⟨pb, 8, none⟩ (.int .u16 y1.s.r.sp)) ⟨pb, 9, none⟩ (.int .u16 y1.s.r.pc)) ⟨pb, 10, none⟩ (.bool y1.s.ime)) ⟨pb, 11, none⟩ (.bool y1.s.soon)) ⟨pb, 12, none⟩ (.bool y1.s.halt)) ⟨pb, 13, none⟩ (.bool y1.s.stop)) = u5 at hHeld P5 D5 BB5 O5 ⊢
      refine wpAnyH_ready (rs := [11]) (by kernel_rfl) (by simp) ?_
      refine (ac rfl (fun K hK => ?_) AllReadyH.nil)
      ·skip
       have hcc := D5.out.2.1
       have hfz := D5.out.2.2
       go_simp
       clear hcc hfz
       have o1 := Off.put9 u5 db DV
       have D6 := Lib.hid (D5.out.put9 DV)
       have P6 := Lib.hid (P5.out.off o1 (fun e => DP.out e))
       have BB6 := Lib.hid (BB5.out.keep o1 (fun k hk e => ND.out (by rw [← show k = db from e]; exact hk)))
       have O6 := Lib.hid (O5.out.trans o1 (fun b hb e => absurd LD.out (by have e' : b = db := e; omega)))
       clear o1
       refine hK.out _ _ ?s24 (fun hNew => ?r24)
       case s24 => exact ⟨(HS.out.off O6.out NX.out).2.1, trivial⟩
       clear hK K hHeld
       have hHeld := hNew
       clear hNew
       generalize (World.setCell (World.setCell (World.setCell (World.setCell (World.setCell (World.setCell (World.setCell (World.setCell (World.setCell u5 ⟨db, 0, none⟩ (.int .i64 DV.what)) ⟨db, 1, none⟩ (.int .i64 DV.n)) ⟨db, 2, none⟩ (.int .u16 DV.at')) ⟨db, 3, none⟩ (.int .i64 DV.o.k)) ⟨db, 4, none⟩ (.int .i64 DV.o.x)) ⟨db, 5, none⟩ (.int .i64 DV.o.y)) ⟨db, 6, none⟩ (.int .i64 DV.o.s)) ⟨db, 7, none⟩ (.int .u16 DV.o.n)) ⟨db, 8, none⟩ (.bool DV.t)) = u6 at hHeld P6 D6 BB6 O6 ⊢
       refine wpAnyH_done (by kernel_rfl) ?_ _
       clear hHeld
       exact HQ.out tb v pb db _ _ _ _ _ _ _ _ _ ⟨O6.out, BB6.out, P6.out, D6.out, LP.out, LD.out, DP.out, LT.out, LV.out⟩
   ·skip
    go_simp
    have q := own1 u2 (.cells #[.int .i64 0, .int .i64 0, .int .u16 0, .int .i64 0, .int .i64 0, .int .i64 0, .int .i64 0, .int .u16 0, .bool false] 46)
    have O3 := Lib.hid (O2.out.trans (Off.of (fun _ => False) q) (fun b hb hx => hx.elim))
    have BB3 := Lib.hid (BB2.out.below q)
    have P3 := Lib.hid (P2.out.below q)
    have D3 := Lib.hid (Has.new u2 #[.int .i64 0, .int .i64 0, .int .u16 0, .int .i64 0, .int .i64 0, .int .i64 0, .int .i64 0, .int .u16 0, .bool false] 46)
    have LD := Lib.hid O2.out.size
    have ND := Lib.hid (show ¬ BX R M tb (.slice none 0 0) u2.heap.size from fun hx => by have := BB2.out.lt hx; omega)
    have DP := Lib.hid (show pb ≠ u2.heap.size by have := P2.out.1; omega)
    clear q
    refine hK.out _ _ ?s25 (fun hNew => ?r25)
    case s25 => exact ⟨(HS.out.off O3.out NX.out).2.1, trivial⟩
    clear hK K hHeld
    have hHeld := hNew
    clear hNew
    generalize u2.alloc (.cells #[.int .i64 0, .int .i64 0, .int .u16 0, .int .i64 0, .int .i64 0, .int .i64 0, .int .i64 0, .int .u16 0, .bool false] 46) = u3 at hHeld O3 BB3 P3 D3 ⊢
    generalize u2.heap.size = db at D3 LD ND DP ⊢
    refine wpAnyH_ready (rs := [4]) (by kernel_rfl) (by simp) ?_
    refine (ac rfl (fun K hK => ?_) AllReadyH.nil)
    ·skip
     go_simp
     with_reducible refine (Step_t BB3.out (by omega) s OK.out).mono ?_
     rintro e u4 ⟨rfl, ok', v, b', m'⟩
     have hyA := Y1.out
     have hDA := YD.out
     rw [← hyA] at b' ⊢
     rw [← hDA]
     unfold St.cells didC
     clear ok' hyA hDA
     have LV := Lib.hid (show ∀ k, v.ownBlock = some k → wc.heap.size ≤ k from fun k hk => (m'.2 k hk).elim (fun e => by simp [Value.ownBlock] at e) (fun h => Nat.le_trans O3.out.size h))
     have O4 := Lib.hid (O3.out.trans m'.1 (fun k hk hx => hx.elim Or.inl (fun hx => hx.elim Or.inr (fun hx => hx.elim (fun e => absurd LT.out (by omega)) (fun e => by simp [Value.ownBlock] at e)))))
     have P4 := Lib.hid (P3.out.off m'.1 NP.out)
     have NP' := Lib.hid (m'.far P3.out.1 NP.out)
     clear NP
     have NP := NP'
     clear NP'
     have D4 := Lib.hid (D3.out.off m'.1 ND.out)
     have ND' := Lib.hid (m'.far D3.out.1 ND.out)
     clear ND
     have ND := ND'
     clear ND'
     have BB4 := Lib.hid b'
     clear b' m'
     refine hK.out _ _ ?s26 (fun hNew => ?r26)
     case s26 => exact ⟨(HS.out.off O4.out NX.out).2.1, trivial⟩
     clear hK K hHeld
     have hHeld := hNew
     clear hNew
     refine tk 5 rfl (v := ?v27) ?y27 ?z27
     case y27 => (intro w hSw; (try dsimp only at hSw); go_simp) <;> with_reducible rfl
     try simp only [Act.put, qqA, qqB, qqC]
     refine tk 6 rfl (v := ?v28) ?y28 ?z28
     case y28 => (intro w hSw; (try dsimp only at hSw); go_simp) <;> with_reducible rfl
     try simp only [Act.put, qqA, qqB, qqC]
     refine tk 7 rfl (v := ?v29) ?y29 ?z29
     case y29 => (intro w hSw; (try dsimp only at hSw); go_simp) <;> with_reducible rfl
     try simp only [Act.put, qqA, qqB, qqC]
     refine wpAnyH_ready (rs := [10]) (by kernel_rfl) (by simp) ?_
     refine (ac rfl (fun K hK => ?_) AllReadyH.nil)
     ·skip
      have hcc := P4.out.2.1
      have hfz := P4.out.2.2
      go_simp
      clear hcc hfz
      have o1 := Off.put14 u4 pb y1.s
      have P5 := Lib.hid (Has.put14 (s0 := ⟨⟨0, 0, 0, 0, 0, 0, 0, 0, 0, 0⟩, false, false, false, false⟩) P4.out y1.s)
      have D5 := Lib.hid (D4.out.off o1 (fun e => DP.out e.symm))
      have BB5 := Lib.hid (BB4.out.keep o1 (fun k hk e => NP.out (by rw [← show k = pb from e]; exact hk)))
      have O5 := Lib.hid (O4.out.trans o1 (fun b hb e => absurd LP.out (by have e' : b = pb := e; omega)))
      clear o1
      refine hK.out _ _ ?s30 (fun hNew => ?r30)
      case s30 => exact ⟨(HS.out.off O5.out NX.out).2.1, trivial⟩
      clear hK K hHeld
      have hHeld := hNew
      clear hNew
      generalize (World.setCell (World.setCell (World.setCell (World.setCell (World.setCell (World.setCell (World.setCell (World.setCell (World.setCell (World.setCell (World.setCell (World.setCell (World.setCell (World.setCell u4 ⟨pb, 0, none⟩ (.int .u8 y1.s.r.a)) ⟨pb, 1, none⟩ (.int .u8 y1.s.r.f)) ⟨pb, 2, none⟩ (.int .u8 y1.s.r.b)) ⟨pb, 3, none⟩ (.int .u8 y1.s.r.c)) ⟨pb, 4, none⟩ (.int .u8 y1.s.r.d)) ⟨pb, 5, none⟩ (.int .u8 y1.s.r.e)) ⟨pb, 6, none⟩ (.int .u8 y1.s.r.h)) ⟨pb, 7, none⟩ (.int .u8 y1.s.r.l)) ⟨pb, 8, none⟩ (.int .u16 y1.s.r.sp)) ⟨pb, 9, none⟩ (.int .u16 y1.s.r.pc)) ⟨pb, 10, none⟩ (.bool y1.s.ime)) ⟨pb, 11, none⟩ (.bool y1.s.soon)) ⟨pb, 12, none⟩ (.bool y1.s.halt)) ⟨pb, 13, none⟩ (.bool y1.s.stop)) = u5 at hHeld P5 D5 BB5 O5 ⊢
      refine wpAnyH_ready (rs := [11]) (by kernel_rfl) (by simp) ?_
      refine (ac rfl (fun K hK => ?_) AllReadyH.nil)
      ·skip
       have hcc := D5.out.2.1
       have hfz := D5.out.2.2
       go_simp
       clear hcc hfz
       have o1 := Off.put9 u5 db DV
       have D6 := Lib.hid (D5.out.put9 DV)
       have P6 := Lib.hid (P5.out.off o1 (fun e => DP.out e))
       have BB6 := Lib.hid (BB5.out.keep o1 (fun k hk e => ND.out (by rw [← show k = db from e]; exact hk)))
       have O6 := Lib.hid (O5.out.trans o1 (fun b hb e => absurd LD.out (by have e' : b = db := e; omega)))
       clear o1
       refine hK.out _ _ ?s31 (fun hNew => ?r31)
       case s31 => exact ⟨(HS.out.off O6.out NX.out).2.1, trivial⟩
       clear hK K hHeld
       have hHeld := hNew
       clear hNew
       generalize (World.setCell (World.setCell (World.setCell (World.setCell (World.setCell (World.setCell (World.setCell (World.setCell (World.setCell u5 ⟨db, 0, none⟩ (.int .i64 DV.what)) ⟨db, 1, none⟩ (.int .i64 DV.n)) ⟨db, 2, none⟩ (.int .u16 DV.at')) ⟨db, 3, none⟩ (.int .i64 DV.o.k)) ⟨db, 4, none⟩ (.int .i64 DV.o.x)) ⟨db, 5, none⟩ (.int .i64 DV.o.y)) ⟨db, 6, none⟩ (.int .i64 DV.o.s)) ⟨db, 7, none⟩ (.int .u16 DV.o.n)) ⟨db, 8, none⟩ (.bool DV.t)) = u6 at hHeld P6 D6 BB6 O6 ⊢
       refine wpAnyH_done (by kernel_rfl) ?_ _
       clear hHeld
       exact HQ.out tb v pb db _ _ _ _ _ _ _ _ _ ⟨O6.out, BB6.out, P6.out, D6.out, LP.out, LD.out, DP.out, LT.out, LV.out⟩
  ·skip
   go_simp
   have q := own1 u1 (.cells #[.int .i64 0, .int .i64 0, .int .u16 0, .int .i64 0, .int .i64 0, .int .i64 0, .int .i64 0, .int .u16 0, .bool false] 46)
   have O2 := Lib.hid (O1.out.trans (Off.of (fun _ => False) q) (fun b hb hx => hx.elim))
   have BB2 := Lib.hid (BB1.out.below q)
   have D2 := Lib.hid (Has.new u1 #[.int .i64 0, .int .i64 0, .int .u16 0, .int .i64 0, .int .i64 0, .int .i64 0, .int .i64 0, .int .u16 0, .bool false] 46)
   have LD := Lib.hid O1.out.size
   have ND := Lib.hid (show ¬ BX R M tb (.slice none 0 0) u1.heap.size from fun hx => by have := BB1.out.lt hx; omega)
   clear q
   refine hK.out _ _ ?s32 (fun hNew => ?r32)
   case s32 => exact ⟨(HS.out.off O2.out NX.out).2.1, trivial⟩
   clear hK K hHeld
   have hHeld := hNew
   clear hNew
   generalize u1.alloc (.cells #[.int .i64 0, .int .i64 0, .int .u16 0, .int .i64 0, .int .i64 0, .int .i64 0, .int .i64 0, .int .u16 0, .bool false] 46) = u2 at hHeld O2 BB2 D2 ⊢
   generalize u1.heap.size = db at D2 LD ND ⊢
   refine wpAnyH_ready (rs := [4, 8]) (by kernel_rfl) (by simp) ?_
   refine (ac rfl (fun K hK => ?_) (ac rfl (fun K hK => ?_) AllReadyH.nil))
   ·skip
    go_simp
    with_reducible refine (Step_t BB2.out (by omega) s OK.out).mono ?_
    rintro e u3 ⟨rfl, ok', v, b', m'⟩
    have hyA := Y1.out
    have hDA := YD.out
    rw [← hyA] at b' ⊢
    rw [← hDA]
    unfold St.cells didC
    clear ok' hyA hDA
    have LV := Lib.hid (show ∀ k, v.ownBlock = some k → wc.heap.size ≤ k from fun k hk => (m'.2 k hk).elim (fun e => by simp [Value.ownBlock] at e) (fun h => Nat.le_trans O2.out.size h))
    have O3 := Lib.hid (O2.out.trans m'.1 (fun k hk hx => hx.elim Or.inl (fun hx => hx.elim Or.inr (fun hx => hx.elim (fun e => absurd LT.out (by omega)) (fun e => by simp [Value.ownBlock] at e)))))
    have D3 := Lib.hid (D2.out.off m'.1 ND.out)
    have ND' := Lib.hid (m'.far D2.out.1 ND.out)
    clear ND
    have ND := ND'
    clear ND'
    have BB3 := Lib.hid b'
    clear b' m'
    refine hK.out _ _ ?s33 (fun hNew => ?r33)
    case s33 => exact ⟨(HS.out.off O3.out NX.out).2.1, trivial⟩
    clear hK K hHeld
    have hHeld := hNew
    clear hNew
    refine tk 5 rfl (v := ?v34) ?y34 ?z34
    case y34 => (intro w hSw; (try dsimp only at hSw); go_simp) <;> with_reducible rfl
    try simp only [Act.put, qqA, qqB, qqC]
    refine tk 6 rfl (v := ?v35) ?y35 ?z35
    case y35 => (intro w hSw; (try dsimp only at hSw); go_simp) <;> with_reducible rfl
    try simp only [Act.put, qqA, qqB, qqC]
    refine tk 7 rfl (v := ?v36) ?y36 ?z36
    case y36 => (intro w hSw; (try dsimp only at hSw); go_simp) <;> with_reducible rfl
    try simp only [Act.put, qqA, qqB, qqC]
    refine wpAnyH_ready (rs := [8]) (by kernel_rfl) (by simp) ?_
    refine (ac rfl (fun K hK => ?_) AllReadyH.nil)
    ·skip
     go_simp
     have q := own1 u3 (.cells #[.int .u8 0, .int .u8 0, .int .u8 0, .int .u8 0, .int .u8 0, .int .u8 0, .int .u8 0, .int .u8 0, .int .u16 0, .int .u16 0, .bool false, .bool false, .bool false, .bool false] 41)
     have O4 := Lib.hid (O3.out.trans (Off.of (fun _ => False) q) (fun b hb hx => hx.elim))
     have BB4 := Lib.hid (BB3.out.below q)
     have D4 := Lib.hid (D3.out.below q)
     have P4 := Lib.hid (Has.new u3 #[.int .u8 0, .int .u8 0, .int .u8 0, .int .u8 0, .int .u8 0, .int .u8 0, .int .u8 0, .int .u8 0, .int .u16 0, .int .u16 0, .bool false, .bool false, .bool false, .bool false] 41)
     have LP := Lib.hid O3.out.size
     have NP := Lib.hid (show ¬ BX R M tb v u3.heap.size from fun hx => by have := BB3.out.lt hx; omega)
     have DP := Lib.hid (show db ≠ u3.heap.size by have := D3.out.1; omega)
     clear q
     refine hK.out _ _ ?s37 (fun hNew => ?r37)
     case s37 => exact ⟨(HS.out.off O4.out NX.out).2.1, trivial⟩
     clear hK K hHeld
     have hHeld := hNew
     clear hNew
     generalize u3.alloc (.cells #[.int .u8 0, .int .u8 0, .int .u8 0, .int .u8 0, .int .u8 0, .int .u8 0, .int .u8 0, .int .u8 0, .int .u16 0, .int .u16 0, .bool false, .bool false, .bool false, .bool false] 41) = u4 at hHeld O4 BB4 D4 P4 ⊢
     generalize u3.heap.size = pb at P4 LP NP DP ⊢
     refine wpAnyH_ready (rs := [10]) (by kernel_rfl) (by simp) ?_
     refine (ac rfl (fun K hK => ?_) AllReadyH.nil)
     ·skip
      have hcc := P4.out.2.1
      have hfz := P4.out.2.2
      go_simp
      clear hcc hfz
      have o1 := Off.put14 u4 pb y1.s
      have P5 := Lib.hid (Has.put14 (s0 := ⟨⟨0, 0, 0, 0, 0, 0, 0, 0, 0, 0⟩, false, false, false, false⟩) P4.out y1.s)
      have D5 := Lib.hid (D4.out.off o1 (fun e => DP.out e))
      have BB5 := Lib.hid (BB4.out.keep o1 (fun k hk e => NP.out (by rw [← show k = pb from e]; exact hk)))
      have O5 := Lib.hid (O4.out.trans o1 (fun b hb e => absurd LP.out (by have e' : b = pb := e; omega)))
      clear o1
      refine hK.out _ _ ?s38 (fun hNew => ?r38)
      case s38 => exact ⟨(HS.out.off O5.out NX.out).2.1, trivial⟩
      clear hK K hHeld
      have hHeld := hNew
      clear hNew
      generalize (World.setCell (World.setCell (World.setCell (World.setCell (World.setCell (World.setCell (World.setCell (World.setCell (World.setCell (World.setCell (World.setCell (World.setCell (World.setCell (World.setCell u4 ⟨pb, 0, none⟩ (.int .u8 y1.s.r.a)) ⟨pb, 1, none⟩ (.int .u8 y1.s.r.f)) ⟨pb, 2, none⟩ (.int .u8 y1.s.r.b)) ⟨pb, 3, none⟩ (.int .u8 y1.s.r.c)) ⟨pb, 4, none⟩ (.int .u8 y1.s.r.d)) ⟨pb, 5, none⟩ (.int .u8 y1.s.r.e)) ⟨pb, 6, none⟩ (.int .u8 y1.s.r.h)) ⟨pb, 7, none⟩ (.int .u8 y1.s.r.l)) ⟨pb, 8, none⟩ (.int .u16 y1.s.r.sp)) ⟨pb, 9, none⟩ (.int .u16 y1.s.r.pc)) ⟨pb, 10, none⟩ (.bool y1.s.ime)) ⟨pb, 11, none⟩ (.bool y1.s.soon)) ⟨pb, 12, none⟩ (.bool y1.s.halt)) ⟨pb, 13, none⟩ (.bool y1.s.stop)) = u5 at hHeld P5 D5 BB5 O5 ⊢
      refine wpAnyH_ready (rs := [11]) (by kernel_rfl) (by simp) ?_
      refine (ac rfl (fun K hK => ?_) AllReadyH.nil)
      ·skip
       have hcc := D5.out.2.1
       have hfz := D5.out.2.2
       go_simp
       clear hcc hfz
       have o1 := Off.put9 u5 db DV
       have D6 := Lib.hid (D5.out.put9 DV)
       have P6 := Lib.hid (P5.out.off o1 (fun e => DP.out e.symm))
       have BB6 := Lib.hid (BB5.out.keep o1 (fun k hk e => ND.out (by rw [← show k = db from e]; exact hk)))
       have O6 := Lib.hid (O5.out.trans o1 (fun b hb e => absurd LD.out (by have e' : b = db := e; omega)))
       clear o1
       refine hK.out _ _ ?s39 (fun hNew => ?r39)
       case s39 => exact ⟨(HS.out.off O6.out NX.out).2.1, trivial⟩
       clear hK K hHeld
       have hHeld := hNew
       clear hNew
       generalize (World.setCell (World.setCell (World.setCell (World.setCell (World.setCell (World.setCell (World.setCell (World.setCell (World.setCell u5 ⟨db, 0, none⟩ (.int .i64 DV.what)) ⟨db, 1, none⟩ (.int .i64 DV.n)) ⟨db, 2, none⟩ (.int .u16 DV.at')) ⟨db, 3, none⟩ (.int .i64 DV.o.k)) ⟨db, 4, none⟩ (.int .i64 DV.o.x)) ⟨db, 5, none⟩ (.int .i64 DV.o.y)) ⟨db, 6, none⟩ (.int .i64 DV.o.s)) ⟨db, 7, none⟩ (.int .u16 DV.o.n)) ⟨db, 8, none⟩ (.bool DV.t)) = u6 at hHeld P6 D6 BB6 O6 ⊢
       refine wpAnyH_done (by kernel_rfl) ?_ _
       clear hHeld
       exact HQ.out tb v pb db _ _ _ _ _ _ _ _ _ ⟨O6.out, BB6.out, P6.out, D6.out, LP.out, LD.out, DP.out.symm, LT.out, LV.out⟩
   ·skip
    go_simp
    have q := own1 u2 (.cells #[.int .u8 0, .int .u8 0, .int .u8 0, .int .u8 0, .int .u8 0, .int .u8 0, .int .u8 0, .int .u8 0, .int .u16 0, .int .u16 0, .bool false, .bool false, .bool false, .bool false] 41)
    have O3 := Lib.hid (O2.out.trans (Off.of (fun _ => False) q) (fun b hb hx => hx.elim))
    have BB3 := Lib.hid (BB2.out.below q)
    have D3 := Lib.hid (D2.out.below q)
    have P3 := Lib.hid (Has.new u2 #[.int .u8 0, .int .u8 0, .int .u8 0, .int .u8 0, .int .u8 0, .int .u8 0, .int .u8 0, .int .u8 0, .int .u16 0, .int .u16 0, .bool false, .bool false, .bool false, .bool false] 41)
    have LP := Lib.hid O2.out.size
    have NP := Lib.hid (show ¬ BX R M tb (.slice none 0 0) u2.heap.size from fun hx => by have := BB2.out.lt hx; omega)
    have DP := Lib.hid (show db ≠ u2.heap.size by have := D2.out.1; omega)
    clear q
    refine hK.out _ _ ?s40 (fun hNew => ?r40)
    case s40 => exact ⟨(HS.out.off O3.out NX.out).2.1, trivial⟩
    clear hK K hHeld
    have hHeld := hNew
    clear hNew
    generalize u2.alloc (.cells #[.int .u8 0, .int .u8 0, .int .u8 0, .int .u8 0, .int .u8 0, .int .u8 0, .int .u8 0, .int .u8 0, .int .u16 0, .int .u16 0, .bool false, .bool false, .bool false, .bool false] 41) = u3 at hHeld O3 BB3 D3 P3 ⊢
    generalize u2.heap.size = pb at P3 LP NP DP ⊢
    refine wpAnyH_ready (rs := [4]) (by kernel_rfl) (by simp) ?_
    refine (ac rfl (fun K hK => ?_) AllReadyH.nil)
    ·skip
     go_simp
     with_reducible refine (Step_t BB3.out (by omega) s OK.out).mono ?_
     rintro e u4 ⟨rfl, ok', v, b', m'⟩
     have hyA := Y1.out
     have hDA := YD.out
     rw [← hyA] at b' ⊢
     rw [← hDA]
     unfold St.cells didC
     clear ok' hyA hDA
     have LV := Lib.hid (show ∀ k, v.ownBlock = some k → wc.heap.size ≤ k from fun k hk => (m'.2 k hk).elim (fun e => by simp [Value.ownBlock] at e) (fun h => Nat.le_trans O3.out.size h))
     have O4 := Lib.hid (O3.out.trans m'.1 (fun k hk hx => hx.elim Or.inl (fun hx => hx.elim Or.inr (fun hx => hx.elim (fun e => absurd LT.out (by omega)) (fun e => by simp [Value.ownBlock] at e)))))
     have P4 := Lib.hid (P3.out.off m'.1 NP.out)
     have NP' := Lib.hid (m'.far P3.out.1 NP.out)
     clear NP
     have NP := NP'
     clear NP'
     have D4 := Lib.hid (D3.out.off m'.1 ND.out)
     have ND' := Lib.hid (m'.far D3.out.1 ND.out)
     clear ND
     have ND := ND'
     clear ND'
     have BB4 := Lib.hid b'
     clear b' m'
     refine hK.out _ _ ?s41 (fun hNew => ?r41)
     case s41 => exact ⟨(HS.out.off O4.out NX.out).2.1, trivial⟩
     clear hK K hHeld
     have hHeld := hNew
     clear hNew
     refine tk 5 rfl (v := ?v42) ?y42 ?z42
     case y42 => (intro w hSw; (try dsimp only at hSw); go_simp) <;> with_reducible rfl
     try simp only [Act.put, qqA, qqB, qqC]
     refine tk 6 rfl (v := ?v43) ?y43 ?z43
     case y43 => (intro w hSw; (try dsimp only at hSw); go_simp) <;> with_reducible rfl
     try simp only [Act.put, qqA, qqB, qqC]
     refine tk 7 rfl (v := ?v44) ?y44 ?z44
     case y44 => (intro w hSw; (try dsimp only at hSw); go_simp) <;> with_reducible rfl
     try simp only [Act.put, qqA, qqB, qqC]
     refine wpAnyH_ready (rs := [10]) (by kernel_rfl) (by simp) ?_
     refine (ac rfl (fun K hK => ?_) AllReadyH.nil)
     ·skip
      have hcc := P4.out.2.1
      have hfz := P4.out.2.2
      go_simp
      clear hcc hfz
      have o1 := Off.put14 u4 pb y1.s
      have P5 := Lib.hid (Has.put14 (s0 := ⟨⟨0, 0, 0, 0, 0, 0, 0, 0, 0, 0⟩, false, false, false, false⟩) P4.out y1.s)
      have D5 := Lib.hid (D4.out.off o1 (fun e => DP.out e))
      have BB5 := Lib.hid (BB4.out.keep o1 (fun k hk e => NP.out (by rw [← show k = pb from e]; exact hk)))
      have O5 := Lib.hid (O4.out.trans o1 (fun b hb e => absurd LP.out (by have e' : b = pb := e; omega)))
      clear o1
      refine hK.out _ _ ?s45 (fun hNew => ?r45)
      case s45 => exact ⟨(HS.out.off O5.out NX.out).2.1, trivial⟩
      clear hK K hHeld
      have hHeld := hNew
      clear hNew
      generalize (World.setCell (World.setCell (World.setCell (World.setCell (World.setCell (World.setCell (World.setCell (World.setCell (World.setCell (World.setCell (World.setCell (World.setCell (World.setCell (World.setCell u4 ⟨pb, 0, none⟩ (.int .u8 y1.s.r.a)) ⟨pb, 1, none⟩ (.int .u8 y1.s.r.f)) ⟨pb, 2, none⟩ (.int .u8 y1.s.r.b)) ⟨pb, 3, none⟩ (.int .u8 y1.s.r.c)) ⟨pb, 4, none⟩ (.int .u8 y1.s.r.d)) ⟨pb, 5, none⟩ (.int .u8 y1.s.r.e)) ⟨pb, 6, none⟩ (.int .u8 y1.s.r.h)) ⟨pb, 7, none⟩ (.int .u8 y1.s.r.l)) ⟨pb, 8, none⟩ (.int .u16 y1.s.r.sp)) ⟨pb, 9, none⟩ (.int .u16 y1.s.r.pc)) ⟨pb, 10, none⟩ (.bool y1.s.ime)) ⟨pb, 11, none⟩ (.bool y1.s.soon)) ⟨pb, 12, none⟩ (.bool y1.s.halt)) ⟨pb, 13, none⟩ (.bool y1.s.stop)) = u5 at hHeld P5 D5 BB5 O5 ⊢
      refine wpAnyH_ready (rs := [11]) (by kernel_rfl) (by simp) ?_
      refine (ac rfl (fun K hK => ?_) AllReadyH.nil)
      ·skip
       have hcc := D5.out.2.1
       have hfz := D5.out.2.2
       go_simp
       clear hcc hfz
       have o1 := Off.put9 u5 db DV
       have D6 := Lib.hid (D5.out.put9 DV)
       have P6 := Lib.hid (P5.out.off o1 (fun e => DP.out e.symm))
       have BB6 := Lib.hid (BB5.out.keep o1 (fun k hk e => ND.out (by rw [← show k = db from e]; exact hk)))
       have O6 := Lib.hid (O5.out.trans o1 (fun b hb e => absurd LD.out (by have e' : b = db := e; omega)))
       clear o1
       refine hK.out _ _ ?s46 (fun hNew => ?r46)
       case s46 => exact ⟨(HS.out.off O6.out NX.out).2.1, trivial⟩
       clear hK K hHeld
       have hHeld := hNew
       clear hNew
       generalize (World.setCell (World.setCell (World.setCell (World.setCell (World.setCell (World.setCell (World.setCell (World.setCell (World.setCell u5 ⟨db, 0, none⟩ (.int .i64 DV.what)) ⟨db, 1, none⟩ (.int .i64 DV.n)) ⟨db, 2, none⟩ (.int .u16 DV.at')) ⟨db, 3, none⟩ (.int .i64 DV.o.k)) ⟨db, 4, none⟩ (.int .i64 DV.o.x)) ⟨db, 5, none⟩ (.int .i64 DV.o.y)) ⟨db, 6, none⟩ (.int .i64 DV.o.s)) ⟨db, 7, none⟩ (.int .u16 DV.o.n)) ⟨db, 8, none⟩ (.bool DV.t)) = u6 at hHeld P6 D6 BB6 O6 ⊢
       refine wpAnyH_done (by kernel_rfl) ?_ _
       clear hHeld
       exact HQ.out tb v pb db _ _ _ _ _ _ _ _ _ ⟨O6.out, BB6.out, P6.out, D6.out, LP.out, LD.out, DP.out.symm, LT.out, LV.out⟩
 ·skip
  go_simp
  have q := own1 u0 (.cells #[.int .u8 0, .int .u8 0, .int .u8 0, .int .u8 0, .int .u8 0, .int .u8 0, .int .u8 0, .int .u8 0, .int .u16 0, .int .u16 0, .bool false, .bool false, .bool false, .bool false] 41)
  have O1 := Lib.hid (O0.out.trans (Off.of (fun _ => False) q) (fun b hb hx => hx.elim))
  have RM1 := Lib.hid (RM0.out.below q)
  have P1 := Lib.hid (Has.new u0 #[.int .u8 0, .int .u8 0, .int .u8 0, .int .u8 0, .int .u8 0, .int .u8 0, .int .u8 0, .int .u8 0, .int .u16 0, .int .u16 0, .bool false, .bool false, .bool false, .bool false] 41)
  have LP := Lib.hid O0.out.size
  have XP1 := Lib.hid (show u0.heap.size ≠ R by have := RM0.out.ram.1; omega)
  have XP2 := Lib.hid (show u0.heap.size ≠ M by have := RM0.out.mlt; omega)
  clear q
  refine hK.out _ _ ?s47 (fun hNew => ?r47)
  case s47 => exact ⟨(HS.out.off O1.out NX.out).2.1, trivial⟩
  clear hK K hHeld
  have hHeld := hNew
  clear hNew
  generalize u0.alloc (.cells #[.int .u8 0, .int .u8 0, .int .u8 0, .int .u8 0, .int .u8 0, .int .u8 0, .int .u8 0, .int .u8 0, .int .u16 0, .int .u16 0, .bool false, .bool false, .bool false, .bool false] 41) = u1 at hHeld O1 RM1 P1 ⊢
  generalize u0.heap.size = pb at P1 LP XP1 XP2 ⊢
  refine wpAnyH_ready (rs := [0, 9]) (by kernel_rfl) (by simp) ?_
  refine (ac rfl (fun K hK => ?_) (ac rfl (fun K hK => ?_) AllReadyH.nil))
  ·skip
   go_simp
   with_reducible refine (new_c u1).mono ?_
   rintro e w' ⟨rfl, rfl⟩
   have T1 := Tab.new u1 81
   have q := own1 u1 (.cells Tryz.zeroCells81 81)
   have O2 := Lib.hid (O1.out.trans (Off.of (fun _ => False) q) (fun b hb hx => hx.elim))
   have BB2 := Lib.hid ((RM1.out.below q).bus (Or.inl T1) (by have := RM1.out.ram.1; omega) (by have := RM1.out.mlt; omega))
   have LT := Lib.hid O1.out.size
   have P2 := Lib.hid (P1.out.below q)
   have NP := Lib.hid (show ¬ BX R M u1.heap.size (.slice none 0 0) pb from fun hx => by
    rcases hx with hx | hx | hx | hx
    ·exact XP1.out hx
    ·exact XP2.out hx
    ·have := P1.out.1; omega
    ·simp [Value.ownBlock] at hx)
   clear T1 q
   refine hK.out _ _ ?s48 (fun hNew => ?r48)
   case s48 => exact ⟨(HS.out.off O2.out NX.out).2.1, trivial⟩
   clear hK K hHeld
   have hHeld := hNew
   clear hNew
   generalize u1.alloc (.cells Tryz.zeroCells81 81) = u2 at hHeld O2 BB2 P2 ⊢
   generalize u1.heap.size = tb at BB2 LT NP ⊢
   refine wpAnyH_ready (rs := [4, 9]) (by kernel_rfl) (by simp) ?_
   refine (ac rfl (fun K hK => ?_) (ac rfl (fun K hK => ?_) AllReadyH.nil))
   ·skip
    go_simp
    with_reducible refine (Step_t BB2.out (by omega) s OK.out).mono ?_
    rintro e u3 ⟨rfl, ok', v, b', m'⟩
    have hyA := Y1.out
    have hDA := YD.out
    rw [← hyA] at b' ⊢
    rw [← hDA]
    unfold St.cells didC
    clear ok' hyA hDA
    have LV := Lib.hid (show ∀ k, v.ownBlock = some k → wc.heap.size ≤ k from fun k hk => (m'.2 k hk).elim (fun e => by simp [Value.ownBlock] at e) (fun h => Nat.le_trans O2.out.size h))
    have O3 := Lib.hid (O2.out.trans m'.1 (fun k hk hx => hx.elim Or.inl (fun hx => hx.elim Or.inr (fun hx => hx.elim (fun e => absurd LT.out (by omega)) (fun e => by simp [Value.ownBlock] at e)))))
    have P3 := Lib.hid (P2.out.off m'.1 NP.out)
    have NP' := Lib.hid (m'.far P2.out.1 NP.out)
    clear NP
    have NP := NP'
    clear NP'
    have BB3 := Lib.hid b'
    clear b' m'
    refine hK.out _ _ ?s49 (fun hNew => ?r49)
    case s49 => exact ⟨(HS.out.off O3.out NX.out).2.1, trivial⟩
    clear hK K hHeld
    have hHeld := hNew
    clear hNew
    refine tk 5 rfl (v := ?v50) ?y50 ?z50
    case y50 => (intro w hSw; (try dsimp only at hSw); go_simp) <;> with_reducible rfl
    try simp only [Act.put, qqA, qqB, qqC]
    refine tk 6 rfl (v := ?v51) ?y51 ?z51
    case y51 => (intro w hSw; (try dsimp only at hSw); go_simp) <;> with_reducible rfl
    try simp only [Act.put, qqA, qqB, qqC]
    refine tk 7 rfl (v := ?v52) ?y52 ?z52
    case y52 => (intro w hSw; (try dsimp only at hSw); go_simp) <;> with_reducible rfl
    try simp only [Act.put, qqA, qqB, qqC]
    refine wpAnyH_ready (rs := [9]) (by kernel_rfl) (by simp) ?_
    refine (ac rfl (fun K hK => ?_) AllReadyH.nil)
    ·skip
     go_simp
     have q := own1 u3 (.cells #[.int .i64 0, .int .i64 0, .int .u16 0, .int .i64 0, .int .i64 0, .int .i64 0, .int .i64 0, .int .u16 0, .bool false] 46)
     have O4 := Lib.hid (O3.out.trans (Off.of (fun _ => False) q) (fun b hb hx => hx.elim))
     have BB4 := Lib.hid (BB3.out.below q)
     have P4 := Lib.hid (P3.out.below q)
     have D4 := Lib.hid (Has.new u3 #[.int .i64 0, .int .i64 0, .int .u16 0, .int .i64 0, .int .i64 0, .int .i64 0, .int .i64 0, .int .u16 0, .bool false] 46)
     have LD := Lib.hid O3.out.size
     have ND := Lib.hid (show ¬ BX R M tb v u3.heap.size from fun hx => by have := BB3.out.lt hx; omega)
     have DP := Lib.hid (show pb ≠ u3.heap.size by have := P3.out.1; omega)
     clear q
     refine hK.out _ _ ?s53 (fun hNew => ?r53)
     case s53 => exact ⟨(HS.out.off O4.out NX.out).2.1, trivial⟩
     clear hK K hHeld
     have hHeld := hNew
     clear hNew
     generalize u3.alloc (.cells #[.int .i64 0, .int .i64 0, .int .u16 0, .int .i64 0, .int .i64 0, .int .i64 0, .int .i64 0, .int .u16 0, .bool false] 46) = u4 at hHeld O4 BB4 P4 D4 ⊢
     generalize u3.heap.size = db at D4 LD ND DP ⊢
     refine wpAnyH_ready (rs := [10]) (by kernel_rfl) (by simp) ?_
     refine (ac rfl (fun K hK => ?_) AllReadyH.nil)
     ·skip
      have hcc := P4.out.2.1
      have hfz := P4.out.2.2
      go_simp
      clear hcc hfz
      have o1 := Off.put14 u4 pb y1.s
      have P5 := Lib.hid (Has.put14 (s0 := ⟨⟨0, 0, 0, 0, 0, 0, 0, 0, 0, 0⟩, false, false, false, false⟩) P4.out y1.s)
      have D5 := Lib.hid (D4.out.off o1 (fun e => DP.out e.symm))
      have BB5 := Lib.hid (BB4.out.keep o1 (fun k hk e => NP.out (by rw [← show k = pb from e]; exact hk)))
      have O5 := Lib.hid (O4.out.trans o1 (fun b hb e => absurd LP.out (by have e' : b = pb := e; omega)))
      clear o1
      refine hK.out _ _ ?s54 (fun hNew => ?r54)
      case s54 => exact ⟨(HS.out.off O5.out NX.out).2.1, trivial⟩
      clear hK K hHeld
      have hHeld := hNew
      clear hNew
      generalize (World.setCell (World.setCell (World.setCell (World.setCell (World.setCell (World.setCell (World.setCell (World.setCell (World.setCell (World.setCell (World.setCell (World.setCell (World.setCell (World.setCell u4 ⟨pb, 0, none⟩ (.int .u8 y1.s.r.a)) ⟨pb, 1, none⟩ (.int .u8 y1.s.r.f)) ⟨pb, 2, none⟩ (.int .u8 y1.s.r.b)) ⟨pb, 3, none⟩ (.int .u8 y1.s.r.c)) ⟨pb, 4, none⟩ (.int .u8 y1.s.r.d)) ⟨pb, 5, none⟩ (.int .u8 y1.s.r.e)) ⟨pb, 6, none⟩ (.int .u8 y1.s.r.h)) ⟨pb, 7, none⟩ (.int .u8 y1.s.r.l)) ⟨pb, 8, none⟩ (.int .u16 y1.s.r.sp)) ⟨pb, 9, none⟩ (.int .u16 y1.s.r.pc)) ⟨pb, 10, none⟩ (.bool y1.s.ime)) ⟨pb, 11, none⟩ (.bool y1.s.soon)) ⟨pb, 12, none⟩ (.bool y1.s.halt)) ⟨pb, 13, none⟩ (.bool y1.s.stop)) = u5 at hHeld P5 D5 BB5 O5 ⊢
      refine wpAnyH_ready (rs := [11]) (by kernel_rfl) (by simp) ?_
      refine (ac rfl (fun K hK => ?_) AllReadyH.nil)
      ·skip
       have hcc := D5.out.2.1
       have hfz := D5.out.2.2
       go_simp
       clear hcc hfz
       have o1 := Off.put9 u5 db DV
       have D6 := Lib.hid (D5.out.put9 DV)
       have P6 := Lib.hid (P5.out.off o1 (fun e => DP.out e))
       have BB6 := Lib.hid (BB5.out.keep o1 (fun k hk e => ND.out (by rw [← show k = db from e]; exact hk)))
       have O6 := Lib.hid (O5.out.trans o1 (fun b hb e => absurd LD.out (by have e' : b = db := e; omega)))
       clear o1
       refine hK.out _ _ ?s55 (fun hNew => ?r55)
       case s55 => exact ⟨(HS.out.off O6.out NX.out).2.1, trivial⟩
       clear hK K hHeld
       have hHeld := hNew
       clear hNew
       generalize (World.setCell (World.setCell (World.setCell (World.setCell (World.setCell (World.setCell (World.setCell (World.setCell (World.setCell u5 ⟨db, 0, none⟩ (.int .i64 DV.what)) ⟨db, 1, none⟩ (.int .i64 DV.n)) ⟨db, 2, none⟩ (.int .u16 DV.at')) ⟨db, 3, none⟩ (.int .i64 DV.o.k)) ⟨db, 4, none⟩ (.int .i64 DV.o.x)) ⟨db, 5, none⟩ (.int .i64 DV.o.y)) ⟨db, 6, none⟩ (.int .i64 DV.o.s)) ⟨db, 7, none⟩ (.int .u16 DV.o.n)) ⟨db, 8, none⟩ (.bool DV.t)) = u6 at hHeld P6 D6 BB6 O6 ⊢
       refine wpAnyH_done (by kernel_rfl) ?_ _
       clear hHeld
       exact HQ.out tb v pb db _ _ _ _ _ _ _ _ _ ⟨O6.out, BB6.out, P6.out, D6.out, LP.out, LD.out, DP.out, LT.out, LV.out⟩
   ·skip
    go_simp
    have q := own1 u2 (.cells #[.int .i64 0, .int .i64 0, .int .u16 0, .int .i64 0, .int .i64 0, .int .i64 0, .int .i64 0, .int .u16 0, .bool false] 46)
    have O3 := Lib.hid (O2.out.trans (Off.of (fun _ => False) q) (fun b hb hx => hx.elim))
    have BB3 := Lib.hid (BB2.out.below q)
    have P3 := Lib.hid (P2.out.below q)
    have D3 := Lib.hid (Has.new u2 #[.int .i64 0, .int .i64 0, .int .u16 0, .int .i64 0, .int .i64 0, .int .i64 0, .int .i64 0, .int .u16 0, .bool false] 46)
    have LD := Lib.hid O2.out.size
    have ND := Lib.hid (show ¬ BX R M tb (.slice none 0 0) u2.heap.size from fun hx => by have := BB2.out.lt hx; omega)
    have DP := Lib.hid (show pb ≠ u2.heap.size by have := P2.out.1; omega)
    clear q
    refine hK.out _ _ ?s56 (fun hNew => ?r56)
    case s56 => exact ⟨(HS.out.off O3.out NX.out).2.1, trivial⟩
    clear hK K hHeld
    have hHeld := hNew
    clear hNew
    generalize u2.alloc (.cells #[.int .i64 0, .int .i64 0, .int .u16 0, .int .i64 0, .int .i64 0, .int .i64 0, .int .i64 0, .int .u16 0, .bool false] 46) = u3 at hHeld O3 BB3 P3 D3 ⊢
    generalize u2.heap.size = db at D3 LD ND DP ⊢
    refine wpAnyH_ready (rs := [4]) (by kernel_rfl) (by simp) ?_
    refine (ac rfl (fun K hK => ?_) AllReadyH.nil)
    ·skip
     go_simp
     with_reducible refine (Step_t BB3.out (by omega) s OK.out).mono ?_
     rintro e u4 ⟨rfl, ok', v, b', m'⟩
     have hyA := Y1.out
     have hDA := YD.out
     rw [← hyA] at b' ⊢
     rw [← hDA]
     unfold St.cells didC
     clear ok' hyA hDA
     have LV := Lib.hid (show ∀ k, v.ownBlock = some k → wc.heap.size ≤ k from fun k hk => (m'.2 k hk).elim (fun e => by simp [Value.ownBlock] at e) (fun h => Nat.le_trans O3.out.size h))
     have O4 := Lib.hid (O3.out.trans m'.1 (fun k hk hx => hx.elim Or.inl (fun hx => hx.elim Or.inr (fun hx => hx.elim (fun e => absurd LT.out (by omega)) (fun e => by simp [Value.ownBlock] at e)))))
     have P4 := Lib.hid (P3.out.off m'.1 NP.out)
     have NP' := Lib.hid (m'.far P3.out.1 NP.out)
     clear NP
     have NP := NP'
     clear NP'
     have D4 := Lib.hid (D3.out.off m'.1 ND.out)
     have ND' := Lib.hid (m'.far D3.out.1 ND.out)
     clear ND
     have ND := ND'
     clear ND'
     have BB4 := Lib.hid b'
     clear b' m'
     refine hK.out _ _ ?s57 (fun hNew => ?r57)
     case s57 => exact ⟨(HS.out.off O4.out NX.out).2.1, trivial⟩
     clear hK K hHeld
     have hHeld := hNew
     clear hNew
     refine tk 5 rfl (v := ?v58) ?y58 ?z58
     case y58 => (intro w hSw; (try dsimp only at hSw); go_simp) <;> with_reducible rfl
     try simp only [Act.put, qqA, qqB, qqC]
     refine tk 6 rfl (v := ?v59) ?y59 ?z59
     case y59 => (intro w hSw; (try dsimp only at hSw); go_simp) <;> with_reducible rfl
     try simp only [Act.put, qqA, qqB, qqC]
     refine tk 7 rfl (v := ?v60) ?y60 ?z60
     case y60 => (intro w hSw; (try dsimp only at hSw); go_simp) <;> with_reducible rfl
     try simp only [Act.put, qqA, qqB, qqC]
     refine wpAnyH_ready (rs := [10]) (by kernel_rfl) (by simp) ?_
     refine (ac rfl (fun K hK => ?_) AllReadyH.nil)
     ·skip
      have hcc := P4.out.2.1
      have hfz := P4.out.2.2
      go_simp
      clear hcc hfz
      have o1 := Off.put14 u4 pb y1.s
      have P5 := Lib.hid (Has.put14 (s0 := ⟨⟨0, 0, 0, 0, 0, 0, 0, 0, 0, 0⟩, false, false, false, false⟩) P4.out y1.s)
      have D5 := Lib.hid (D4.out.off o1 (fun e => DP.out e.symm))
      have BB5 := Lib.hid (BB4.out.keep o1 (fun k hk e => NP.out (by rw [← show k = pb from e]; exact hk)))
      have O5 := Lib.hid (O4.out.trans o1 (fun b hb e => absurd LP.out (by have e' : b = pb := e; omega)))
      clear o1
      refine hK.out _ _ ?s61 (fun hNew => ?r61)
      case s61 => exact ⟨(HS.out.off O5.out NX.out).2.1, trivial⟩
      clear hK K hHeld
      have hHeld := hNew
      clear hNew
      generalize (World.setCell (World.setCell (World.setCell (World.setCell (World.setCell (World.setCell (World.setCell (World.setCell (World.setCell (World.setCell (World.setCell (World.setCell (World.setCell (World.setCell u4 ⟨pb, 0, none⟩ (.int .u8 y1.s.r.a)) ⟨pb, 1, none⟩ (.int .u8 y1.s.r.f)) ⟨pb, 2, none⟩ (.int .u8 y1.s.r.b)) ⟨pb, 3, none⟩ (.int .u8 y1.s.r.c)) ⟨pb, 4, none⟩ (.int .u8 y1.s.r.d)) ⟨pb, 5, none⟩ (.int .u8 y1.s.r.e)) ⟨pb, 6, none⟩ (.int .u8 y1.s.r.h)) ⟨pb, 7, none⟩ (.int .u8 y1.s.r.l)) ⟨pb, 8, none⟩ (.int .u16 y1.s.r.sp)) ⟨pb, 9, none⟩ (.int .u16 y1.s.r.pc)) ⟨pb, 10, none⟩ (.bool y1.s.ime)) ⟨pb, 11, none⟩ (.bool y1.s.soon)) ⟨pb, 12, none⟩ (.bool y1.s.halt)) ⟨pb, 13, none⟩ (.bool y1.s.stop)) = u5 at hHeld P5 D5 BB5 O5 ⊢
      refine wpAnyH_ready (rs := [11]) (by kernel_rfl) (by simp) ?_
      refine (ac rfl (fun K hK => ?_) AllReadyH.nil)
      ·skip
       have hcc := D5.out.2.1
       have hfz := D5.out.2.2
       go_simp
       clear hcc hfz
       have o1 := Off.put9 u5 db DV
       have D6 := Lib.hid (D5.out.put9 DV)
       have P6 := Lib.hid (P5.out.off o1 (fun e => DP.out e))
       have BB6 := Lib.hid (BB5.out.keep o1 (fun k hk e => ND.out (by rw [← show k = db from e]; exact hk)))
       have O6 := Lib.hid (O5.out.trans o1 (fun b hb e => absurd LD.out (by have e' : b = db := e; omega)))
       clear o1
       refine hK.out _ _ ?s62 (fun hNew => ?r62)
       case s62 => exact ⟨(HS.out.off O6.out NX.out).2.1, trivial⟩
       clear hK K hHeld
       have hHeld := hNew
       clear hNew
       generalize (World.setCell (World.setCell (World.setCell (World.setCell (World.setCell (World.setCell (World.setCell (World.setCell (World.setCell u5 ⟨db, 0, none⟩ (.int .i64 DV.what)) ⟨db, 1, none⟩ (.int .i64 DV.n)) ⟨db, 2, none⟩ (.int .u16 DV.at')) ⟨db, 3, none⟩ (.int .i64 DV.o.k)) ⟨db, 4, none⟩ (.int .i64 DV.o.x)) ⟨db, 5, none⟩ (.int .i64 DV.o.y)) ⟨db, 6, none⟩ (.int .i64 DV.o.s)) ⟨db, 7, none⟩ (.int .u16 DV.o.n)) ⟨db, 8, none⟩ (.bool DV.t)) = u6 at hHeld P6 D6 BB6 O6 ⊢
       refine wpAnyH_done (by kernel_rfl) ?_ _
       clear hHeld
       exact HQ.out tb v pb db _ _ _ _ _ _ _ _ _ ⟨O6.out, BB6.out, P6.out, D6.out, LP.out, LD.out, DP.out, LT.out, LV.out⟩
  ·skip
   go_simp
   have q := own1 u1 (.cells #[.int .i64 0, .int .i64 0, .int .u16 0, .int .i64 0, .int .i64 0, .int .i64 0, .int .i64 0, .int .u16 0, .bool false] 46)
   have O2 := Lib.hid (O1.out.trans (Off.of (fun _ => False) q) (fun b hb hx => hx.elim))
   have RM2 := Lib.hid (RM1.out.below q)
   have P2 := Lib.hid (P1.out.below q)
   have D2 := Lib.hid (Has.new u1 #[.int .i64 0, .int .i64 0, .int .u16 0, .int .i64 0, .int .i64 0, .int .i64 0, .int .i64 0, .int .u16 0, .bool false] 46)
   have LD := Lib.hid O1.out.size
   have XD1 := Lib.hid (show u1.heap.size ≠ R by have := RM1.out.ram.1; omega)
   have XD2 := Lib.hid (show u1.heap.size ≠ M by have := RM1.out.mlt; omega)
   have DP := Lib.hid (show pb ≠ u1.heap.size by have := P1.out.1; omega)
   clear q
   refine hK.out _ _ ?s63 (fun hNew => ?r63)
   case s63 => exact ⟨(HS.out.off O2.out NX.out).2.1, trivial⟩
   clear hK K hHeld
   have hHeld := hNew
   clear hNew
   generalize u1.alloc (.cells #[.int .i64 0, .int .i64 0, .int .u16 0, .int .i64 0, .int .i64 0, .int .i64 0, .int .i64 0, .int .u16 0, .bool false] 46) = u2 at hHeld O2 RM2 P2 D2 ⊢
   generalize u1.heap.size = db at D2 LD XD1 XD2 DP ⊢
   refine wpAnyH_ready (rs := [0]) (by kernel_rfl) (by simp) ?_
   refine (ac rfl (fun K hK => ?_) AllReadyH.nil)
   ·skip
    go_simp
    with_reducible refine (new_c u2).mono ?_
    rintro e w' ⟨rfl, rfl⟩
    have T1 := Tab.new u2 81
    have q := own1 u2 (.cells Tryz.zeroCells81 81)
    have O3 := Lib.hid (O2.out.trans (Off.of (fun _ => False) q) (fun b hb hx => hx.elim))
    have BB3 := Lib.hid ((RM2.out.below q).bus (Or.inl T1) (by have := RM2.out.ram.1; omega) (by have := RM2.out.mlt; omega))
    have LT := Lib.hid O2.out.size
    have P3 := Lib.hid (P2.out.below q)
    have NP := Lib.hid (show ¬ BX R M u2.heap.size (.slice none 0 0) pb from fun hx => by
     rcases hx with hx | hx | hx | hx
     ·exact XP1.out hx
     ·exact XP2.out hx
     ·have := P2.out.1; omega
     ·simp [Value.ownBlock] at hx)
    have D3 := Lib.hid (D2.out.below q)
    have ND := Lib.hid (show ¬ BX R M u2.heap.size (.slice none 0 0) db from fun hx => by
     rcases hx with hx | hx | hx | hx
     ·exact XD1.out hx
     ·exact XD2.out hx
     ·have := D2.out.1; omega
     ·simp [Value.ownBlock] at hx)
    clear T1 q
    refine hK.out _ _ ?s64 (fun hNew => ?r64)
    case s64 => exact ⟨(HS.out.off O3.out NX.out).2.1, trivial⟩
    clear hK K hHeld
    have hHeld := hNew
    clear hNew
    generalize u2.alloc (.cells Tryz.zeroCells81 81) = u3 at hHeld O3 BB3 P3 D3 ⊢
    generalize u2.heap.size = tb at BB3 LT NP ND ⊢
    refine wpAnyH_ready (rs := [4]) (by kernel_rfl) (by simp) ?_
    refine (ac rfl (fun K hK => ?_) AllReadyH.nil)
    ·skip
     go_simp
     with_reducible refine (Step_t BB3.out (by omega) s OK.out).mono ?_
     rintro e u4 ⟨rfl, ok', v, b', m'⟩
     have hyA := Y1.out
     have hDA := YD.out
     rw [← hyA] at b' ⊢
     rw [← hDA]
     unfold St.cells didC
     clear ok' hyA hDA
     have LV := Lib.hid (show ∀ k, v.ownBlock = some k → wc.heap.size ≤ k from fun k hk => (m'.2 k hk).elim (fun e => by simp [Value.ownBlock] at e) (fun h => Nat.le_trans O3.out.size h))
     have O4 := Lib.hid (O3.out.trans m'.1 (fun k hk hx => hx.elim Or.inl (fun hx => hx.elim Or.inr (fun hx => hx.elim (fun e => absurd LT.out (by omega)) (fun e => by simp [Value.ownBlock] at e)))))
     have P4 := Lib.hid (P3.out.off m'.1 NP.out)
     have NP' := Lib.hid (m'.far P3.out.1 NP.out)
     clear NP
     have NP := NP'
     clear NP'
     have D4 := Lib.hid (D3.out.off m'.1 ND.out)
     have ND' := Lib.hid (m'.far D3.out.1 ND.out)
     clear ND
     have ND := ND'
     clear ND'
     have BB4 := Lib.hid b'
     clear b' m'
     refine hK.out _ _ ?s65 (fun hNew => ?r65)
     case s65 => exact ⟨(HS.out.off O4.out NX.out).2.1, trivial⟩
     clear hK K hHeld
     have hHeld := hNew
     clear hNew
     refine tk 5 rfl (v := ?v66) ?y66 ?z66
     case y66 => (intro w hSw; (try dsimp only at hSw); go_simp) <;> with_reducible rfl
     try simp only [Act.put, qqA, qqB, qqC]
     refine tk 6 rfl (v := ?v67) ?y67 ?z67
     case y67 => (intro w hSw; (try dsimp only at hSw); go_simp) <;> with_reducible rfl
     try simp only [Act.put, qqA, qqB, qqC]
     refine tk 7 rfl (v := ?v68) ?y68 ?z68
     case y68 => (intro w hSw; (try dsimp only at hSw); go_simp) <;> with_reducible rfl
     try simp only [Act.put, qqA, qqB, qqC]
     refine wpAnyH_ready (rs := [10]) (by kernel_rfl) (by simp) ?_
     refine (ac rfl (fun K hK => ?_) AllReadyH.nil)
     ·skip
      have hcc := P4.out.2.1
      have hfz := P4.out.2.2
      go_simp
      clear hcc hfz
      have o1 := Off.put14 u4 pb y1.s
      have P5 := Lib.hid (Has.put14 (s0 := ⟨⟨0, 0, 0, 0, 0, 0, 0, 0, 0, 0⟩, false, false, false, false⟩) P4.out y1.s)
      have D5 := Lib.hid (D4.out.off o1 (fun e => DP.out e.symm))
      have BB5 := Lib.hid (BB4.out.keep o1 (fun k hk e => NP.out (by rw [← show k = pb from e]; exact hk)))
      have O5 := Lib.hid (O4.out.trans o1 (fun b hb e => absurd LP.out (by have e' : b = pb := e; omega)))
      clear o1
      refine hK.out _ _ ?s69 (fun hNew => ?r69)
      case s69 => exact ⟨(HS.out.off O5.out NX.out).2.1, trivial⟩
      clear hK K hHeld
      have hHeld := hNew
      clear hNew
      generalize (World.setCell (World.setCell (World.setCell (World.setCell (World.setCell (World.setCell (World.setCell (World.setCell (World.setCell (World.setCell (World.setCell (World.setCell (World.setCell (World.setCell u4 ⟨pb, 0, none⟩ (.int .u8 y1.s.r.a)) ⟨pb, 1, none⟩ (.int .u8 y1.s.r.f)) ⟨pb, 2, none⟩ (.int .u8 y1.s.r.b)) ⟨pb, 3, none⟩ (.int .u8 y1.s.r.c)) ⟨pb, 4, none⟩ (.int .u8 y1.s.r.d)) ⟨pb, 5, none⟩ (.int .u8 y1.s.r.e)) ⟨pb, 6, none⟩ (.int .u8 y1.s.r.h)) ⟨pb, 7, none⟩ (.int .u8 y1.s.r.l)) ⟨pb, 8, none⟩ (.int .u16 y1.s.r.sp)) ⟨pb, 9, none⟩ (.int .u16 y1.s.r.pc)) ⟨pb, 10, none⟩ (.bool y1.s.ime)) ⟨pb, 11, none⟩ (.bool y1.s.soon)) ⟨pb, 12, none⟩ (.bool y1.s.halt)) ⟨pb, 13, none⟩ (.bool y1.s.stop)) = u5 at hHeld P5 D5 BB5 O5 ⊢
      refine wpAnyH_ready (rs := [11]) (by kernel_rfl) (by simp) ?_
      refine (ac rfl (fun K hK => ?_) AllReadyH.nil)
      ·skip
       have hcc := D5.out.2.1
       have hfz := D5.out.2.2
       go_simp
       clear hcc hfz
       have o1 := Off.put9 u5 db DV
       have D6 := Lib.hid (D5.out.put9 DV)
       have P6 := Lib.hid (P5.out.off o1 (fun e => DP.out e))
       have BB6 := Lib.hid (BB5.out.keep o1 (fun k hk e => ND.out (by rw [← show k = db from e]; exact hk)))
       have O6 := Lib.hid (O5.out.trans o1 (fun b hb e => absurd LD.out (by have e' : b = db := e; omega)))
       clear o1
       refine hK.out _ _ ?s70 (fun hNew => ?r70)
       case s70 => exact ⟨(HS.out.off O6.out NX.out).2.1, trivial⟩
       clear hK K hHeld
       have hHeld := hNew
       clear hNew
       generalize (World.setCell (World.setCell (World.setCell (World.setCell (World.setCell (World.setCell (World.setCell (World.setCell (World.setCell u5 ⟨db, 0, none⟩ (.int .i64 DV.what)) ⟨db, 1, none⟩ (.int .i64 DV.n)) ⟨db, 2, none⟩ (.int .u16 DV.at')) ⟨db, 3, none⟩ (.int .i64 DV.o.k)) ⟨db, 4, none⟩ (.int .i64 DV.o.x)) ⟨db, 5, none⟩ (.int .i64 DV.o.y)) ⟨db, 6, none⟩ (.int .i64 DV.o.s)) ⟨db, 7, none⟩ (.int .u16 DV.o.n)) ⟨db, 8, none⟩ (.bool DV.t)) = u6 at hHeld P6 D6 BB6 O6 ⊢
       refine wpAnyH_done (by kernel_rfl) ?_ _
       clear hHeld
       exact HQ.out tb v pb db _ _ _ _ _ _ _ _ _ ⟨O6.out, BB6.out, P6.out, D6.out, LP.out, LD.out, DP.out, LT.out, LV.out⟩
 ·skip
  go_simp
  have q := own1 u0 (.cells #[.int .i64 0, .int .i64 0, .int .u16 0, .int .i64 0, .int .i64 0, .int .i64 0, .int .i64 0, .int .u16 0, .bool false] 46)
  have O1 := Lib.hid (O0.out.trans (Off.of (fun _ => False) q) (fun b hb hx => hx.elim))
  have RM1 := Lib.hid (RM0.out.below q)
  have D1 := Lib.hid (Has.new u0 #[.int .i64 0, .int .i64 0, .int .u16 0, .int .i64 0, .int .i64 0, .int .i64 0, .int .i64 0, .int .u16 0, .bool false] 46)
  have LD := Lib.hid O0.out.size
  have XD1 := Lib.hid (show u0.heap.size ≠ R by have := RM0.out.ram.1; omega)
  have XD2 := Lib.hid (show u0.heap.size ≠ M by have := RM0.out.mlt; omega)
  clear q
  refine hK.out _ _ ?s71 (fun hNew => ?r71)
  case s71 => exact ⟨(HS.out.off O1.out NX.out).2.1, trivial⟩
  clear hK K hHeld
  have hHeld := hNew
  clear hNew
  generalize u0.alloc (.cells #[.int .i64 0, .int .i64 0, .int .u16 0, .int .i64 0, .int .i64 0, .int .i64 0, .int .i64 0, .int .u16 0, .bool false] 46) = u1 at hHeld O1 RM1 D1 ⊢
  generalize u0.heap.size = db at D1 LD XD1 XD2 ⊢
  refine wpAnyH_ready (rs := [0, 8]) (by kernel_rfl) (by simp) ?_
  refine (ac rfl (fun K hK => ?_) (ac rfl (fun K hK => ?_) AllReadyH.nil))
  ·skip
   go_simp
   with_reducible refine (new_c u1).mono ?_
   rintro e w' ⟨rfl, rfl⟩
   have T1 := Tab.new u1 81
   have q := own1 u1 (.cells Tryz.zeroCells81 81)
   have O2 := Lib.hid (O1.out.trans (Off.of (fun _ => False) q) (fun b hb hx => hx.elim))
   have BB2 := Lib.hid ((RM1.out.below q).bus (Or.inl T1) (by have := RM1.out.ram.1; omega) (by have := RM1.out.mlt; omega))
   have LT := Lib.hid O1.out.size
   have D2 := Lib.hid (D1.out.below q)
   have ND := Lib.hid (show ¬ BX R M u1.heap.size (.slice none 0 0) db from fun hx => by
    rcases hx with hx | hx | hx | hx
    ·exact XD1.out hx
    ·exact XD2.out hx
    ·have := D1.out.1; omega
    ·simp [Value.ownBlock] at hx)
   clear T1 q
   refine hK.out _ _ ?s72 (fun hNew => ?r72)
   case s72 => exact ⟨(HS.out.off O2.out NX.out).2.1, trivial⟩
   clear hK K hHeld
   have hHeld := hNew
   clear hNew
   generalize u1.alloc (.cells Tryz.zeroCells81 81) = u2 at hHeld O2 BB2 D2 ⊢
   generalize u1.heap.size = tb at BB2 LT ND ⊢
   refine wpAnyH_ready (rs := [4, 8]) (by kernel_rfl) (by simp) ?_
   refine (ac rfl (fun K hK => ?_) (ac rfl (fun K hK => ?_) AllReadyH.nil))
   ·skip
    go_simp
    with_reducible refine (Step_t BB2.out (by omega) s OK.out).mono ?_
    rintro e u3 ⟨rfl, ok', v, b', m'⟩
    have hyA := Y1.out
    have hDA := YD.out
    rw [← hyA] at b' ⊢
    rw [← hDA]
    unfold St.cells didC
    clear ok' hyA hDA
    have LV := Lib.hid (show ∀ k, v.ownBlock = some k → wc.heap.size ≤ k from fun k hk => (m'.2 k hk).elim (fun e => by simp [Value.ownBlock] at e) (fun h => Nat.le_trans O2.out.size h))
    have O3 := Lib.hid (O2.out.trans m'.1 (fun k hk hx => hx.elim Or.inl (fun hx => hx.elim Or.inr (fun hx => hx.elim (fun e => absurd LT.out (by omega)) (fun e => by simp [Value.ownBlock] at e)))))
    have D3 := Lib.hid (D2.out.off m'.1 ND.out)
    have ND' := Lib.hid (m'.far D2.out.1 ND.out)
    clear ND
    have ND := ND'
    clear ND'
    have BB3 := Lib.hid b'
    clear b' m'
    refine hK.out _ _ ?s73 (fun hNew => ?r73)
    case s73 => exact ⟨(HS.out.off O3.out NX.out).2.1, trivial⟩
    clear hK K hHeld
    have hHeld := hNew
    clear hNew
    refine tk 5 rfl (v := ?v74) ?y74 ?z74
    case y74 => (intro w hSw; (try dsimp only at hSw); go_simp) <;> with_reducible rfl
    try simp only [Act.put, qqA, qqB, qqC]
    refine tk 6 rfl (v := ?v75) ?y75 ?z75
    case y75 => (intro w hSw; (try dsimp only at hSw); go_simp) <;> with_reducible rfl
    try simp only [Act.put, qqA, qqB, qqC]
    refine tk 7 rfl (v := ?v76) ?y76 ?z76
    case y76 => (intro w hSw; (try dsimp only at hSw); go_simp) <;> with_reducible rfl
    try simp only [Act.put, qqA, qqB, qqC]
    refine wpAnyH_ready (rs := [8]) (by kernel_rfl) (by simp) ?_
    refine (ac rfl (fun K hK => ?_) AllReadyH.nil)
    ·skip
     go_simp
     have q := own1 u3 (.cells #[.int .u8 0, .int .u8 0, .int .u8 0, .int .u8 0, .int .u8 0, .int .u8 0, .int .u8 0, .int .u8 0, .int .u16 0, .int .u16 0, .bool false, .bool false, .bool false, .bool false] 41)
     have O4 := Lib.hid (O3.out.trans (Off.of (fun _ => False) q) (fun b hb hx => hx.elim))
     have BB4 := Lib.hid (BB3.out.below q)
     have D4 := Lib.hid (D3.out.below q)
     have P4 := Lib.hid (Has.new u3 #[.int .u8 0, .int .u8 0, .int .u8 0, .int .u8 0, .int .u8 0, .int .u8 0, .int .u8 0, .int .u8 0, .int .u16 0, .int .u16 0, .bool false, .bool false, .bool false, .bool false] 41)
     have LP := Lib.hid O3.out.size
     have NP := Lib.hid (show ¬ BX R M tb v u3.heap.size from fun hx => by have := BB3.out.lt hx; omega)
     have DP := Lib.hid (show db ≠ u3.heap.size by have := D3.out.1; omega)
     clear q
     refine hK.out _ _ ?s77 (fun hNew => ?r77)
     case s77 => exact ⟨(HS.out.off O4.out NX.out).2.1, trivial⟩
     clear hK K hHeld
     have hHeld := hNew
     clear hNew
     generalize u3.alloc (.cells #[.int .u8 0, .int .u8 0, .int .u8 0, .int .u8 0, .int .u8 0, .int .u8 0, .int .u8 0, .int .u8 0, .int .u16 0, .int .u16 0, .bool false, .bool false, .bool false, .bool false] 41) = u4 at hHeld O4 BB4 D4 P4 ⊢
     generalize u3.heap.size = pb at P4 LP NP DP ⊢
     refine wpAnyH_ready (rs := [10]) (by kernel_rfl) (by simp) ?_
     refine (ac rfl (fun K hK => ?_) AllReadyH.nil)
     ·skip
      have hcc := P4.out.2.1
      have hfz := P4.out.2.2
      go_simp
      clear hcc hfz
      have o1 := Off.put14 u4 pb y1.s
      have P5 := Lib.hid (Has.put14 (s0 := ⟨⟨0, 0, 0, 0, 0, 0, 0, 0, 0, 0⟩, false, false, false, false⟩) P4.out y1.s)
      have D5 := Lib.hid (D4.out.off o1 (fun e => DP.out e))
      have BB5 := Lib.hid (BB4.out.keep o1 (fun k hk e => NP.out (by rw [← show k = pb from e]; exact hk)))
      have O5 := Lib.hid (O4.out.trans o1 (fun b hb e => absurd LP.out (by have e' : b = pb := e; omega)))
      clear o1
      refine hK.out _ _ ?s78 (fun hNew => ?r78)
      case s78 => exact ⟨(HS.out.off O5.out NX.out).2.1, trivial⟩
      clear hK K hHeld
      have hHeld := hNew
      clear hNew
      generalize (World.setCell (World.setCell (World.setCell (World.setCell (World.setCell (World.setCell (World.setCell (World.setCell (World.setCell (World.setCell (World.setCell (World.setCell (World.setCell (World.setCell u4 ⟨pb, 0, none⟩ (.int .u8 y1.s.r.a)) ⟨pb, 1, none⟩ (.int .u8 y1.s.r.f)) ⟨pb, 2, none⟩ (.int .u8 y1.s.r.b)) ⟨pb, 3, none⟩ (.int .u8 y1.s.r.c)) ⟨pb, 4, none⟩ (.int .u8 y1.s.r.d)) ⟨pb, 5, none⟩ (.int .u8 y1.s.r.e)) ⟨pb, 6, none⟩ (.int .u8 y1.s.r.h)) ⟨pb, 7, none⟩ (.int .u8 y1.s.r.l)) ⟨pb, 8, none⟩ (.int .u16 y1.s.r.sp)) ⟨pb, 9, none⟩ (.int .u16 y1.s.r.pc)) ⟨pb, 10, none⟩ (.bool y1.s.ime)) ⟨pb, 11, none⟩ (.bool y1.s.soon)) ⟨pb, 12, none⟩ (.bool y1.s.halt)) ⟨pb, 13, none⟩ (.bool y1.s.stop)) = u5 at hHeld P5 D5 BB5 O5 ⊢
      refine wpAnyH_ready (rs := [11]) (by kernel_rfl) (by simp) ?_
      refine (ac rfl (fun K hK => ?_) AllReadyH.nil)
      ·skip
       have hcc := D5.out.2.1
       have hfz := D5.out.2.2
       go_simp
       clear hcc hfz
       have o1 := Off.put9 u5 db DV
       have D6 := Lib.hid (D5.out.put9 DV)
       have P6 := Lib.hid (P5.out.off o1 (fun e => DP.out e.symm))
       have BB6 := Lib.hid (BB5.out.keep o1 (fun k hk e => ND.out (by rw [← show k = db from e]; exact hk)))
       have O6 := Lib.hid (O5.out.trans o1 (fun b hb e => absurd LD.out (by have e' : b = db := e; omega)))
       clear o1
       refine hK.out _ _ ?s79 (fun hNew => ?r79)
       case s79 => exact ⟨(HS.out.off O6.out NX.out).2.1, trivial⟩
       clear hK K hHeld
       have hHeld := hNew
       clear hNew
       generalize (World.setCell (World.setCell (World.setCell (World.setCell (World.setCell (World.setCell (World.setCell (World.setCell (World.setCell u5 ⟨db, 0, none⟩ (.int .i64 DV.what)) ⟨db, 1, none⟩ (.int .i64 DV.n)) ⟨db, 2, none⟩ (.int .u16 DV.at')) ⟨db, 3, none⟩ (.int .i64 DV.o.k)) ⟨db, 4, none⟩ (.int .i64 DV.o.x)) ⟨db, 5, none⟩ (.int .i64 DV.o.y)) ⟨db, 6, none⟩ (.int .i64 DV.o.s)) ⟨db, 7, none⟩ (.int .u16 DV.o.n)) ⟨db, 8, none⟩ (.bool DV.t)) = u6 at hHeld P6 D6 BB6 O6 ⊢
       refine wpAnyH_done (by kernel_rfl) ?_ _
       clear hHeld
       exact HQ.out tb v pb db _ _ _ _ _ _ _ _ _ ⟨O6.out, BB6.out, P6.out, D6.out, LP.out, LD.out, DP.out.symm, LT.out, LV.out⟩
   ·skip
    go_simp
    have q := own1 u2 (.cells #[.int .u8 0, .int .u8 0, .int .u8 0, .int .u8 0, .int .u8 0, .int .u8 0, .int .u8 0, .int .u8 0, .int .u16 0, .int .u16 0, .bool false, .bool false, .bool false, .bool false] 41)
    have O3 := Lib.hid (O2.out.trans (Off.of (fun _ => False) q) (fun b hb hx => hx.elim))
    have BB3 := Lib.hid (BB2.out.below q)
    have D3 := Lib.hid (D2.out.below q)
    have P3 := Lib.hid (Has.new u2 #[.int .u8 0, .int .u8 0, .int .u8 0, .int .u8 0, .int .u8 0, .int .u8 0, .int .u8 0, .int .u8 0, .int .u16 0, .int .u16 0, .bool false, .bool false, .bool false, .bool false] 41)
    have LP := Lib.hid O2.out.size
    have NP := Lib.hid (show ¬ BX R M tb (.slice none 0 0) u2.heap.size from fun hx => by have := BB2.out.lt hx; omega)
    have DP := Lib.hid (show db ≠ u2.heap.size by have := D2.out.1; omega)
    clear q
    refine hK.out _ _ ?s80 (fun hNew => ?r80)
    case s80 => exact ⟨(HS.out.off O3.out NX.out).2.1, trivial⟩
    clear hK K hHeld
    have hHeld := hNew
    clear hNew
    generalize u2.alloc (.cells #[.int .u8 0, .int .u8 0, .int .u8 0, .int .u8 0, .int .u8 0, .int .u8 0, .int .u8 0, .int .u8 0, .int .u16 0, .int .u16 0, .bool false, .bool false, .bool false, .bool false] 41) = u3 at hHeld O3 BB3 D3 P3 ⊢
    generalize u2.heap.size = pb at P3 LP NP DP ⊢
    refine wpAnyH_ready (rs := [4]) (by kernel_rfl) (by simp) ?_
    refine (ac rfl (fun K hK => ?_) AllReadyH.nil)
    ·skip
     go_simp
     with_reducible refine (Step_t BB3.out (by omega) s OK.out).mono ?_
     rintro e u4 ⟨rfl, ok', v, b', m'⟩
     have hyA := Y1.out
     have hDA := YD.out
     rw [← hyA] at b' ⊢
     rw [← hDA]
     unfold St.cells didC
     clear ok' hyA hDA
     have LV := Lib.hid (show ∀ k, v.ownBlock = some k → wc.heap.size ≤ k from fun k hk => (m'.2 k hk).elim (fun e => by simp [Value.ownBlock] at e) (fun h => Nat.le_trans O3.out.size h))
     have O4 := Lib.hid (O3.out.trans m'.1 (fun k hk hx => hx.elim Or.inl (fun hx => hx.elim Or.inr (fun hx => hx.elim (fun e => absurd LT.out (by omega)) (fun e => by simp [Value.ownBlock] at e)))))
     have P4 := Lib.hid (P3.out.off m'.1 NP.out)
     have NP' := Lib.hid (m'.far P3.out.1 NP.out)
     clear NP
     have NP := NP'
     clear NP'
     have D4 := Lib.hid (D3.out.off m'.1 ND.out)
     have ND' := Lib.hid (m'.far D3.out.1 ND.out)
     clear ND
     have ND := ND'
     clear ND'
     have BB4 := Lib.hid b'
     clear b' m'
     refine hK.out _ _ ?s81 (fun hNew => ?r81)
     case s81 => exact ⟨(HS.out.off O4.out NX.out).2.1, trivial⟩
     clear hK K hHeld
     have hHeld := hNew
     clear hNew
     refine tk 5 rfl (v := ?v82) ?y82 ?z82
     case y82 => (intro w hSw; (try dsimp only at hSw); go_simp) <;> with_reducible rfl
     try simp only [Act.put, qqA, qqB, qqC]
     refine tk 6 rfl (v := ?v83) ?y83 ?z83
     case y83 => (intro w hSw; (try dsimp only at hSw); go_simp) <;> with_reducible rfl
     try simp only [Act.put, qqA, qqB, qqC]
     refine tk 7 rfl (v := ?v84) ?y84 ?z84
     case y84 => (intro w hSw; (try dsimp only at hSw); go_simp) <;> with_reducible rfl
     try simp only [Act.put, qqA, qqB, qqC]
     refine wpAnyH_ready (rs := [10]) (by kernel_rfl) (by simp) ?_
     refine (ac rfl (fun K hK => ?_) AllReadyH.nil)
     ·skip
      have hcc := P4.out.2.1
      have hfz := P4.out.2.2
      go_simp
      clear hcc hfz
      have o1 := Off.put14 u4 pb y1.s
      have P5 := Lib.hid (Has.put14 (s0 := ⟨⟨0, 0, 0, 0, 0, 0, 0, 0, 0, 0⟩, false, false, false, false⟩) P4.out y1.s)
      have D5 := Lib.hid (D4.out.off o1 (fun e => DP.out e))
      have BB5 := Lib.hid (BB4.out.keep o1 (fun k hk e => NP.out (by rw [← show k = pb from e]; exact hk)))
      have O5 := Lib.hid (O4.out.trans o1 (fun b hb e => absurd LP.out (by have e' : b = pb := e; omega)))
      clear o1
      refine hK.out _ _ ?s85 (fun hNew => ?r85)
      case s85 => exact ⟨(HS.out.off O5.out NX.out).2.1, trivial⟩
      clear hK K hHeld
      have hHeld := hNew
      clear hNew
      generalize (World.setCell (World.setCell (World.setCell (World.setCell (World.setCell (World.setCell (World.setCell (World.setCell (World.setCell (World.setCell (World.setCell (World.setCell (World.setCell (World.setCell u4 ⟨pb, 0, none⟩ (.int .u8 y1.s.r.a)) ⟨pb, 1, none⟩ (.int .u8 y1.s.r.f)) ⟨pb, 2, none⟩ (.int .u8 y1.s.r.b)) ⟨pb, 3, none⟩ (.int .u8 y1.s.r.c)) ⟨pb, 4, none⟩ (.int .u8 y1.s.r.d)) ⟨pb, 5, none⟩ (.int .u8 y1.s.r.e)) ⟨pb, 6, none⟩ (.int .u8 y1.s.r.h)) ⟨pb, 7, none⟩ (.int .u8 y1.s.r.l)) ⟨pb, 8, none⟩ (.int .u16 y1.s.r.sp)) ⟨pb, 9, none⟩ (.int .u16 y1.s.r.pc)) ⟨pb, 10, none⟩ (.bool y1.s.ime)) ⟨pb, 11, none⟩ (.bool y1.s.soon)) ⟨pb, 12, none⟩ (.bool y1.s.halt)) ⟨pb, 13, none⟩ (.bool y1.s.stop)) = u5 at hHeld P5 D5 BB5 O5 ⊢
      refine wpAnyH_ready (rs := [11]) (by kernel_rfl) (by simp) ?_
      refine (ac rfl (fun K hK => ?_) AllReadyH.nil)
      ·skip
       have hcc := D5.out.2.1
       have hfz := D5.out.2.2
       go_simp
       clear hcc hfz
       have o1 := Off.put9 u5 db DV
       have D6 := Lib.hid (D5.out.put9 DV)
       have P6 := Lib.hid (P5.out.off o1 (fun e => DP.out e.symm))
       have BB6 := Lib.hid (BB5.out.keep o1 (fun k hk e => ND.out (by rw [← show k = db from e]; exact hk)))
       have O6 := Lib.hid (O5.out.trans o1 (fun b hb e => absurd LD.out (by have e' : b = db := e; omega)))
       clear o1
       refine hK.out _ _ ?s86 (fun hNew => ?r86)
       case s86 => exact ⟨(HS.out.off O6.out NX.out).2.1, trivial⟩
       clear hK K hHeld
       have hHeld := hNew
       clear hNew
       generalize (World.setCell (World.setCell (World.setCell (World.setCell (World.setCell (World.setCell (World.setCell (World.setCell (World.setCell u5 ⟨db, 0, none⟩ (.int .i64 DV.what)) ⟨db, 1, none⟩ (.int .i64 DV.n)) ⟨db, 2, none⟩ (.int .u16 DV.at')) ⟨db, 3, none⟩ (.int .i64 DV.o.k)) ⟨db, 4, none⟩ (.int .i64 DV.o.x)) ⟨db, 5, none⟩ (.int .i64 DV.o.y)) ⟨db, 6, none⟩ (.int .i64 DV.o.s)) ⟨db, 7, none⟩ (.int .u16 DV.o.n)) ⟨db, 8, none⟩ (.bool DV.t)) = u6 at hHeld P6 D6 BB6 O6 ⊢
       refine wpAnyH_done (by kernel_rfl) ?_ _
       clear hHeld
       exact HQ.out tb v pb db _ _ _ _ _ _ _ _ _ ⟨O6.out, BB6.out, P6.out, D6.out, LP.out, LD.out, DP.out.symm, LT.out, LV.out⟩
  ·skip
   go_simp
   have q := own1 u1 (.cells #[.int .u8 0, .int .u8 0, .int .u8 0, .int .u8 0, .int .u8 0, .int .u8 0, .int .u8 0, .int .u8 0, .int .u16 0, .int .u16 0, .bool false, .bool false, .bool false, .bool false] 41)
   have O2 := Lib.hid (O1.out.trans (Off.of (fun _ => False) q) (fun b hb hx => hx.elim))
   have RM2 := Lib.hid (RM1.out.below q)
   have D2 := Lib.hid (D1.out.below q)
   have P2 := Lib.hid (Has.new u1 #[.int .u8 0, .int .u8 0, .int .u8 0, .int .u8 0, .int .u8 0, .int .u8 0, .int .u8 0, .int .u8 0, .int .u16 0, .int .u16 0, .bool false, .bool false, .bool false, .bool false] 41)
   have LP := Lib.hid O1.out.size
   have XP1 := Lib.hid (show u1.heap.size ≠ R by have := RM1.out.ram.1; omega)
   have XP2 := Lib.hid (show u1.heap.size ≠ M by have := RM1.out.mlt; omega)
   have DP := Lib.hid (show db ≠ u1.heap.size by have := D1.out.1; omega)
   clear q
   refine hK.out _ _ ?s87 (fun hNew => ?r87)
   case s87 => exact ⟨(HS.out.off O2.out NX.out).2.1, trivial⟩
   clear hK K hHeld
   have hHeld := hNew
   clear hNew
   generalize u1.alloc (.cells #[.int .u8 0, .int .u8 0, .int .u8 0, .int .u8 0, .int .u8 0, .int .u8 0, .int .u8 0, .int .u8 0, .int .u16 0, .int .u16 0, .bool false, .bool false, .bool false, .bool false] 41) = u2 at hHeld O2 RM2 D2 P2 ⊢
   generalize u1.heap.size = pb at P2 LP XP1 XP2 DP ⊢
   refine wpAnyH_ready (rs := [0]) (by kernel_rfl) (by simp) ?_
   refine (ac rfl (fun K hK => ?_) AllReadyH.nil)
   ·skip
    go_simp
    with_reducible refine (new_c u2).mono ?_
    rintro e w' ⟨rfl, rfl⟩
    have T1 := Tab.new u2 81
    have q := own1 u2 (.cells Tryz.zeroCells81 81)
    have O3 := Lib.hid (O2.out.trans (Off.of (fun _ => False) q) (fun b hb hx => hx.elim))
    have BB3 := Lib.hid ((RM2.out.below q).bus (Or.inl T1) (by have := RM2.out.ram.1; omega) (by have := RM2.out.mlt; omega))
    have LT := Lib.hid O2.out.size
    have P3 := Lib.hid (P2.out.below q)
    have NP := Lib.hid (show ¬ BX R M u2.heap.size (.slice none 0 0) pb from fun hx => by
     rcases hx with hx | hx | hx | hx
     ·exact XP1.out hx
     ·exact XP2.out hx
     ·have := P2.out.1; omega
     ·simp [Value.ownBlock] at hx)
    have D3 := Lib.hid (D2.out.below q)
    have ND := Lib.hid (show ¬ BX R M u2.heap.size (.slice none 0 0) db from fun hx => by
     rcases hx with hx | hx | hx | hx
     ·exact XD1.out hx
     ·exact XD2.out hx
     ·have := D2.out.1; omega
     ·simp [Value.ownBlock] at hx)
    clear T1 q
    refine hK.out _ _ ?s88 (fun hNew => ?r88)
    case s88 => exact ⟨(HS.out.off O3.out NX.out).2.1, trivial⟩
    clear hK K hHeld
    have hHeld := hNew
    clear hNew
    generalize u2.alloc (.cells Tryz.zeroCells81 81) = u3 at hHeld O3 BB3 P3 D3 ⊢
    generalize u2.heap.size = tb at BB3 LT NP ND ⊢
    refine wpAnyH_ready (rs := [4]) (by kernel_rfl) (by simp) ?_
    refine (ac rfl (fun K hK => ?_) AllReadyH.nil)
    ·skip
     go_simp
     with_reducible refine (Step_t BB3.out (by omega) s OK.out).mono ?_
     rintro e u4 ⟨rfl, ok', v, b', m'⟩
     have hyA := Y1.out
     have hDA := YD.out
     rw [← hyA] at b' ⊢
     rw [← hDA]
     unfold St.cells didC
     clear ok' hyA hDA
     have LV := Lib.hid (show ∀ k, v.ownBlock = some k → wc.heap.size ≤ k from fun k hk => (m'.2 k hk).elim (fun e => by simp [Value.ownBlock] at e) (fun h => Nat.le_trans O3.out.size h))
     have O4 := Lib.hid (O3.out.trans m'.1 (fun k hk hx => hx.elim Or.inl (fun hx => hx.elim Or.inr (fun hx => hx.elim (fun e => absurd LT.out (by omega)) (fun e => by simp [Value.ownBlock] at e)))))
     have P4 := Lib.hid (P3.out.off m'.1 NP.out)
     have NP' := Lib.hid (m'.far P3.out.1 NP.out)
     clear NP
     have NP := NP'
     clear NP'
     have D4 := Lib.hid (D3.out.off m'.1 ND.out)
     have ND' := Lib.hid (m'.far D3.out.1 ND.out)
     clear ND
     have ND := ND'
     clear ND'
     have BB4 := Lib.hid b'
     clear b' m'
     refine hK.out _ _ ?s89 (fun hNew => ?r89)
     case s89 => exact ⟨(HS.out.off O4.out NX.out).2.1, trivial⟩
     clear hK K hHeld
     have hHeld := hNew
     clear hNew
     refine tk 5 rfl (v := ?v90) ?y90 ?z90
     case y90 => (intro w hSw; (try dsimp only at hSw); go_simp) <;> with_reducible rfl
     try simp only [Act.put, qqA, qqB, qqC]
     refine tk 6 rfl (v := ?v91) ?y91 ?z91
     case y91 => (intro w hSw; (try dsimp only at hSw); go_simp) <;> with_reducible rfl
     try simp only [Act.put, qqA, qqB, qqC]
     refine tk 7 rfl (v := ?v92) ?y92 ?z92
     case y92 => (intro w hSw; (try dsimp only at hSw); go_simp) <;> with_reducible rfl
     try simp only [Act.put, qqA, qqB, qqC]
     refine wpAnyH_ready (rs := [10]) (by kernel_rfl) (by simp) ?_
     refine (ac rfl (fun K hK => ?_) AllReadyH.nil)
     ·skip
      have hcc := P4.out.2.1
      have hfz := P4.out.2.2
      go_simp
      clear hcc hfz
      have o1 := Off.put14 u4 pb y1.s
      have P5 := Lib.hid (Has.put14 (s0 := ⟨⟨0, 0, 0, 0, 0, 0, 0, 0, 0, 0⟩, false, false, false, false⟩) P4.out y1.s)
      have D5 := Lib.hid (D4.out.off o1 (fun e => DP.out e))
      have BB5 := Lib.hid (BB4.out.keep o1 (fun k hk e => NP.out (by rw [← show k = pb from e]; exact hk)))
      have O5 := Lib.hid (O4.out.trans o1 (fun b hb e => absurd LP.out (by have e' : b = pb := e; omega)))
      clear o1
      refine hK.out _ _ ?s93 (fun hNew => ?r93)
      case s93 => exact ⟨(HS.out.off O5.out NX.out).2.1, trivial⟩
      clear hK K hHeld
      have hHeld := hNew
      clear hNew
      generalize (World.setCell (World.setCell (World.setCell (World.setCell (World.setCell (World.setCell (World.setCell (World.setCell (World.setCell (World.setCell (World.setCell (World.setCell (World.setCell (World.setCell u4 ⟨pb, 0, none⟩ (.int .u8 y1.s.r.a)) ⟨pb, 1, none⟩ (.int .u8 y1.s.r.f)) ⟨pb, 2, none⟩ (.int .u8 y1.s.r.b)) ⟨pb, 3, none⟩ (.int .u8 y1.s.r.c)) ⟨pb, 4, none⟩ (.int .u8 y1.s.r.d)) ⟨pb, 5, none⟩ (.int .u8 y1.s.r.e)) ⟨pb, 6, none⟩ (.int .u8 y1.s.r.h)) ⟨pb, 7, none⟩ (.int .u8 y1.s.r.l)) ⟨pb, 8, none⟩ (.int .u16 y1.s.r.sp)) ⟨pb, 9, none⟩ (.int .u16 y1.s.r.pc)) ⟨pb, 10, none⟩ (.bool y1.s.ime)) ⟨pb, 11, none⟩ (.bool y1.s.soon)) ⟨pb, 12, none⟩ (.bool y1.s.halt)) ⟨pb, 13, none⟩ (.bool y1.s.stop)) = u5 at hHeld P5 D5 BB5 O5 ⊢
      refine wpAnyH_ready (rs := [11]) (by kernel_rfl) (by simp) ?_
      refine (ac rfl (fun K hK => ?_) AllReadyH.nil)
      ·skip
       have hcc := D5.out.2.1
       have hfz := D5.out.2.2
       go_simp
       clear hcc hfz
       have o1 := Off.put9 u5 db DV
       have D6 := Lib.hid (D5.out.put9 DV)
       have P6 := Lib.hid (P5.out.off o1 (fun e => DP.out e.symm))
       have BB6 := Lib.hid (BB5.out.keep o1 (fun k hk e => ND.out (by rw [← show k = db from e]; exact hk)))
       have O6 := Lib.hid (O5.out.trans o1 (fun b hb e => absurd LD.out (by have e' : b = db := e; omega)))
       clear o1
       refine hK.out _ _ ?s94 (fun hNew => ?r94)
       case s94 => exact ⟨(HS.out.off O6.out NX.out).2.1, trivial⟩
       clear hK K hHeld
       have hHeld := hNew
       clear hNew
       generalize (World.setCell (World.setCell (World.setCell (World.setCell (World.setCell (World.setCell (World.setCell (World.setCell (World.setCell u5 ⟨db, 0, none⟩ (.int .i64 DV.what)) ⟨db, 1, none⟩ (.int .i64 DV.n)) ⟨db, 2, none⟩ (.int .u16 DV.at')) ⟨db, 3, none⟩ (.int .i64 DV.o.k)) ⟨db, 4, none⟩ (.int .i64 DV.o.x)) ⟨db, 5, none⟩ (.int .i64 DV.o.y)) ⟨db, 6, none⟩ (.int .i64 DV.o.s)) ⟨db, 7, none⟩ (.int .u16 DV.o.n)) ⟨db, 8, none⟩ (.bool DV.t)) = u6 at hHeld P6 D6 BB6 O6 ⊢
       refine wpAnyH_done (by kernel_rfl) ?_ _
       clear hHeld
       exact HQ.out tb v pb db _ _ _ _ _ _ _ _ _ ⟨O6.out, BB6.out, P6.out, D6.out, LP.out, LD.out, DP.out.symm, LT.out, LV.out⟩
end Go.Proofs.YtngdogldgcgnjaaGreat
