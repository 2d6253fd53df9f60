/-
  CpuNil: what the step with no bus leaves, in whatever order its operations run; no condition but those that it names.
-/
import Derived.Test.YtngdogldgcgnjaaGreatL2
import Derived.Test.YtngdogldgcgnjaaGreatP14
import Derived.Deep.Cut
namespace Go.Proofs.YtngdogldgcgnjaaGreat
open Go.ChangeShapes Go.WideShapes Go.ChangeAt Go.RowKit
open Reg
set_option linter.unusedVariables false
set_option maxRecDepth 100000
/-- Behind a step of CpuNil that does nothing. -/
structure FinZ (wc wx : World) (pb db : Nat) (s : St) : Prop where
 bl : Below wc.heap.size wc wx
 hp : Has wx pb #[.int .u8 s.r.a, .int .u8 s.r.f, .int .u8 s.r.b, .int .u8 s.r.c, .int .u8 s.r.d, .int .u8 s.r.e, .int .u8 s.r.h, .int .u8 s.r.l, .int .u16 s.r.sp, .int .u16 s.r.pc, .bool s.ime, .bool s.soon, .bool s.halt, .bool s.stop]
 hd : Has wx db #[.int .i64 0, .int .i64 0, .int .u16 s.r.pc, .int .i64 0, .int .i64 0, .int .i64 0, .int .i64 0, .int .u16 0, .bool false]
 lp : wc.heap.size ≤ pb
 ld : wc.heap.size ≤ db
 pd : pb ≠ db
set_option maxHeartbeats 8000000 in
theorem nreg5 (wc : World) (sb : Nat) (s : St) (hs : Has wc sb #[.int .u8 s.r.a, .int .u8 s.r.f, .int .u8 s.r.b, .int .u8 s.r.c, .int .u8 s.r.d, .int .u8 s.r.e, .int .u8 s.r.h, .int .u8 s.r.l, .int .u16 s.r.sp, .int .u16 s.r.pc, .bool s.ime, .bool s.soon, .bool s.halt, .bool s.stop]) (c0 c1 c2 c3 c4 c5 c6 c8 c9 c10 c11 c12 c13 c14 c15 c16 c17 c18 c19 c20 c21 c22 c23 c24 c25 c26 c27 c28 c29 c30 c31 c32 c33 c34 c35 c36 c37 c38 c39 c40 c41 c42 c43 c44 c45 c46 c47 c48 c49 c50 c51 c52 c53 c54 c55 c56 c57 c58 c59 c60 c61 c62 c63 c64 c65 c66 c67 c68 c69 c70 c71 c72 c73 c74 c75 c76 c77 c78 c79 c80 c81 c82 c83 c84 c85 c86 c87 c88 c89 c90 c91 c92 c93 c94 c95 c96 c97 c98 c99 c100 c101 c102 c103 c104 c105 c106 c107 c108 c109 c110 c111 c112 c113 c114 c115 c116 c117 c118 c119 c120 c121 c122 c123 c124 c125 c126 c127 c128 c129 c130 c131 c132 c133 c134 c135 c136 c137 c138 c139 c140 c141 c142 c143 c144 c145 c146 c147 c148 c149 c150 c151 c152 c153 c154 c155 c156 c157 c158 c159 c160 c161 c162 c163 c164 c165 c166 c167 c168 c169 c170 c171 c172 c173 c174 c175 c176 c177 c178 c179 c180 : Value) (Kz : Act → World → Prop) (Pz : Ending → World → Prop)
  (hQ : ∀ (pb db : Nat) (d43 d44 d45 d46 d47 d48 : Value) (wx : World), FinZ wc wx pb db s → Kz ⟨#[c0, c1, c2, c3, c4, c5, c6, .pointer (some ⟨sb, 0, none⟩), c8, c9, .pointer (some ⟨pb, 0, none⟩), .pointer (some ⟨db, 0, none⟩), c12, c13, c14, c15, c16, c17, c18, c19, c20, c21, c22, c23, c24, c25, c26, c27, c28, c29, c30, c31, c32, c33, c34, c35, c36, c37, c38, c39, c40, c41, c42, d43, d44, d45, d46, d47, d48, c49, c50, c51, c52, c53, c54, c55, c56, c57, c58, c59, c60, c61, c62, c63, c64, c65, c66, c67, c68, c69, c70, c71, c72, c73, c74, c75, c76, c77, c78, c79, c80, c81, c82, c83, c84, c85, c86, c87, c88, c89, c90, c91, c92, c93, c94, c95, c96, c97, c98, c99, c100, c101, c102, c103, c104, c105, c106, c107, c108, c109, c110, c111, c112, c113, c114, c115, c116, c117, c118, c119, c120, c121, c122, c123, c124, c125, c126, c127, c128, c129, c130, c131, c132, c133, c134, c135, c136, c137, c138, c139, c140, c141, c142, c143, c144, c145, c146, c147, c148, c149, c150, c151, c152, c153, c154, c155, c156, c157, c158, c159, c160, c161, c162, c163, c164, c165, c166, c167, c168, c169, c170, c171, c172, c173, c174, c175, c176, c177, c178, c179, c180], []⟩ wx) :
  Code.wp Tryz.prog (.region 5 #[{ dst := some 44, op := Go.Op.call { callee := Go.Callee.value (Go.Operand.func 11), args := #[], argTypes := #[] }, type := 29, pos := "law.go:238", after := #[], guard := none }, { dst := some 45, op := Go.Op.load 41 (Go.Operand.tmp 7), type := 41, pos := "law.go:238", after := #[], guard := none }, { dst := some 46, op := Go.Op.call { callee := Go.Callee.value (Go.Operand.func 14), args := #[Go.Operand.tmp 44, Go.Operand.tmp 45, Go.Operand.const Go.Value.nilIface], argTypes := #[29, 41, 83] }, type := 50, pos := "law.go:238", after := #[{ on := 0, ground := Go.Ground.data }, { on := 1, ground := Go.Ground.data }, { on := 0, ground := Go.Ground.chain }], guard := none }, { dst := some 43, op := Go.Op.move (Go.Operand.tmp 46), type := 50, pos := "law.go:238", after := #[{ on := 2, ground := Go.Ground.data }], guard := none }, { dst := some 47, op := Go.Op.extract (Go.Operand.tmp 43) 0, type := 41, pos := "law.go:238", after := #[{ on := 3, ground := Go.Ground.data }], guard := none }, { dst := some 48, op := Go.Op.extract (Go.Operand.tmp 43) 1, type := 46, pos := "law.go:238", after := #[{ on := 3, ground := Go.Ground.data }, { on := 8, ground := Go.Ground.gcOnly Go.Departure.lateStores }], guard := none }, { dst := some 10, op := Go.Op.alloc 41, type := 0, pos := "law.go:238", after := #[], guard := none }, { dst := some 11, op := Go.Op.alloc 46, type := 0, pos := "law.go:238", after := #[], guard := none }, { dst := none, op := Go.Op.store 41 (Go.Operand.tmp 10) (Go.Operand.tmp 47), type := 0, pos := "law.go:238", after := #[{ on := 6, ground := Go.Ground.data }, { on := 4, ground := Go.Ground.data }, { on := 2, ground := Go.Ground.chain }, { on := 0, ground := Go.Ground.phase }, { on := 1, ground := Go.Ground.phase }, { on := 2, ground := Go.Ground.phase }, { on := 3, ground := Go.Ground.phase }, { on := 4, ground := Go.Ground.phase }, { on := 5, ground := Go.Ground.textOnly Go.Departure.lateStores }, { on := 6, ground := Go.Ground.phase }, { on := 7, ground := Go.Ground.phase }], guard := none }, { dst := none, op := Go.Op.store 46 (Go.Operand.tmp 11) (Go.Operand.tmp 48), type := 0, pos := "law.go:238", after := #[{ on := 7, ground := Go.Ground.data }, { on := 5, ground := Go.Ground.data }, { on := 8, ground := Go.Ground.chain }, { on := 0, ground := Go.Ground.phase }, { on := 1, ground := Go.Ground.phase }, { on := 2, ground := Go.Ground.phase }, { on := 3, ground := Go.Ground.phase }, { on := 4, ground := Go.Ground.phase }, { on := 5, ground := Go.Ground.phase }, { on := 6, ground := Go.Ground.phase }, { on := 7, ground := Go.Ground.phase }, { on := 8, ground := Go.Ground.phase }], guard := none }] true) (Exit.then Kz (bodyPost Tryz.prog Tryz.f9 Pz)) ⟨#[c0, c1, c2, c3, c4, c5, c6, .pointer (some ⟨sb, 0, none⟩), c8, c9, c10, c11, c12, c13, c14, c15, c16, c17, c18, c19, c20, c21, c22, c23, c24, c25, c26, c27, c28, c29, c30, c31, c32, c33, c34, c35, c36, c37, c38, c39, c40, c41, c42, c43, c44, c45, c46, c47, c48, c49, c50, c51, c52, c53, c54, c55, c56, c57, c58, c59, c60, c61, c62, c63, c64, c65, c66, c67, c68, c69, c70, c71, c72, c73, c74, c75, c76, c77, c78, c79, c80, c81, c82, c83, c84, c85, c86, c87, c88, c89, c90, c91, c92, c93, c94, c95, c96, c97, c98, c99, c100, c101, c102, c103, c104, c105, c106, c107, c108, c109, c110, c111, c112, c113, c114, c115, c116, c117, c118, c119, c120, c121, c122, c123, c124, c125, c126, c127, c128, c129, c130, c131, c132, c133, c134, c135, c136, c137, c138, c139, c140, c141, c142, c143, c144, c145, c146, c147, c148, c149, c150, c151, c152, c153, c154, c155, c156, c157, c158, c159, c160, c161, c162, c163, c164, c165, c166, c167, c168, c169, c170, c171, c172, c173, c174, c175, c176, c177, c178, c179, c180], []⟩ wc := by
 have HQ := Lib.hid hQ
 have HS := Lib.hid hs
 have O0 := Lib.hid (Below.refl wc.heap.size wc).drew
 clear hQ hs
 refine wp_region_held_drew (S := (fun w' => (∀ o, w'.cell? ⟨sb, o, none⟩ = #[.int .u8 s.r.a, .int .u8 s.r.f, .int .u8 s.r.b, .int .u8 s.r.c, .int .u8 s.r.d, .int .u8 s.r.e, .int .u8 s.r.h, .int .u8 s.r.l, .int .u16 s.r.sp, .int .u16 s.r.pc, .bool s.ime, .bool s.soon, .bool s.halt, .bool s.stop][o]?) ∧ True)) (by kernel_rfl) ⟨(HS.out.below O0.out).2.1, trivial⟩ (fun hHeld => ?_)
 generalize World.drew wc = u0 at hHeld O0 ⊢
 refine tk 1 rfl (v := ?v1) ?y1 ?z1
 case y1 => (intro w hSw; (try dsimp only at hSw); go_simp) <;> with_reducible rfl
 try simp only [Act.put, qqA, qqB, qqC]
 refine wpAnyH_ready (rs := [0, 6, 7]) (by kernel_rfl) (by simp) ?_
 refine (ac rfl (fun K hK => ?_) (ac rfl (fun K hK => ?_) (ac rfl (fun K hK => ?_) AllReadyH.nil)))
 ·skip
  go_simp
  with_reducible refine (new_c u0).mono ?_
  rintro e w' ⟨rfl, rfl⟩
  have q := own1 u0 (.cells Tryz.zeroCells81 81)
  have O1 := Lib.hid (via O0.out q)
  clear q
  refine hK.out _ _ ?s2 (fun hNew => ?r2)
  case s2 => exact ⟨(HS.out.below O1.out).2.1, trivial⟩
  clear hK K hHeld
  have hHeld := hNew
  clear hNew
  generalize u0.alloc (.cells Tryz.zeroCells81 81) = u1 at hHeld O1 ⊢
  generalize u0.heap.size = tb at ⊢
  refine wpAnyH_ready (rs := [2, 6, 7]) (by kernel_rfl) (by simp) ?_
  refine (ac rfl (fun K hK => ?_) (ac rfl (fun K hK => ?_) (ac rfl (fun K hK => ?_) AllReadyH.nil)))
  ·skip
   go_simp
   with_reducible refine (Step_nb s _ _).mono ?_
   rintro e u2 ⟨rfl, q⟩
   have O2 := Lib.hid (via O1.out q)
   clear q
   refine hK.out _ _ ?s3 (fun hNew => ?r3)
   case s3 => exact ⟨(HS.out.below O2.out).2.1, trivial⟩
   clear hK K hHeld
   have hHeld := hNew
   clear hNew
   refine tk 3 rfl (v := ?v4) ?y4 ?z4
   case y4 => (intro w hSw; (try dsimp only at hSw); go_simp) <;> with_reducible rfl
   try simp only [Act.put, qqA, qqB, qqC]
   refine tk 4 rfl (v := ?v5) ?y5 ?z5
   case y5 => (intro w hSw; (try dsimp only at hSw); go_simp) <;> with_reducible rfl
   try simp only [Act.put, qqA, qqB, qqC]
   refine tk 5 rfl (v := ?v6) ?y6 ?z6
   case y6 => (intro w hSw; (try dsimp only at hSw); go_simp) <;> with_reducible rfl
   try simp only [Act.put, qqA, qqB, qqC]
   refine wpAnyH_ready (rs := [6, 7]) (by kernel_rfl) (by simp) ?_
   refine (ac rfl (fun K hK => ?_) (ac rfl (fun K hK => ?_) AllReadyH.nil))
   ·skip
    go_simp
    have q := own1 u2 (.cells #[.int .u8 0, .int .u8 0, .int .u8 0, .int .u8 0, .int .u8 0, .int .u8 0, .int .u8 0, .int .u8 0, .int .u16 0, .int .u16 0, .bool false, .bool false, .bool false, .bool false] 41)
    have O3 := Lib.hid (via O2.out q)
    have P3 := Lib.hid (Has.new u2 #[.int .u8 0, .int .u8 0, .int .u8 0, .int .u8 0, .int .u8 0, .int .u8 0, .int .u8 0, .int .u8 0, .int .u16 0, .int .u16 0, .bool false, .bool false, .bool false, .bool false] 41)
    have LP := Lib.hid O2.out.size
    clear q
    refine hK.out _ _ ?s7 (fun hNew => ?r7)
    case s7 => exact ⟨(HS.out.below O3.out).2.1, trivial⟩
    clear hK K hHeld
    have hHeld := hNew
    clear hNew
    generalize u2.alloc (.cells #[.int .u8 0, .int .u8 0, .int .u8 0, .int .u8 0, .int .u8 0, .int .u8 0, .int .u8 0, .int .u8 0, .int .u16 0, .int .u16 0, .bool false, .bool false, .bool false, .bool false] 41) = u3 at hHeld O3 P3 ⊢
    generalize u2.heap.size = pb at P3 LP ⊢
    refine wpAnyH_ready (rs := [7]) (by kernel_rfl) (by simp) ?_
    refine (ac rfl (fun K hK => ?_) AllReadyH.nil)
    ·skip
     go_simp
     have q := own1 u3 (.cells #[.int .i64 0, .int .i64 0, .int .u16 0, .int .i64 0, .int .i64 0, .int .i64 0, .int .i64 0, .int .u16 0, .bool false] 46)
     have O4 := Lib.hid (via O3.out q)
     have P4 := Lib.hid (P3.out.below q)
     have D4 := Lib.hid (Has.new u3 #[.int .i64 0, .int .i64 0, .int .u16 0, .int .i64 0, .int .i64 0, .int .i64 0, .int .i64 0, .int .u16 0, .bool false] 46)
     have LD := Lib.hid O3.out.size
     have DP := Lib.hid (show pb ≠ u3.heap.size by have := P3.out.1; omega)
     clear q
     refine hK.out _ _ ?s8 (fun hNew => ?r8)
     case s8 => exact ⟨(HS.out.below O4.out).2.1, trivial⟩
     clear hK K hHeld
     have hHeld := hNew
     clear hNew
     generalize u3.alloc (.cells #[.int .i64 0, .int .i64 0, .int .u16 0, .int .i64 0, .int .i64 0, .int .i64 0, .int .i64 0, .int .u16 0, .bool false] 46) = u4 at hHeld O4 P4 D4 ⊢
     generalize u3.heap.size = db at D4 LD DP ⊢
     refine wpAnyH_ready (rs := [8]) (by kernel_rfl) (by simp) ?_
     refine (ac rfl (fun K hK => ?_) AllReadyH.nil)
     ·skip
      have hcc := P4.out.2.1
      have hfz := P4.out.2.2
      go_simp
      clear hcc hfz
      have o1 : Off (fun k => k = pb) u4 (World.setCell (World.setCell (World.setCell (World.setCell (World.setCell (World.setCell (World.setCell (World.setCell (World.setCell (World.setCell (World.setCell (World.setCell (World.setCell (World.setCell u4 ⟨pb, 0, none⟩ (.int .u8 s.r.a)) ⟨pb, 1, none⟩ (.int .u8 s.r.f)) ⟨pb, 2, none⟩ (.int .u8 s.r.b)) ⟨pb, 3, none⟩ (.int .u8 s.r.c)) ⟨pb, 4, none⟩ (.int .u8 s.r.d)) ⟨pb, 5, none⟩ (.int .u8 s.r.e)) ⟨pb, 6, none⟩ (.int .u8 s.r.h)) ⟨pb, 7, none⟩ (.int .u8 s.r.l)) ⟨pb, 8, none⟩ (.int .u16 s.r.sp)) ⟨pb, 9, none⟩ (.int .u16 s.r.pc)) ⟨pb, 10, none⟩ (.bool s.ime)) ⟨pb, 11, none⟩ (.bool s.soon)) ⟨pb, 12, none⟩ (.bool s.halt)) ⟨pb, 13, none⟩ (.bool s.stop)) := Off.put14 u4 pb s
      have P5 := Lib.hid (show Has (World.setCell (World.setCell (World.setCell (World.setCell (World.setCell (World.setCell (World.setCell (World.setCell (World.setCell (World.setCell (World.setCell (World.setCell (World.setCell (World.setCell u4 ⟨pb, 0, none⟩ (.int .u8 s.r.a)) ⟨pb, 1, none⟩ (.int .u8 s.r.f)) ⟨pb, 2, none⟩ (.int .u8 s.r.b)) ⟨pb, 3, none⟩ (.int .u8 s.r.c)) ⟨pb, 4, none⟩ (.int .u8 s.r.d)) ⟨pb, 5, none⟩ (.int .u8 s.r.e)) ⟨pb, 6, none⟩ (.int .u8 s.r.h)) ⟨pb, 7, none⟩ (.int .u8 s.r.l)) ⟨pb, 8, none⟩ (.int .u16 s.r.sp)) ⟨pb, 9, none⟩ (.int .u16 s.r.pc)) ⟨pb, 10, none⟩ (.bool s.ime)) ⟨pb, 11, none⟩ (.bool s.soon)) ⟨pb, 12, none⟩ (.bool s.halt)) ⟨pb, 13, none⟩ (.bool s.stop)) pb #[.int .u8 s.r.a, .int .u8 s.r.f, .int .u8 s.r.b, .int .u8 s.r.c, .int .u8 s.r.d, .int .u8 s.r.e, .int .u8 s.r.h, .int .u8 s.r.l, .int .u16 s.r.sp, .int .u16 s.r.pc, .bool s.ime, .bool s.soon, .bool s.halt, .bool s.stop] from Has.put14 (s0 := ⟨⟨0, 0, 0, 0, 0, 0, 0, 0, 0, 0⟩, false, false, false, false⟩) P4.out s)
      have D5 := Lib.hid (D4.out.off o1 (fun e => DP.out e.symm))
      have O5 := Lib.hid (O4.out.trans (o1.below (fun k hk e => by have := LP.out; have e' : k = pb := e; omega) O4.out.size))
      clear o1
      refine hK.out _ _ ?s9 (fun hNew => ?r9)
      case s9 => exact ⟨(HS.out.below O5.out).2.1, trivial⟩
      clear hK K hHeld
      have hHeld := hNew
      clear hNew
      generalize (World.setCell (World.setCell (World.setCell (World.setCell (World.setCell (World.setCell (World.setCell (World.setCell (World.setCell (World.setCell (World.setCell (World.setCell (World.setCell (World.setCell u4 ⟨pb, 0, none⟩ (.int .u8 s.r.a)) ⟨pb, 1, none⟩ (.int .u8 s.r.f)) ⟨pb, 2, none⟩ (.int .u8 s.r.b)) ⟨pb, 3, none⟩ (.int .u8 s.r.c)) ⟨pb, 4, none⟩ (.int .u8 s.r.d)) ⟨pb, 5, none⟩ (.int .u8 s.r.e)) ⟨pb, 6, none⟩ (.int .u8 s.r.h)) ⟨pb, 7, none⟩ (.int .u8 s.r.l)) ⟨pb, 8, none⟩ (.int .u16 s.r.sp)) ⟨pb, 9, none⟩ (.int .u16 s.r.pc)) ⟨pb, 10, none⟩ (.bool s.ime)) ⟨pb, 11, none⟩ (.bool s.soon)) ⟨pb, 12, none⟩ (.bool s.halt)) ⟨pb, 13, none⟩ (.bool s.stop)) = u5 at hHeld P5 D5 O5 ⊢
      refine wpAnyH_ready (rs := [9]) (by kernel_rfl) (by simp) ?_
      refine (ac rfl (fun K hK => ?_) AllReadyH.nil)
      ·skip
       have hcc := D5.out.2.1
       have hfz := D5.out.2.2
       go_simp
       clear hcc hfz
       have o1 : Off (fun k => k = db) u5 (World.setCell (World.setCell (World.setCell (World.setCell (World.setCell (World.setCell (World.setCell (World.setCell (World.setCell u5 ⟨db, 0, none⟩ (.int .i64 0)) ⟨db, 1, none⟩ (.int .i64 0)) ⟨db, 2, none⟩ (.int .u16 s.r.pc)) ⟨db, 3, none⟩ (.int .i64 0)) ⟨db, 4, none⟩ (.int .i64 0)) ⟨db, 5, none⟩ (.int .i64 0)) ⟨db, 6, none⟩ (.int .i64 0)) ⟨db, 7, none⟩ (.int .u16 0)) ⟨db, 8, none⟩ (.bool false)) := Off.put9 u5 db (⟨0, 0, s.r.pc, noOp, false⟩ : DidV)
       have D6 := Lib.hid (show Has (World.setCell (World.setCell (World.setCell (World.setCell (World.setCell (World.setCell (World.setCell (World.setCell (World.setCell u5 ⟨db, 0, none⟩ (.int .i64 0)) ⟨db, 1, none⟩ (.int .i64 0)) ⟨db, 2, none⟩ (.int .u16 s.r.pc)) ⟨db, 3, none⟩ (.int .i64 0)) ⟨db, 4, none⟩ (.int .i64 0)) ⟨db, 5, none⟩ (.int .i64 0)) ⟨db, 6, none⟩ (.int .i64 0)) ⟨db, 7, none⟩ (.int .u16 0)) ⟨db, 8, none⟩ (.bool false)) db #[.int .i64 0, .int .i64 0, .int .u16 s.r.pc, .int .i64 0, .int .i64 0, .int .i64 0, .int .i64 0, .int .u16 0, .bool false] from D5.out.put9 (⟨0, 0, s.r.pc, noOp, false⟩ : DidV))
       have P6 := Lib.hid (P5.out.off o1 (fun e => DP.out e))
       have O6 := Lib.hid (O5.out.trans (o1.below (fun k hk e => by have := LD.out; have e' : k = db := e; omega) O5.out.size))
       clear o1
       refine hK.out _ _ ?s10 (fun hNew => ?r10)
       case s10 => exact ⟨(HS.out.below O6.out).2.1, trivial⟩
       clear hK K hHeld
       have hHeld := hNew
       clear hNew
       generalize (World.setCell (World.setCell (World.setCell (World.setCell (World.setCell (World.setCell (World.setCell (World.setCell (World.setCell u5 ⟨db, 0, none⟩ (.int .i64 0)) ⟨db, 1, none⟩ (.int .i64 0)) ⟨db, 2, none⟩ (.int .u16 s.r.pc)) ⟨db, 3, none⟩ (.int .i64 0)) ⟨db, 4, none⟩ (.int .i64 0)) ⟨db, 5, none⟩ (.int .i64 0)) ⟨db, 6, none⟩ (.int .i64 0)) ⟨db, 7, none⟩ (.int .u16 0)) ⟨db, 8, none⟩ (.bool false)) = u6 at hHeld P6 D6 O6 ⊢
       refine wpAnyH_done (by kernel_rfl) ?_ _
       clear hHeld
       exact HQ.out pb db _ _ _ _ _ _ _ ⟨O6.out, P6.out, D6.out, LP.out, LD.out, DP.out⟩
   ·skip
    go_simp
    have q := own1 u2 (.cells #[.int .i64 0, .int .i64 0, .int .u16 0, .int .i64 0, .int .i64 0, .int .i64 0, .int .i64 0, .int .u16 0, .bool false] 46)
    have O3 := Lib.hid (via O2.out q)
    have D3 := Lib.hid (Has.new u2 #[.int .i64 0, .int .i64 0, .int .u16 0, .int .i64 0, .int .i64 0, .int .i64 0, .int .i64 0, .int .u16 0, .bool false] 46)
    have LD := Lib.hid O2.out.size
    clear q
    refine hK.out _ _ ?s11 (fun hNew => ?r11)
    case s11 => exact ⟨(HS.out.below O3.out).2.1, trivial⟩
    clear hK K hHeld
    have hHeld := hNew
    clear hNew
    generalize u2.alloc (.cells #[.int .i64 0, .int .i64 0, .int .u16 0, .int .i64 0, .int .i64 0, .int .i64 0, .int .i64 0, .int .u16 0, .bool false] 46) = u3 at hHeld O3 D3 ⊢
    generalize u2.heap.size = db at D3 LD ⊢
    refine wpAnyH_ready (rs := [6]) (by kernel_rfl) (by simp) ?_
    refine (ac rfl (fun K hK => ?_) AllReadyH.nil)
    ·skip
     go_simp
     have q := own1 u3 (.cells #[.int .u8 0, .int .u8 0, .int .u8 0, .int .u8 0, .int .u8 0, .int .u8 0, .int .u8 0, .int .u8 0, .int .u16 0, .int .u16 0, .bool false, .bool false, .bool false, .bool false] 41)
     have O4 := Lib.hid (via O3.out q)
     have D4 := Lib.hid (D3.out.below q)
     have P4 := Lib.hid (Has.new u3 #[.int .u8 0, .int .u8 0, .int .u8 0, .int .u8 0, .int .u8 0, .int .u8 0, .int .u8 0, .int .u8 0, .int .u16 0, .int .u16 0, .bool false, .bool false, .bool false, .bool false] 41)
     have LP := Lib.hid O3.out.size
     have DP := Lib.hid (show db ≠ u3.heap.size by have := D3.out.1; omega)
     clear q
     refine hK.out _ _ ?s12 (fun hNew => ?r12)
     case s12 => exact ⟨(HS.out.below O4.out).2.1, trivial⟩
     clear hK K hHeld
     have hHeld := hNew
     clear hNew
     generalize u3.alloc (.cells #[.int .u8 0, .int .u8 0, .int .u8 0, .int .u8 0, .int .u8 0, .int .u8 0, .int .u8 0, .int .u8 0, .int .u16 0, .int .u16 0, .bool false, .bool false, .bool false, .bool false] 41) = u4 at hHeld O4 D4 P4 ⊢
     generalize u3.heap.size = pb at P4 LP DP ⊢
     refine wpAnyH_ready (rs := [8]) (by kernel_rfl) (by simp) ?_
     refine (ac rfl (fun K hK => ?_) AllReadyH.nil)
     ·skip
      have hcc := P4.out.2.1
      have hfz := P4.out.2.2
      go_simp
      clear hcc hfz
      have o1 : Off (fun k => k = pb) u4 (World.setCell (World.setCell (World.setCell (World.setCell (World.setCell (World.setCell (World.setCell (World.setCell (World.setCell (World.setCell (World.setCell (World.setCell (World.setCell (World.setCell u4 ⟨pb, 0, none⟩ (.int .u8 s.r.a)) ⟨pb, 1, none⟩ (.int .u8 s.r.f)) ⟨pb, 2, none⟩ (.int .u8 s.r.b)) ⟨pb, 3, none⟩ (.int .u8 s.r.c)) ⟨pb, 4, none⟩ (.int .u8 s.r.d)) ⟨pb, 5, none⟩ (.int .u8 s.r.e)) ⟨pb, 6, none⟩ (.int .u8 s.r.h)) ⟨pb, 7, none⟩ (.int .u8 s.r.l)) ⟨pb, 8, none⟩ (.int .u16 s.r.sp)) ⟨pb, 9, none⟩ (.int .u16 s.r.pc)) ⟨pb, 10, none⟩ (.bool s.ime)) ⟨pb, 11, none⟩ (.bool s.soon)) ⟨pb, 12, none⟩ (.bool s.halt)) ⟨pb, 13, none⟩ (.bool s.stop)) := Off.put14 u4 pb s
      have P5 := Lib.hid (show Has (World.setCell (World.setCell (World.setCell (World.setCell (World.setCell (World.setCell (World.setCell (World.setCell (World.setCell (World.setCell (World.setCell (World.setCell (World.setCell (World.setCell u4 ⟨pb, 0, none⟩ (.int .u8 s.r.a)) ⟨pb, 1, none⟩ (.int .u8 s.r.f)) ⟨pb, 2, none⟩ (.int .u8 s.r.b)) ⟨pb, 3, none⟩ (.int .u8 s.r.c)) ⟨pb, 4, none⟩ (.int .u8 s.r.d)) ⟨pb, 5, none⟩ (.int .u8 s.r.e)) ⟨pb, 6, none⟩ (.int .u8 s.r.h)) ⟨pb, 7, none⟩ (.int .u8 s.r.l)) ⟨pb, 8, none⟩ (.int .u16 s.r.sp)) ⟨pb, 9, none⟩ (.int .u16 s.r.pc)) ⟨pb, 10, none⟩ (.bool s.ime)) ⟨pb, 11, none⟩ (.bool s.soon)) ⟨pb, 12, none⟩ (.bool s.halt)) ⟨pb, 13, none⟩ (.bool s.stop)) pb #[.int .u8 s.r.a, .int .u8 s.r.f, .int .u8 s.r.b, .int .u8 s.r.c, .int .u8 s.r.d, .int .u8 s.r.e, .int .u8 s.r.h, .int .u8 s.r.l, .int .u16 s.r.sp, .int .u16 s.r.pc, .bool s.ime, .bool s.soon, .bool s.halt, .bool s.stop] from Has.put14 (s0 := ⟨⟨0, 0, 0, 0, 0, 0, 0, 0, 0, 0⟩, false, false, false, false⟩) P4.out s)
      have D5 := Lib.hid (D4.out.off o1 (fun e => DP.out e))
      have O5 := Lib.hid (O4.out.trans (o1.below (fun k hk e => by have := LP.out; have e' : k = pb := e; omega) O4.out.size))
      clear o1
      refine hK.out _ _ ?s13 (fun hNew => ?r13)
      case s13 => exact ⟨(HS.out.below O5.out).2.1, trivial⟩
      clear hK K hHeld
      have hHeld := hNew
      clear hNew
      generalize (World.setCell (World.setCell (World.setCell (World.setCell (World.setCell (World.setCell (World.setCell (World.setCell (World.setCell (World.setCell (World.setCell (World.setCell (World.setCell (World.setCell u4 ⟨pb, 0, none⟩ (.int .u8 s.r.a)) ⟨pb, 1, none⟩ (.int .u8 s.r.f)) ⟨pb, 2, none⟩ (.int .u8 s.r.b)) ⟨pb, 3, none⟩ (.int .u8 s.r.c)) ⟨pb, 4, none⟩ (.int .u8 s.r.d)) ⟨pb, 5, none⟩ (.int .u8 s.r.e)) ⟨pb, 6, none⟩ (.int .u8 s.r.h)) ⟨pb, 7, none⟩ (.int .u8 s.r.l)) ⟨pb, 8, none⟩ (.int .u16 s.r.sp)) ⟨pb, 9, none⟩ (.int .u16 s.r.pc)) ⟨pb, 10, none⟩ (.bool s.ime)) ⟨pb, 11, none⟩ (.bool s.soon)) ⟨pb, 12, none⟩ (.bool s.halt)) ⟨pb, 13, none⟩ (.bool s.stop)) = u5 at hHeld P5 D5 O5 ⊢
      refine wpAnyH_ready (rs := [9]) (by kernel_rfl) (by simp) ?_
      refine (ac rfl (fun K hK => ?_) AllReadyH.nil)
      ·skip
       have hcc := D5.out.2.1
       have hfz := D5.out.2.2
       go_simp
       clear hcc hfz
       have o1 : Off (fun k => k = db) u5 (World.setCell (World.setCell (World.setCell (World.setCell (World.setCell (World.setCell (World.setCell (World.setCell (World.setCell u5 ⟨db, 0, none⟩ (.int .i64 0)) ⟨db, 1, none⟩ (.int .i64 0)) ⟨db, 2, none⟩ (.int .u16 s.r.pc)) ⟨db, 3, none⟩ (.int .i64 0)) ⟨db, 4, none⟩ (.int .i64 0)) ⟨db, 5, none⟩ (.int .i64 0)) ⟨db, 6, none⟩ (.int .i64 0)) ⟨db, 7, none⟩ (.int .u16 0)) ⟨db, 8, none⟩ (.bool false)) := Off.put9 u5 db (⟨0, 0, s.r.pc, noOp, false⟩ : DidV)
       have D6 := Lib.hid (show Has (World.setCell (World.setCell (World.setCell (World.setCell (World.setCell (World.setCell (World.setCell (World.setCell (World.setCell u5 ⟨db, 0, none⟩ (.int .i64 0)) ⟨db, 1, none⟩ (.int .i64 0)) ⟨db, 2, none⟩ (.int .u16 s.r.pc)) ⟨db, 3, none⟩ (.int .i64 0)) ⟨db, 4, none⟩ (.int .i64 0)) ⟨db, 5, none⟩ (.int .i64 0)) ⟨db, 6, none⟩ (.int .i64 0)) ⟨db, 7, none⟩ (.int .u16 0)) ⟨db, 8, none⟩ (.bool false)) db #[.int .i64 0, .int .i64 0, .int .u16 s.r.pc, .int .i64 0, .int .i64 0, .int .i64 0, .int .i64 0, .int .u16 0, .bool false] from D5.out.put9 (⟨0, 0, s.r.pc, noOp, false⟩ : DidV))
       have P6 := Lib.hid (P5.out.off o1 (fun e => DP.out e.symm))
       have O6 := Lib.hid (O5.out.trans (o1.below (fun k hk e => by have := LD.out; have e' : k = db := e; omega) O5.out.size))
       clear o1
       refine hK.out _ _ ?s14 (fun hNew => ?r14)
       case s14 => exact ⟨(HS.out.below O6.out).2.1, trivial⟩
       clear hK K hHeld
       have hHeld := hNew
       clear hNew
       generalize (World.setCell (World.setCell (World.setCell (World.setCell (World.setCell (World.setCell (World.setCell (World.setCell (World.setCell u5 ⟨db, 0, none⟩ (.int .i64 0)) ⟨db, 1, none⟩ (.int .i64 0)) ⟨db, 2, none⟩ (.int .u16 s.r.pc)) ⟨db, 3, none⟩ (.int .i64 0)) ⟨db, 4, none⟩ (.int .i64 0)) ⟨db, 5, none⟩ (.int .i64 0)) ⟨db, 6, none⟩ (.int .i64 0)) ⟨db, 7, none⟩ (.int .u16 0)) ⟨db, 8, none⟩ (.bool false)) = u6 at hHeld P6 D6 O6 ⊢
       refine wpAnyH_done (by kernel_rfl) ?_ _
       clear hHeld
       exact HQ.out pb db _ _ _ _ _ _ _ ⟨O6.out, P6.out, D6.out, LP.out, LD.out, DP.out.symm⟩
  ·skip
   go_simp
   have q := own1 u1 (.cells #[.int .u8 0, .int .u8 0, .int .u8 0, .int .u8 0, .int .u8 0, .int .u8 0, .int .u8 0, .int .u8 0, .int .u16 0, .int .u16 0, .bool false, .bool false, .bool false, .bool false] 41)
   have O2 := Lib.hid (via O1.out q)
   have P2 := Lib.hid (Has.new u1 #[.int .u8 0, .int .u8 0, .int .u8 0, .int .u8 0, .int .u8 0, .int .u8 0, .int .u8 0, .int .u8 0, .int .u16 0, .int .u16 0, .bool false, .bool false, .bool false, .bool false] 41)
   have LP := Lib.hid O1.out.size
   clear q
   refine hK.out _ _ ?s15 (fun hNew => ?r15)
   case s15 => exact ⟨(HS.out.below O2.out).2.1, trivial⟩
   clear hK K hHeld
   have hHeld := hNew
   clear hNew
   generalize u1.alloc (.cells #[.int .u8 0, .int .u8 0, .int .u8 0, .int .u8 0, .int .u8 0, .int .u8 0, .int .u8 0, .int .u8 0, .int .u16 0, .int .u16 0, .bool false, .bool false, .bool false, .bool false] 41) = u2 at hHeld O2 P2 ⊢
   generalize u1.heap.size = pb at P2 LP ⊢
   refine wpAnyH_ready (rs := [2, 7]) (by kernel_rfl) (by simp) ?_
   refine (ac rfl (fun K hK => ?_) (ac rfl (fun K hK => ?_) AllReadyH.nil))
   ·skip
    go_simp
    with_reducible refine (Step_nb s _ _).mono ?_
    rintro e u3 ⟨rfl, q⟩
    have O3 := Lib.hid (via O2.out q)
    have P3 := Lib.hid (P2.out.below q)
    clear q
    refine hK.out _ _ ?s16 (fun hNew => ?r16)
    case s16 => exact ⟨(HS.out.below O3.out).2.1, trivial⟩
    clear hK K hHeld
    have hHeld := hNew
    clear hNew
    refine tk 3 rfl (v := ?v17) ?y17 ?z17
    case y17 => (intro w hSw; (try dsimp only at hSw); go_simp) <;> with_reducible rfl
    try simp only [Act.put, qqA, qqB, qqC]
    refine tk 4 rfl (v := ?v18) ?y18 ?z18
    case y18 => (intro w hSw; (try dsimp only at hSw); go_simp) <;> with_reducible rfl
    try simp only [Act.put, qqA, qqB, qqC]
    refine tk 5 rfl (v := ?v19) ?y19 ?z19
    case y19 => (intro w hSw; (try dsimp only at hSw); go_simp) <;> with_reducible rfl
    try simp only [Act.put, qqA, qqB, qqC]
    refine wpAnyH_ready (rs := [7]) (by kernel_rfl) (by simp) ?_
    refine (ac rfl (fun K hK => ?_) AllReadyH.nil)
    ·skip
     go_simp
     have q := own1 u3 (.cells #[.int .i64 0, .int .i64 0, .int .u16 0, .int .i64 0, .int .i64 0, .int .i64 0, .int .i64 0, .int .u16 0, .bool false] 46)
     have O4 := Lib.hid (via O3.out q)
     have P4 := Lib.hid (P3.out.below q)
     have D4 := Lib.hid (Has.new u3 #[.int .i64 0, .int .i64 0, .int .u16 0, .int .i64 0, .int .i64 0, .int .i64 0, .int .i64 0, .int .u16 0, .bool false] 46)
     have LD := Lib.hid O3.out.size
     have DP := Lib.hid (show pb ≠ u3.heap.size by have := P3.out.1; omega)
     clear q
     refine hK.out _ _ ?s20 (fun hNew => ?r20)
     case s20 => exact ⟨(HS.out.below O4.out).2.1, trivial⟩
     clear hK K hHeld
     have hHeld := hNew
     clear hNew
     generalize u3.alloc (.cells #[.int .i64 0, .int .i64 0, .int .u16 0, .int .i64 0, .int .i64 0, .int .i64 0, .int .i64 0, .int .u16 0, .bool false] 46) = u4 at hHeld O4 P4 D4 ⊢
     generalize u3.heap.size = db at D4 LD DP ⊢
     refine wpAnyH_ready (rs := [8]) (by kernel_rfl) (by simp) ?_
     refine (ac rfl (fun K hK => ?_) AllReadyH.nil)
     ·skip
      have hcc := P4.out.2.1
      have hfz := P4.out.2.2
      go_simp
      clear hcc hfz
      have o1 : Off (fun k => k = pb) u4 (World.setCell (World.setCell (World.setCell (World.setCell (World.setCell (World.setCell (World.setCell (World.setCell (World.setCell (World.setCell (World.setCell (World.setCell (World.setCell (World.setCell u4 ⟨pb, 0, none⟩ (.int .u8 s.r.a)) ⟨pb, 1, none⟩ (.int .u8 s.r.f)) ⟨pb, 2, none⟩ (.int .u8 s.r.b)) ⟨pb, 3, none⟩ (.int .u8 s.r.c)) ⟨pb, 4, none⟩ (.int .u8 s.r.d)) ⟨pb, 5, none⟩ (.int .u8 s.r.e)) ⟨pb, 6, none⟩ (.int .u8 s.r.h)) ⟨pb, 7, none⟩ (.int .u8 s.r.l)) ⟨pb, 8, none⟩ (.int .u16 s.r.sp)) ⟨pb, 9, none⟩ (.int .u16 s.r.pc)) ⟨pb, 10, none⟩ (.bool s.ime)) ⟨pb, 11, none⟩ (.bool s.soon)) ⟨pb, 12, none⟩ (.bool s.halt)) ⟨pb, 13, none⟩ (.bool s.stop)) := Off.put14 u4 pb s
      have P5 := Lib.hid (show Has (World.setCell (World.setCell (World.setCell (World.setCell (World.setCell (World.setCell (World.setCell (World.setCell (World.setCell (World.setCell (World.setCell (World.setCell (World.setCell (World.setCell u4 ⟨pb, 0, none⟩ (.int .u8 s.r.a)) ⟨pb, 1, none⟩ (.int .u8 s.r.f)) ⟨pb, 2, none⟩ (.int .u8 s.r.b)) ⟨pb, 3, none⟩ (.int .u8 s.r.c)) ⟨pb, 4, none⟩ (.int .u8 s.r.d)) ⟨pb, 5, none⟩ (.int .u8 s.r.e)) ⟨pb, 6, none⟩ (.int .u8 s.r.h)) ⟨pb, 7, none⟩ (.int .u8 s.r.l)) ⟨pb, 8, none⟩ (.int .u16 s.r.sp)) ⟨pb, 9, none⟩ (.int .u16 s.r.pc)) ⟨pb, 10, none⟩ (.bool s.ime)) ⟨pb, 11, none⟩ (.bool s.soon)) ⟨pb, 12, none⟩ (.bool s.halt)) ⟨pb, 13, none⟩ (.bool s.stop)) pb #[.int .u8 s.r.a, .int .u8 s.r.f, .int .u8 s.r.b, .int .u8 s.r.c, .int .u8 s.r.d, .int .u8 s.r.e, .int .u8 s.r.h, .int .u8 s.r.l, .int .u16 s.r.sp, .int .u16 s.r.pc, .bool s.ime, .bool s.soon, .bool s.halt, .bool s.stop] from Has.put14 (s0 := ⟨⟨0, 0, 0, 0, 0, 0, 0, 0, 0, 0⟩, false, false, false, false⟩) P4.out s)
      have D5 := Lib.hid (D4.out.off o1 (fun e => DP.out e.symm))
      have O5 := Lib.hid (O4.out.trans (o1.below (fun k hk e => by have := LP.out; have e' : k = pb := e; omega) O4.out.size))
      clear o1
      refine hK.out _ _ ?s21 (fun hNew => ?r21)
      case s21 => exact ⟨(HS.out.below O5.out).2.1, trivial⟩
      clear hK K hHeld
      have hHeld := hNew
      clear hNew
      generalize (World.setCell (World.setCell (World.setCell (World.setCell (World.setCell (World.setCell (World.setCell (World.setCell (World.setCell (World.setCell (World.setCell (World.setCell (World.setCell (World.setCell u4 ⟨pb, 0, none⟩ (.int .u8 s.r.a)) ⟨pb, 1, none⟩ (.int .u8 s.r.f)) ⟨pb, 2, none⟩ (.int .u8 s.r.b)) ⟨pb, 3, none⟩ (.int .u8 s.r.c)) ⟨pb, 4, none⟩ (.int .u8 s.r.d)) ⟨pb, 5, none⟩ (.int .u8 s.r.e)) ⟨pb, 6, none⟩ (.int .u8 s.r.h)) ⟨pb, 7, none⟩ (.int .u8 s.r.l)) ⟨pb, 8, none⟩ (.int .u16 s.r.sp)) ⟨pb, 9, none⟩ (.int .u16 s.r.pc)) ⟨pb, 10, none⟩ (.bool s.ime)) ⟨pb, 11, none⟩ (.bool s.soon)) ⟨pb, 12, none⟩ (.bool s.halt)) ⟨pb, 13, none⟩ (.bool s.stop)) = u5 at hHeld P5 D5 O5 ⊢
      refine wpAnyH_ready (rs := [9]) (by kernel_rfl) (by simp) ?_
      refine (ac rfl (fun K hK => ?_) AllReadyH.nil)
      ·skip
       have hcc := D5.out.2.1
       have hfz := D5.out.2.2
       go_simp
       clear hcc hfz
       have o1 : Off (fun k => k = db) u5 (World.setCell (World.setCell (World.setCell (World.setCell (World.setCell (World.setCell (World.setCell (World.setCell (World.setCell u5 ⟨db, 0, none⟩ (.int .i64 0)) ⟨db, 1, none⟩ (.int .i64 0)) ⟨db, 2, none⟩ (.int .u16 s.r.pc)) ⟨db, 3, none⟩ (.int .i64 0)) ⟨db, 4, none⟩ (.int .i64 0)) ⟨db, 5, none⟩ (.int .i64 0)) ⟨db, 6, none⟩ (.int .i64 0)) ⟨db, 7, none⟩ (.int .u16 0)) ⟨db, 8, none⟩ (.bool false)) := Off.put9 u5 db (⟨0, 0, s.r.pc, noOp, false⟩ : DidV)
       have D6 := Lib.hid (show Has (World.setCell (World.setCell (World.setCell (World.setCell (World.setCell (World.setCell (World.setCell (World.setCell (World.setCell u5 ⟨db, 0, none⟩ (.int .i64 0)) ⟨db, 1, none⟩ (.int .i64 0)) ⟨db, 2, none⟩ (.int .u16 s.r.pc)) ⟨db, 3, none⟩ (.int .i64 0)) ⟨db, 4, none⟩ (.int .i64 0)) ⟨db, 5, none⟩ (.int .i64 0)) ⟨db, 6, none⟩ (.int .i64 0)) ⟨db, 7, none⟩ (.int .u16 0)) ⟨db, 8, none⟩ (.bool false)) db #[.int .i64 0, .int .i64 0, .int .u16 s.r.pc, .int .i64 0, .int .i64 0, .int .i64 0, .int .i64 0, .int .u16 0, .bool false] from D5.out.put9 (⟨0, 0, s.r.pc, noOp, false⟩ : DidV))
       have P6 := Lib.hid (P5.out.off o1 (fun e => DP.out e))
       have O6 := Lib.hid (O5.out.trans (o1.below (fun k hk e => by have := LD.out; have e' : k = db := e; omega) O5.out.size))
       clear o1
       refine hK.out _ _ ?s22 (fun hNew => ?r22)
       case s22 => exact ⟨(HS.out.below O6.out).2.1, trivial⟩
       clear hK K hHeld
       have hHeld := hNew
       clear hNew
       generalize (World.setCell (World.setCell (World.setCell (World.setCell (World.setCell (World.setCell (World.setCell (World.setCell (World.setCell u5 ⟨db, 0, none⟩ (.int .i64 0)) ⟨db, 1, none⟩ (.int .i64 0)) ⟨db, 2, none⟩ (.int .u16 s.r.pc)) ⟨db, 3, none⟩ (.int .i64 0)) ⟨db, 4, none⟩ (.int .i64 0)) ⟨db, 5, none⟩ (.int .i64 0)) ⟨db, 6, none⟩ (.int .i64 0)) ⟨db, 7, none⟩ (.int .u16 0)) ⟨db, 8, none⟩ (.bool false)) = u6 at hHeld P6 D6 O6 ⊢
       refine wpAnyH_done (by kernel_rfl) ?_ _
       clear hHeld
       exact HQ.out pb db _ _ _ _ _ _ _ ⟨O6.out, P6.out, D6.out, LP.out, LD.out, DP.out⟩
   ·skip
    go_simp
    have q := own1 u2 (.cells #[.int .i64 0, .int .i64 0, .int .u16 0, .int .i64 0, .int .i64 0, .int .i64 0, .int .i64 0, .int .u16 0, .bool false] 46)
    have O3 := Lib.hid (via O2.out q)
    have P3 := Lib.hid (P2.out.below q)
    have D3 := Lib.hid (Has.new u2 #[.int .i64 0, .int .i64 0, .int .u16 0, .int .i64 0, .int .i64 0, .int .i64 0, .int .i64 0, .int .u16 0, .bool false] 46)
    have LD := Lib.hid O2.out.size
    have DP := Lib.hid (show pb ≠ u2.heap.size by have := P2.out.1; omega)
    clear q
    refine hK.out _ _ ?s23 (fun hNew => ?r23)
    case s23 => exact ⟨(HS.out.below O3.out).2.1, trivial⟩
    clear hK K hHeld
    have hHeld := hNew
    clear hNew
    generalize u2.alloc (.cells #[.int .i64 0, .int .i64 0, .int .u16 0, .int .i64 0, .int .i64 0, .int .i64 0, .int .i64 0, .int .u16 0, .bool false] 46) = u3 at hHeld O3 P3 D3 ⊢
    generalize u2.heap.size = db at D3 LD DP ⊢
    refine wpAnyH_ready (rs := [2]) (by kernel_rfl) (by simp) ?_
    refine (ac rfl (fun K hK => ?_) AllReadyH.nil)
    ·skip
     go_simp
     with_reducible refine (Step_nb s _ _).mono ?_
     rintro e u4 ⟨rfl, q⟩
     have O4 := Lib.hid (via O3.out q)
     have P4 := Lib.hid (P3.out.below q)
     have D4 := Lib.hid (D3.out.below q)
     clear q
     refine hK.out _ _ ?s24 (fun hNew => ?r24)
     case s24 => exact ⟨(HS.out.below O4.out).2.1, trivial⟩
     clear hK K hHeld
     have hHeld := hNew
     clear hNew
     refine tk 3 rfl (v := ?v25) ?y25 ?z25
     case y25 => (intro w hSw; (try dsimp only at hSw); go_simp) <;> with_reducible rfl
     try simp only [Act.put, qqA, qqB, qqC]
     refine tk 4 rfl (v := ?v26) ?y26 ?z26
     case y26 => (intro w hSw; (try dsimp only at hSw); go_simp) <;> with_reducible rfl
     try simp only [Act.put, qqA, qqB, qqC]
     refine tk 5 rfl (v := ?v27) ?y27 ?z27
     case y27 => (intro w hSw; (try dsimp only at hSw); go_simp) <;> with_reducible rfl
     try simp only [Act.put, qqA, qqB, qqC]
     refine wpAnyH_ready (rs := [8]) (by kernel_rfl) (by simp) ?_
     refine (ac rfl (fun K hK => ?_) AllReadyH.nil)
     ·skip
      have hcc := P4.out.2.1
      have hfz := P4.out.2.2
      go_simp
      clear hcc hfz
      have o1 : Off (fun k => k = pb) u4 (World.setCell (World.setCell (World.setCell (World.setCell (World.setCell (World.setCell (World.setCell (World.setCell (World.setCell (World.setCell (World.setCell (World.setCell (World.setCell (World.setCell u4 ⟨pb, 0, none⟩ (.int .u8 s.r.a)) ⟨pb, 1, none⟩ (.int .u8 s.r.f)) ⟨pb, 2, none⟩ (.int .u8 s.r.b)) ⟨pb, 3, none⟩ (.int .u8 s.r.c)) ⟨pb, 4, none⟩ (.int .u8 s.r.d)) ⟨pb, 5, none⟩ (.int .u8 s.r.e)) ⟨pb, 6, none⟩ (.int .u8 s.r.h)) ⟨pb, 7, none⟩ (.int .u8 s.r.l)) ⟨pb, 8, none⟩ (.int .u16 s.r.sp)) ⟨pb, 9, none⟩ (.int .u16 s.r.pc)) ⟨pb, 10, none⟩ (.bool s.ime)) ⟨pb, 11, none⟩ (.bool s.soon)) ⟨pb, 12, none⟩ (.bool s.halt)) ⟨pb, 13, none⟩ (.bool s.stop)) := Off.put14 u4 pb s
      have P5 := Lib.hid (show Has (World.setCell (World.setCell (World.setCell (World.setCell (World.setCell (World.setCell (World.setCell (World.setCell (World.setCell (World.setCell (World.setCell (World.setCell (World.setCell (World.setCell u4 ⟨pb, 0, none⟩ (.int .u8 s.r.a)) ⟨pb, 1, none⟩ (.int .u8 s.r.f)) ⟨pb, 2, none⟩ (.int .u8 s.r.b)) ⟨pb, 3, none⟩ (.int .u8 s.r.c)) ⟨pb, 4, none⟩ (.int .u8 s.r.d)) ⟨pb, 5, none⟩ (.int .u8 s.r.e)) ⟨pb, 6, none⟩ (.int .u8 s.r.h)) ⟨pb, 7, none⟩ (.int .u8 s.r.l)) ⟨pb, 8, none⟩ (.int .u16 s.r.sp)) ⟨pb, 9, none⟩ (.int .u16 s.r.pc)) ⟨pb, 10, none⟩ (.bool s.ime)) ⟨pb, 11, none⟩ (.bool s.soon)) ⟨pb, 12, none⟩ (.bool s.halt)) ⟨pb, 13, none⟩ (.bool s.stop)) pb #[.int .u8 s.r.a, .int .u8 s.r.f, .int .u8 s.r.b, .int .u8 s.r.c, .int .u8 s.r.d, .int .u8 s.r.e, .int .u8 s.r.h, .int .u8 s.r.l, .int .u16 s.r.sp, .int .u16 s.r.pc, .bool s.ime, .bool s.soon, .bool s.halt, .bool s.stop] from Has.put14 (s0 := ⟨⟨0, 0, 0, 0, 0, 0, 0, 0, 0, 0⟩, false, false, false, false⟩) P4.out s)
      have D5 := Lib.hid (D4.out.off o1 (fun e => DP.out e.symm))
      have O5 := Lib.hid (O4.out.trans (o1.below (fun k hk e => by have := LP.out; have e' : k = pb := e; omega) O4.out.size))
      clear o1
      refine hK.out _ _ ?s28 (fun hNew => ?r28)
      case s28 => exact ⟨(HS.out.below O5.out).2.1, trivial⟩
      clear hK K hHeld
      have hHeld := hNew
      clear hNew
      generalize (World.setCell (World.setCell (World.setCell (World.setCell (World.setCell (World.setCell (World.setCell (World.setCell (World.setCell (World.setCell (World.setCell (World.setCell (World.setCell (World.setCell u4 ⟨pb, 0, none⟩ (.int .u8 s.r.a)) ⟨pb, 1, none⟩ (.int .u8 s.r.f)) ⟨pb, 2, none⟩ (.int .u8 s.r.b)) ⟨pb, 3, none⟩ (.int .u8 s.r.c)) ⟨pb, 4, none⟩ (.int .u8 s.r.d)) ⟨pb, 5, none⟩ (.int .u8 s.r.e)) ⟨pb, 6, none⟩ (.int .u8 s.r.h)) ⟨pb, 7, none⟩ (.int .u8 s.r.l)) ⟨pb, 8, none⟩ (.int .u16 s.r.sp)) ⟨pb, 9, none⟩ (.int .u16 s.r.pc)) ⟨pb, 10, none⟩ (.bool s.ime)) ⟨pb, 11, none⟩ (.bool s.soon)) ⟨pb, 12, none⟩ (.bool s.halt)) ⟨pb, 13, none⟩ (.bool s.stop)) = u5 at hHeld P5 D5 O5 ⊢
      refine wpAnyH_ready (rs := [9]) (by kernel_rfl) (by simp) ?_
      refine (ac rfl (fun K hK => ?_) AllReadyH.nil)
      ·skip
       have hcc := D5.out.2.1
       have hfz := D5.out.2.2
       go_simp
       clear hcc hfz
       have o1 : Off (fun k => k = db) u5 (World.setCell (World.setCell (World.setCell (World.setCell (World.setCell (World.setCell (World.setCell (World.setCell (World.setCell u5 ⟨db, 0, none⟩ (.int .i64 0)) ⟨db, 1, none⟩ (.int .i64 0)) ⟨db, 2, none⟩ (.int .u16 s.r.pc)) ⟨db, 3, none⟩ (.int .i64 0)) ⟨db, 4, none⟩ (.int .i64 0)) ⟨db, 5, none⟩ (.int .i64 0)) ⟨db, 6, none⟩ (.int .i64 0)) ⟨db, 7, none⟩ (.int .u16 0)) ⟨db, 8, none⟩ (.bool false)) := Off.put9 u5 db (⟨0, 0, s.r.pc, noOp, false⟩ : DidV)
       have D6 := Lib.hid (show Has (World.setCell (World.setCell (World.setCell (World.setCell (World.setCell (World.setCell (World.setCell (World.setCell (World.setCell u5 ⟨db, 0, none⟩ (.int .i64 0)) ⟨db, 1, none⟩ (.int .i64 0)) ⟨db, 2, none⟩ (.int .u16 s.r.pc)) ⟨db, 3, none⟩ (.int .i64 0)) ⟨db, 4, none⟩ (.int .i64 0)) ⟨db, 5, none⟩ (.int .i64 0)) ⟨db, 6, none⟩ (.int .i64 0)) ⟨db, 7, none⟩ (.int .u16 0)) ⟨db, 8, none⟩ (.bool false)) db #[.int .i64 0, .int .i64 0, .int .u16 s.r.pc, .int .i64 0, .int .i64 0, .int .i64 0, .int .i64 0, .int .u16 0, .bool false] from D5.out.put9 (⟨0, 0, s.r.pc, noOp, false⟩ : DidV))
       have P6 := Lib.hid (P5.out.off o1 (fun e => DP.out e))
       have O6 := Lib.hid (O5.out.trans (o1.below (fun k hk e => by have := LD.out; have e' : k = db := e; omega) O5.out.size))
       clear o1
       refine hK.out _ _ ?s29 (fun hNew => ?r29)
       case s29 => exact ⟨(HS.out.below O6.out).2.1, trivial⟩
       clear hK K hHeld
       have hHeld := hNew
       clear hNew
       generalize (World.setCell (World.setCell (World.setCell (World.setCell (World.setCell (World.setCell (World.setCell (World.setCell (World.setCell u5 ⟨db, 0, none⟩ (.int .i64 0)) ⟨db, 1, none⟩ (.int .i64 0)) ⟨db, 2, none⟩ (.int .u16 s.r.pc)) ⟨db, 3, none⟩ (.int .i64 0)) ⟨db, 4, none⟩ (.int .i64 0)) ⟨db, 5, none⟩ (.int .i64 0)) ⟨db, 6, none⟩ (.int .i64 0)) ⟨db, 7, none⟩ (.int .u16 0)) ⟨db, 8, none⟩ (.bool false)) = u6 at hHeld P6 D6 O6 ⊢
       refine wpAnyH_done (by kernel_rfl) ?_ _
       clear hHeld
       exact HQ.out pb db _ _ _ _ _ _ _ ⟨O6.out, P6.out, D6.out, LP.out, LD.out, DP.out⟩
  ·skip
   go_simp
   have q := own1 u1 (.cells #[.int .i64 0, .int .i64 0, .int .u16 0, .int .i64 0, .int .i64 0, .int .i64 0, .int .i64 0, .int .u16 0, .bool false] 46)
   have O2 := Lib.hid (via O1.out q)
   have D2 := Lib.hid (Has.new u1 #[.int .i64 0, .int .i64 0, .int .u16 0, .int .i64 0, .int .i64 0, .int .i64 0, .int .i64 0, .int .u16 0, .bool false] 46)
   have LD := Lib.hid O1.out.size
   clear q
   refine hK.out _ _ ?s30 (fun hNew => ?r30)
   case s30 => exact ⟨(HS.out.below O2.out).2.1, trivial⟩
   clear hK K hHeld
   have hHeld := hNew
   clear hNew
   generalize u1.alloc (.cells #[.int .i64 0, .int .i64 0, .int .u16 0, .int .i64 0, .int .i64 0, .int .i64 0, .int .i64 0, .int .u16 0, .bool false] 46) = u2 at hHeld O2 D2 ⊢
   generalize u1.heap.size = db at D2 LD ⊢
   refine wpAnyH_ready (rs := [2, 6]) (by kernel_rfl) (by simp) ?_
   refine (ac rfl (fun K hK => ?_) (ac rfl (fun K hK => ?_) AllReadyH.nil))
   ·skip
    go_simp
    with_reducible refine (Step_nb s _ _).mono ?_
    rintro e u3 ⟨rfl, q⟩
    have O3 := Lib.hid (via O2.out q)
    have D3 := Lib.hid (D2.out.below q)
    clear q
    refine hK.out _ _ ?s31 (fun hNew => ?r31)
    case s31 => exact ⟨(HS.out.below O3.out).2.1, trivial⟩
    clear hK K hHeld
    have hHeld := hNew
    clear hNew
    refine tk 3 rfl (v := ?v32) ?y32 ?z32
    case y32 => (intro w hSw; (try dsimp only at hSw); go_simp) <;> with_reducible rfl
    try simp only [Act.put, qqA, qqB, qqC]
    refine tk 4 rfl (v := ?v33) ?y33 ?z33
    case y33 => (intro w hSw; (try dsimp only at hSw); go_simp) <;> with_reducible rfl
    try simp only [Act.put, qqA, qqB, qqC]
    refine tk 5 rfl (v := ?v34) ?y34 ?z34
    case y34 => (intro w hSw; (try dsimp only at hSw); go_simp) <;> with_reducible rfl
    try simp only [Act.put, qqA, qqB, qqC]
    refine wpAnyH_ready (rs := [6]) (by kernel_rfl) (by simp) ?_
    refine (ac rfl (fun K hK => ?_) AllReadyH.nil)
    ·skip
     go_simp
     have q := own1 u3 (.cells #[.int .u8 0, .int .u8 0, .int .u8 0, .int .u8 0, .int .u8 0, .int .u8 0, .int .u8 0, .int .u8 0, .int .u16 0, .int .u16 0, .bool false, .bool false, .bool false, .bool false] 41)
     have O4 := Lib.hid (via O3.out q)
     have D4 := Lib.hid (D3.out.below q)
     have P4 := Lib.hid (Has.new u3 #[.int .u8 0, .int .u8 0, .int .u8 0, .int .u8 0, .int .u8 0, .int .u8 0, .int .u8 0, .int .u8 0, .int .u16 0, .int .u16 0, .bool false, .bool false, .bool false, .bool false] 41)
     have LP := Lib.hid O3.out.size
     have DP := Lib.hid (show db ≠ u3.heap.size by have := D3.out.1; omega)
     clear q
     refine hK.out _ _ ?s35 (fun hNew => ?r35)
     case s35 => exact ⟨(HS.out.below O4.out).2.1, trivial⟩
     clear hK K hHeld
     have hHeld := hNew
     clear hNew
     generalize u3.alloc (.cells #[.int .u8 0, .int .u8 0, .int .u8 0, .int .u8 0, .int .u8 0, .int .u8 0, .int .u8 0, .int .u8 0, .int .u16 0, .int .u16 0, .bool false, .bool false, .bool false, .bool false] 41) = u4 at hHeld O4 D4 P4 ⊢
     generalize u3.heap.size = pb at P4 LP DP ⊢
     refine wpAnyH_ready (rs := [8]) (by kernel_rfl) (by simp) ?_
     refine (ac rfl (fun K hK => ?_) AllReadyH.nil)
     ·skip
      have hcc := P4.out.2.1
      have hfz := P4.out.2.2
      go_simp
      clear hcc hfz
      have o1 : Off (fun k => k = pb) u4 (World.setCell (World.setCell (World.setCell (World.setCell (World.setCell (World.setCell (World.setCell (World.setCell (World.setCell (World.setCell (World.setCell (World.setCell (World.setCell (World.setCell u4 ⟨pb, 0, none⟩ (.int .u8 s.r.a)) ⟨pb, 1, none⟩ (.int .u8 s.r.f)) ⟨pb, 2, none⟩ (.int .u8 s.r.b)) ⟨pb, 3, none⟩ (.int .u8 s.r.c)) ⟨pb, 4, none⟩ (.int .u8 s.r.d)) ⟨pb, 5, none⟩ (.int .u8 s.r.e)) ⟨pb, 6, none⟩ (.int .u8 s.r.h)) ⟨pb, 7, none⟩ (.int .u8 s.r.l)) ⟨pb, 8, none⟩ (.int .u16 s.r.sp)) ⟨pb, 9, none⟩ (.int .u16 s.r.pc)) ⟨pb, 10, none⟩ (.bool s.ime)) ⟨pb, 11, none⟩ (.bool s.soon)) ⟨pb, 12, none⟩ (.bool s.halt)) ⟨pb, 13, none⟩ (.bool s.stop)) := Off.put14 u4 pb s
      have P5 := Lib.hid (show Has (World.setCell (World.setCell (World.setCell (World.setCell (World.setCell (World.setCell (World.setCell (World.setCell (World.setCell (World.setCell (World.setCell (World.setCell (World.setCell (World.setCell u4 ⟨pb, 0, none⟩ (.int .u8 s.r.a)) ⟨pb, 1, none⟩ (.int .u8 s.r.f)) ⟨pb, 2, none⟩ (.int .u8 s.r.b)) ⟨pb, 3, none⟩ (.int .u8 s.r.c)) ⟨pb, 4, none⟩ (.int .u8 s.r.d)) ⟨pb, 5, none⟩ (.int .u8 s.r.e)) ⟨pb, 6, none⟩ (.int .u8 s.r.h)) ⟨pb, 7, none⟩ (.int .u8 s.r.l)) ⟨pb, 8, none⟩ (.int .u16 s.r.sp)) ⟨pb, 9, none⟩ (.int .u16 s.r.pc)) ⟨pb, 10, none⟩ (.bool s.ime)) ⟨pb, 11, none⟩ (.bool s.soon)) ⟨pb, 12, none⟩ (.bool s.halt)) ⟨pb, 13, none⟩ (.bool s.stop)) pb #[.int .u8 s.r.a, .int .u8 s.r.f, .int .u8 s.r.b, .int .u8 s.r.c, .int .u8 s.r.d, .int .u8 s.r.e, .int .u8 s.r.h, .int .u8 s.r.l, .int .u16 s.r.sp, .int .u16 s.r.pc, .bool s.ime, .bool s.soon, .bool s.halt, .bool s.stop] from Has.put14 (s0 := ⟨⟨0, 0, 0, 0, 0, 0, 0, 0, 0, 0⟩, false, false, false, false⟩) P4.out s)
      have D5 := Lib.hid (D4.out.off o1 (fun e => DP.out e))
      have O5 := Lib.hid (O4.out.trans (o1.below (fun k hk e => by have := LP.out; have e' : k = pb := e; omega) O4.out.size))
      clear o1
      refine hK.out _ _ ?s36 (fun hNew => ?r36)
      case s36 => exact ⟨(HS.out.below O5.out).2.1, trivial⟩
      clear hK K hHeld
      have hHeld := hNew
      clear hNew
      generalize (World.setCell (World.setCell (World.setCell (World.setCell (World.setCell (World.setCell (World.setCell (World.setCell (World.setCell (World.setCell (World.setCell (World.setCell (World.setCell (World.setCell u4 ⟨pb, 0, none⟩ (.int .u8 s.r.a)) ⟨pb, 1, none⟩ (.int .u8 s.r.f)) ⟨pb, 2, none⟩ (.int .u8 s.r.b)) ⟨pb, 3, none⟩ (.int .u8 s.r.c)) ⟨pb, 4, none⟩ (.int .u8 s.r.d)) ⟨pb, 5, none⟩ (.int .u8 s.r.e)) ⟨pb, 6, none⟩ (.int .u8 s.r.h)) ⟨pb, 7, none⟩ (.int .u8 s.r.l)) ⟨pb, 8, none⟩ (.int .u16 s.r.sp)) ⟨pb, 9, none⟩ (.int .u16 s.r.pc)) ⟨pb, 10, none⟩ (.bool s.ime)) ⟨pb, 11, none⟩ (.bool s.soon)) ⟨pb, 12, none⟩ (.bool s.halt)) ⟨pb, 13, none⟩ (.bool s.stop)) = u5 at hHeld P5 D5 O5 ⊢
      refine wpAnyH_ready (rs := [9]) (by kernel_rfl) (by simp) ?_
      refine (ac rfl (fun K hK => ?_) AllReadyH.nil)
      ·skip
       have hcc := D5.out.2.1
       have hfz := D5.out.2.2
       go_simp
       clear hcc hfz
       have o1 : Off (fun k => k = db) u5 (World.setCell (World.setCell (World.setCell (World.setCell (World.setCell (World.setCell (World.setCell (World.setCell (World.setCell u5 ⟨db, 0, none⟩ (.int .i64 0)) ⟨db, 1, none⟩ (.int .i64 0)) ⟨db, 2, none⟩ (.int .u16 s.r.pc)) ⟨db, 3, none⟩ (.int .i64 0)) ⟨db, 4, none⟩ (.int .i64 0)) ⟨db, 5, none⟩ (.int .i64 0)) ⟨db, 6, none⟩ (.int .i64 0)) ⟨db, 7, none⟩ (.int .u16 0)) ⟨db, 8, none⟩ (.bool false)) := Off.put9 u5 db (⟨0, 0, s.r.pc, noOp, false⟩ : DidV)
       have D6 := Lib.hid (show Has (World.setCell (World.setCell (World.setCell (World.setCell (World.setCell (World.setCell (World.setCell (World.setCell (World.setCell u5 ⟨db, 0, none⟩ (.int .i64 0)) ⟨db, 1, none⟩ (.int .i64 0)) ⟨db, 2, none⟩ (.int .u16 s.r.pc)) ⟨db, 3, none⟩ (.int .i64 0)) ⟨db, 4, none⟩ (.int .i64 0)) ⟨db, 5, none⟩ (.int .i64 0)) ⟨db, 6, none⟩ (.int .i64 0)) ⟨db, 7, none⟩ (.int .u16 0)) ⟨db, 8, none⟩ (.bool false)) db #[.int .i64 0, .int .i64 0, .int .u16 s.r.pc, .int .i64 0, .int .i64 0, .int .i64 0, .int .i64 0, .int .u16 0, .bool false] from D5.out.put9 (⟨0, 0, s.r.pc, noOp, false⟩ : DidV))
       have P6 := Lib.hid (P5.out.off o1 (fun e => DP.out e.symm))
       have O6 := Lib.hid (O5.out.trans (o1.below (fun k hk e => by have := LD.out; have e' : k = db := e; omega) O5.out.size))
       clear o1
       refine hK.out _ _ ?s37 (fun hNew => ?r37)
       case s37 => exact ⟨(HS.out.below O6.out).2.1, trivial⟩
       clear hK K hHeld
       have hHeld := hNew
       clear hNew
       generalize (World.setCell (World.setCell (World.setCell (World.setCell (World.setCell (World.setCell (World.setCell (World.setCell (World.setCell u5 ⟨db, 0, none⟩ (.int .i64 0)) ⟨db, 1, none⟩ (.int .i64 0)) ⟨db, 2, none⟩ (.int .u16 s.r.pc)) ⟨db, 3, none⟩ (.int .i64 0)) ⟨db, 4, none⟩ (.int .i64 0)) ⟨db, 5, none⟩ (.int .i64 0)) ⟨db, 6, none⟩ (.int .i64 0)) ⟨db, 7, none⟩ (.int .u16 0)) ⟨db, 8, none⟩ (.bool false)) = u6 at hHeld P6 D6 O6 ⊢
       refine wpAnyH_done (by kernel_rfl) ?_ _
       clear hHeld
       exact HQ.out pb db _ _ _ _ _ _ _ ⟨O6.out, P6.out, D6.out, LP.out, LD.out, DP.out.symm⟩
   ·skip
    go_simp
    have q := own1 u2 (.cells #[.int .u8 0, .int .u8 0, .int .u8 0, .int .u8 0, .int .u8 0, .int .u8 0, .int .u8 0, .int .u8 0, .int .u16 0, .int .u16 0, .bool false, .bool false, .bool false, .bool false] 41)
    have O3 := Lib.hid (via O2.out q)
    have D3 := Lib.hid (D2.out.below q)
    have P3 := Lib.hid (Has.new u2 #[.int .u8 0, .int .u8 0, .int .u8 0, .int .u8 0, .int .u8 0, .int .u8 0, .int .u8 0, .int .u8 0, .int .u16 0, .int .u16 0, .bool false, .bool false, .bool false, .bool false] 41)
    have LP := Lib.hid O2.out.size
    have DP := Lib.hid (show db ≠ u2.heap.size by have := D2.out.1; omega)
    clear q
    refine hK.out _ _ ?s38 (fun hNew => ?r38)
    case s38 => exact ⟨(HS.out.below O3.out).2.1, trivial⟩
    clear hK K hHeld
    have hHeld := hNew
    clear hNew
    generalize u2.alloc (.cells #[.int .u8 0, .int .u8 0, .int .u8 0, .int .u8 0, .int .u8 0, .int .u8 0, .int .u8 0, .int .u8 0, .int .u16 0, .int .u16 0, .bool false, .bool false, .bool false, .bool false] 41) = u3 at hHeld O3 D3 P3 ⊢
    generalize u2.heap.size = pb at P3 LP DP ⊢
    refine wpAnyH_ready (rs := [2]) (by kernel_rfl) (by simp) ?_
    refine (ac rfl (fun K hK => ?_) AllReadyH.nil)
    ·skip
     go_simp
     with_reducible refine (Step_nb s _ _).mono ?_
     rintro e u4 ⟨rfl, q⟩
     have O4 := Lib.hid (via O3.out q)
     have P4 := Lib.hid (P3.out.below q)
     have D4 := Lib.hid (D3.out.below q)
     clear q
     refine hK.out _ _ ?s39 (fun hNew => ?r39)
     case s39 => exact ⟨(HS.out.below O4.out).2.1, trivial⟩
     clear hK K hHeld
     have hHeld := hNew
     clear hNew
     refine tk 3 rfl (v := ?v40) ?y40 ?z40
     case y40 => (intro w hSw; (try dsimp only at hSw); go_simp) <;> with_reducible rfl
     try simp only [Act.put, qqA, qqB, qqC]
     refine tk 4 rfl (v := ?v41) ?y41 ?z41
     case y41 => (intro w hSw; (try dsimp only at hSw); go_simp) <;> with_reducible rfl
     try simp only [Act.put, qqA, qqB, qqC]
     refine tk 5 rfl (v := ?v42) ?y42 ?z42
     case y42 => (intro w hSw; (try dsimp only at hSw); go_simp) <;> with_reducible rfl
     try simp only [Act.put, qqA, qqB, qqC]
     refine wpAnyH_ready (rs := [8]) (by kernel_rfl) (by simp) ?_
     refine (ac rfl (fun K hK => ?_) AllReadyH.nil)
     ·skip
      have hcc := P4.out.2.1
      have hfz := P4.out.2.2
      go_simp
      clear hcc hfz
      have o1 : Off (fun k => k = pb) u4 (World.setCell (World.setCell (World.setCell (World.setCell (World.setCell (World.setCell (World.setCell (World.setCell (World.setCell (World.setCell (World.setCell (World.setCell (World.setCell (World.setCell u4 ⟨pb, 0, none⟩ (.int .u8 s.r.a)) ⟨pb, 1, none⟩ (.int .u8 s.r.f)) ⟨pb, 2, none⟩ (.int .u8 s.r.b)) ⟨pb, 3, none⟩ (.int .u8 s.r.c)) ⟨pb, 4, none⟩ (.int .u8 s.r.d)) ⟨pb, 5, none⟩ (.int .u8 s.r.e)) ⟨pb, 6, none⟩ (.int .u8 s.r.h)) ⟨pb, 7, none⟩ (.int .u8 s.r.l)) ⟨pb, 8, none⟩ (.int .u16 s.r.sp)) ⟨pb, 9, none⟩ (.int .u16 s.r.pc)) ⟨pb, 10, none⟩ (.bool s.ime)) ⟨pb, 11, none⟩ (.bool s.soon)) ⟨pb, 12, none⟩ (.bool s.halt)) ⟨pb, 13, none⟩ (.bool s.stop)) := Off.put14 u4 pb s
      have P5 := Lib.hid (show Has (World.setCell (World.setCell (World.setCell (World.setCell (World.setCell (World.setCell (World.setCell (World.setCell (World.setCell (World.setCell (World.setCell (World.setCell (World.setCell (World.setCell u4 ⟨pb, 0, none⟩ (.int .u8 s.r.a)) ⟨pb, 1, none⟩ (.int .u8 s.r.f)) ⟨pb, 2, none⟩ (.int .u8 s.r.b)) ⟨pb, 3, none⟩ (.int .u8 s.r.c)) ⟨pb, 4, none⟩ (.int .u8 s.r.d)) ⟨pb, 5, none⟩ (.int .u8 s.r.e)) ⟨pb, 6, none⟩ (.int .u8 s.r.h)) ⟨pb, 7, none⟩ (.int .u8 s.r.l)) ⟨pb, 8, none⟩ (.int .u16 s.r.sp)) ⟨pb, 9, none⟩ (.int .u16 s.r.pc)) ⟨pb, 10, none⟩ (.bool s.ime)) ⟨pb, 11, none⟩ (.bool s.soon)) ⟨pb, 12, none⟩ (.bool s.halt)) ⟨pb, 13, none⟩ (.bool s.stop)) pb #[.int .u8 s.r.a, .int .u8 s.r.f, .int .u8 s.r.b, .int .u8 s.r.c, .int .u8 s.r.d, .int .u8 s.r.e, .int .u8 s.r.h, .int .u8 s.r.l, .int .u16 s.r.sp, .int .u16 s.r.pc, .bool s.ime, .bool s.soon, .bool s.halt, .bool s.stop] from Has.put14 (s0 := ⟨⟨0, 0, 0, 0, 0, 0, 0, 0, 0, 0⟩, false, false, false, false⟩) P4.out s)
      have D5 := Lib.hid (D4.out.off o1 (fun e => DP.out e))
      have O5 := Lib.hid (O4.out.trans (o1.below (fun k hk e => by have := LP.out; have e' : k = pb := e; omega) O4.out.size))
      clear o1
      refine hK.out _ _ ?s43 (fun hNew => ?r43)
      case s43 => exact ⟨(HS.out.below O5.out).2.1, trivial⟩
      clear hK K hHeld
      have hHeld := hNew
      clear hNew
      generalize (World.setCell (World.setCell (World.setCell (World.setCell (World.setCell (World.setCell (World.setCell (World.setCell (World.setCell (World.setCell (World.setCell (World.setCell (World.setCell (World.setCell u4 ⟨pb, 0, none⟩ (.int .u8 s.r.a)) ⟨pb, 1, none⟩ (.int .u8 s.r.f)) ⟨pb, 2, none⟩ (.int .u8 s.r.b)) ⟨pb, 3, none⟩ (.int .u8 s.r.c)) ⟨pb, 4, none⟩ (.int .u8 s.r.d)) ⟨pb, 5, none⟩ (.int .u8 s.r.e)) ⟨pb, 6, none⟩ (.int .u8 s.r.h)) ⟨pb, 7, none⟩ (.int .u8 s.r.l)) ⟨pb, 8, none⟩ (.int .u16 s.r.sp)) ⟨pb, 9, none⟩ (.int .u16 s.r.pc)) ⟨pb, 10, none⟩ (.bool s.ime)) ⟨pb, 11, none⟩ (.bool s.soon)) ⟨pb, 12, none⟩ (.bool s.halt)) ⟨pb, 13, none⟩ (.bool s.stop)) = u5 at hHeld P5 D5 O5 ⊢
      refine wpAnyH_ready (rs := [9]) (by kernel_rfl) (by simp) ?_
      refine (ac rfl (fun K hK => ?_) AllReadyH.nil)
      ·skip
       have hcc := D5.out.2.1
       have hfz := D5.out.2.2
       go_simp
       clear hcc hfz
       have o1 : Off (fun k => k = db) u5 (World.setCell (World.setCell (World.setCell (World.setCell (World.setCell (World.setCell (World.setCell (World.setCell (World.setCell u5 ⟨db, 0, none⟩ (.int .i64 0)) ⟨db, 1, none⟩ (.int .i64 0)) ⟨db, 2, none⟩ (.int .u16 s.r.pc)) ⟨db, 3, none⟩ (.int .i64 0)) ⟨db, 4, none⟩ (.int .i64 0)) ⟨db, 5, none⟩ (.int .i64 0)) ⟨db, 6, none⟩ (.int .i64 0)) ⟨db, 7, none⟩ (.int .u16 0)) ⟨db, 8, none⟩ (.bool false)) := Off.put9 u5 db (⟨0, 0, s.r.pc, noOp, false⟩ : DidV)
       have D6 := Lib.hid (show Has (World.setCell (World.setCell (World.setCell (World.setCell (World.setCell (World.setCell (World.setCell (World.setCell (World.setCell u5 ⟨db, 0, none⟩ (.int .i64 0)) ⟨db, 1, none⟩ (.int .i64 0)) ⟨db, 2, none⟩ (.int .u16 s.r.pc)) ⟨db, 3, none⟩ (.int .i64 0)) ⟨db, 4, none⟩ (.int .i64 0)) ⟨db, 5, none⟩ (.int .i64 0)) ⟨db, 6, none⟩ (.int .i64 0)) ⟨db, 7, none⟩ (.int .u16 0)) ⟨db, 8, none⟩ (.bool false)) db #[.int .i64 0, .int .i64 0, .int .u16 s.r.pc, .int .i64 0, .int .i64 0, .int .i64 0, .int .i64 0, .int .u16 0, .bool false] from D5.out.put9 (⟨0, 0, s.r.pc, noOp, false⟩ : DidV))
       have P6 := Lib.hid (P5.out.off o1 (fun e => DP.out e.symm))
       have O6 := Lib.hid (O5.out.trans (o1.below (fun k hk e => by have := LD.out; have e' : k = db := e; omega) O5.out.size))
       clear o1
       refine hK.out _ _ ?s44 (fun hNew => ?r44)
       case s44 => exact ⟨(HS.out.below O6.out).2.1, trivial⟩
       clear hK K hHeld
       have hHeld := hNew
       clear hNew
       generalize (World.setCell (World.setCell (World.setCell (World.setCell (World.setCell (World.setCell (World.setCell (World.setCell (World.setCell u5 ⟨db, 0, none⟩ (.int .i64 0)) ⟨db, 1, none⟩ (.int .i64 0)) ⟨db, 2, none⟩ (.int .u16 s.r.pc)) ⟨db, 3, none⟩ (.int .i64 0)) ⟨db, 4, none⟩ (.int .i64 0)) ⟨db, 5, none⟩ (.int .i64 0)) ⟨db, 6, none⟩ (.int .i64 0)) ⟨db, 7, none⟩ (.int .u16 0)) ⟨db, 8, none⟩ (.bool false)) = u6 at hHeld P6 D6 O6 ⊢
       refine wpAnyH_done (by kernel_rfl) ?_ _
       clear hHeld
       exact HQ.out pb db _ _ _ _ _ _ _ ⟨O6.out, P6.out, D6.out, LP.out, LD.out, DP.out.symm⟩
 ·skip
  go_simp
  have q := own1 u0 (.cells #[.int .u8 0, .int .u8 0, .int .u8 0, .int .u8 0, .int .u8 0, .int .u8 0, .int .u8 0, .int .u8 0, .int .u16 0, .int .u16 0, .bool false, .bool false, .bool false, .bool false] 41)
  have O1 := Lib.hid (via O0.out q)
  have P1 := Lib.hid (Has.new u0 #[.int .u8 0, .int .u8 0, .int .u8 0, .int .u8 0, .int .u8 0, .int .u8 0, .int .u8 0, .int .u8 0, .int .u16 0, .int .u16 0, .bool false, .bool false, .bool false, .bool false] 41)
  have LP := Lib.hid O0.out.size
  clear q
  refine hK.out _ _ ?s45 (fun hNew => ?r45)
  case s45 => exact ⟨(HS.out.below O1.out).2.1, trivial⟩
  clear hK K hHeld
  have hHeld := hNew
  clear hNew
  generalize u0.alloc (.cells #[.int .u8 0, .int .u8 0, .int .u8 0, .int .u8 0, .int .u8 0, .int .u8 0, .int .u8 0, .int .u8 0, .int .u16 0, .int .u16 0, .bool false, .bool false, .bool false, .bool false] 41) = u1 at hHeld O1 P1 ⊢
  generalize u0.heap.size = pb at P1 LP ⊢
  refine wpAnyH_ready (rs := [0, 7]) (by kernel_rfl) (by simp) ?_
  refine (ac rfl (fun K hK => ?_) (ac rfl (fun K hK => ?_) AllReadyH.nil))
  ·skip
   go_simp
   with_reducible refine (new_c u1).mono ?_
   rintro e w' ⟨rfl, rfl⟩
   have q := own1 u1 (.cells Tryz.zeroCells81 81)
   have O2 := Lib.hid (via O1.out q)
   have P2 := Lib.hid (P1.out.below q)
   clear q
   refine hK.out _ _ ?s46 (fun hNew => ?r46)
   case s46 => exact ⟨(HS.out.below O2.out).2.1, trivial⟩
   clear hK K hHeld
   have hHeld := hNew
   clear hNew
   generalize u1.alloc (.cells Tryz.zeroCells81 81) = u2 at hHeld O2 P2 ⊢
   generalize u1.heap.size = tb at ⊢
   refine wpAnyH_ready (rs := [2, 7]) (by kernel_rfl) (by simp) ?_
   refine (ac rfl (fun K hK => ?_) (ac rfl (fun K hK => ?_) AllReadyH.nil))
   ·skip
    go_simp
    with_reducible refine (Step_nb s _ _).mono ?_
    rintro e u3 ⟨rfl, q⟩
    have O3 := Lib.hid (via O2.out q)
    have P3 := Lib.hid (P2.out.below q)
    clear q
    refine hK.out _ _ ?s47 (fun hNew => ?r47)
    case s47 => exact ⟨(HS.out.below O3.out).2.1, trivial⟩
    clear hK K hHeld
    have hHeld := hNew
    clear hNew
    refine tk 3 rfl (v := ?v48) ?y48 ?z48
    case y48 => (intro w hSw; (try dsimp only at hSw); go_simp) <;> with_reducible rfl
    try simp only [Act.put, qqA, qqB, qqC]
    refine tk 4 rfl (v := ?v49) ?y49 ?z49
    case y49 => (intro w hSw; (try dsimp only at hSw); go_simp) <;> with_reducible rfl
    try simp only [Act.put, qqA, qqB, qqC]
    refine tk 5 rfl (v := ?v50) ?y50 ?z50
    case y50 => (intro w hSw; (try dsimp only at hSw); go_simp) <;> with_reducible rfl
    try simp only [Act.put, qqA, qqB, qqC]
    refine wpAnyH_ready (rs := [7]) (by kernel_rfl) (by simp) ?_
    refine (ac rfl (fun K hK => ?_) AllReadyH.nil)
    ·skip
     go_simp
     have q := own1 u3 (.cells #[.int .i64 0, .int .i64 0, .int .u16 0, .int .i64 0, .int .i64 0, .int .i64 0, .int .i64 0, .int .u16 0, .bool false] 46)
     have O4 := Lib.hid (via O3.out q)
     have P4 := Lib.hid (P3.out.below q)
     have D4 := Lib.hid (Has.new u3 #[.int .i64 0, .int .i64 0, .int .u16 0, .int .i64 0, .int .i64 0, .int .i64 0, .int .i64 0, .int .u16 0, .bool false] 46)
     have LD := Lib.hid O3.out.size
     have DP := Lib.hid (show pb ≠ u3.heap.size by have := P3.out.1; omega)
     clear q
     refine hK.out _ _ ?s51 (fun hNew => ?r51)
     case s51 => exact ⟨(HS.out.below O4.out).2.1, trivial⟩
     clear hK K hHeld
     have hHeld := hNew
     clear hNew
     generalize u3.alloc (.cells #[.int .i64 0, .int .i64 0, .int .u16 0, .int .i64 0, .int .i64 0, .int .i64 0, .int .i64 0, .int .u16 0, .bool false] 46) = u4 at hHeld O4 P4 D4 ⊢
     generalize u3.heap.size = db at D4 LD DP ⊢
     refine wpAnyH_ready (rs := [8]) (by kernel_rfl) (by simp) ?_
     refine (ac rfl (fun K hK => ?_) AllReadyH.nil)
     ·skip
      have hcc := P4.out.2.1
      have hfz := P4.out.2.2
      go_simp
      clear hcc hfz
      have o1 : Off (fun k => k = pb) u4 (World.setCell (World.setCell (World.setCell (World.setCell (World.setCell (World.setCell (World.setCell (World.setCell (World.setCell (World.setCell (World.setCell (World.setCell (World.setCell (World.setCell u4 ⟨pb, 0, none⟩ (.int .u8 s.r.a)) ⟨pb, 1, none⟩ (.int .u8 s.r.f)) ⟨pb, 2, none⟩ (.int .u8 s.r.b)) ⟨pb, 3, none⟩ (.int .u8 s.r.c)) ⟨pb, 4, none⟩ (.int .u8 s.r.d)) ⟨pb, 5, none⟩ (.int .u8 s.r.e)) ⟨pb, 6, none⟩ (.int .u8 s.r.h)) ⟨pb, 7, none⟩ (.int .u8 s.r.l)) ⟨pb, 8, none⟩ (.int .u16 s.r.sp)) ⟨pb, 9, none⟩ (.int .u16 s.r.pc)) ⟨pb, 10, none⟩ (.bool s.ime)) ⟨pb, 11, none⟩ (.bool s.soon)) ⟨pb, 12, none⟩ (.bool s.halt)) ⟨pb, 13, none⟩ (.bool s.stop)) := Off.put14 u4 pb s
      have P5 := Lib.hid (show Has (World.setCell (World.setCell (World.setCell (World.setCell (World.setCell (World.setCell (World.setCell (World.setCell (World.setCell (World.setCell (World.setCell (World.setCell (World.setCell (World.setCell u4 ⟨pb, 0, none⟩ (.int .u8 s.r.a)) ⟨pb, 1, none⟩ (.int .u8 s.r.f)) ⟨pb, 2, none⟩ (.int .u8 s.r.b)) ⟨pb, 3, none⟩ (.int .u8 s.r.c)) ⟨pb, 4, none⟩ (.int .u8 s.r.d)) ⟨pb, 5, none⟩ (.int .u8 s.r.e)) ⟨pb, 6, none⟩ (.int .u8 s.r.h)) ⟨pb, 7, none⟩ (.int .u8 s.r.l)) ⟨pb, 8, none⟩ (.int .u16 s.r.sp)) ⟨pb, 9, none⟩ (.int .u16 s.r.pc)) ⟨pb, 10, none⟩ (.bool s.ime)) ⟨pb, 11, none⟩ (.bool s.soon)) ⟨pb, 12, none⟩ (.bool s.halt)) ⟨pb, 13, none⟩ (.bool s.stop)) pb #[.int .u8 s.r.a, .int .u8 s.r.f, .int .u8 s.r.b, .int .u8 s.r.c, .int .u8 s.r.d, .int .u8 s.r.e, .int .u8 s.r.h, .int .u8 s.r.l, .int .u16 s.r.sp, .int .u16 s.r.pc, .bool s.ime, .bool s.soon, .bool s.halt, .bool s.stop] from Has.put14 (s0 := ⟨⟨0, 0, 0, 0, 0, 0, 0, 0, 0, 0⟩, false, false, false, false⟩) P4.out s)
      have D5 := Lib.hid (D4.out.off o1 (fun e => DP.out e.symm))
      have O5 := Lib.hid (O4.out.trans (o1.below (fun k hk e => by have := LP.out; have e' : k = pb := e; omega) O4.out.size))
      clear o1
      refine hK.out _ _ ?s52 (fun hNew => ?r52)
      case s52 => exact ⟨(HS.out.below O5.out).2.1, trivial⟩
      clear hK K hHeld
      have hHeld := hNew
      clear hNew
      generalize (World.setCell (World.setCell (World.setCell (World.setCell (World.setCell (World.setCell (World.setCell (World.setCell (World.setCell (World.setCell (World.setCell (World.setCell (World.setCell (World.setCell u4 ⟨pb, 0, none⟩ (.int .u8 s.r.a)) ⟨pb, 1, none⟩ (.int .u8 s.r.f)) ⟨pb, 2, none⟩ (.int .u8 s.r.b)) ⟨pb, 3, none⟩ (.int .u8 s.r.c)) ⟨pb, 4, none⟩ (.int .u8 s.r.d)) ⟨pb, 5, none⟩ (.int .u8 s.r.e)) ⟨pb, 6, none⟩ (.int .u8 s.r.h)) ⟨pb, 7, none⟩ (.int .u8 s.r.l)) ⟨pb, 8, none⟩ (.int .u16 s.r.sp)) ⟨pb, 9, none⟩ (.int .u16 s.r.pc)) ⟨pb, 10, none⟩ (.bool s.ime)) ⟨pb, 11, none⟩ (.bool s.soon)) ⟨pb, 12, none⟩ (.bool s.halt)) ⟨pb, 13, none⟩ (.bool s.stop)) = u5 at hHeld P5 D5 O5 ⊢
      refine wpAnyH_ready (rs := [9]) (by kernel_rfl) (by simp) ?_
      refine (ac rfl (fun K hK => ?_) AllReadyH.nil)
      ·skip
       have hcc := D5.out.2.1
       have hfz := D5.out.2.2
       go_simp
       clear hcc hfz
       have o1 : Off (fun k => k = db) u5 (World.setCell (World.setCell (World.setCell (World.setCell (World.setCell (World.setCell (World.setCell (World.setCell (World.setCell u5 ⟨db, 0, none⟩ (.int .i64 0)) ⟨db, 1, none⟩ (.int .i64 0)) ⟨db, 2, none⟩ (.int .u16 s.r.pc)) ⟨db, 3, none⟩ (.int .i64 0)) ⟨db, 4, none⟩ (.int .i64 0)) ⟨db, 5, none⟩ (.int .i64 0)) ⟨db, 6, none⟩ (.int .i64 0)) ⟨db, 7, none⟩ (.int .u16 0)) ⟨db, 8, none⟩ (.bool false)) := Off.put9 u5 db (⟨0, 0, s.r.pc, noOp, false⟩ : DidV)
       have D6 := Lib.hid (show Has (World.setCell (World.setCell (World.setCell (World.setCell (World.setCell (World.setCell (World.setCell (World.setCell (World.setCell u5 ⟨db, 0, none⟩ (.int .i64 0)) ⟨db, 1, none⟩ (.int .i64 0)) ⟨db, 2, none⟩ (.int .u16 s.r.pc)) ⟨db, 3, none⟩ (.int .i64 0)) ⟨db, 4, none⟩ (.int .i64 0)) ⟨db, 5, none⟩ (.int .i64 0)) ⟨db, 6, none⟩ (.int .i64 0)) ⟨db, 7, none⟩ (.int .u16 0)) ⟨db, 8, none⟩ (.bool false)) db #[.int .i64 0, .int .i64 0, .int .u16 s.r.pc, .int .i64 0, .int .i64 0, .int .i64 0, .int .i64 0, .int .u16 0, .bool false] from D5.out.put9 (⟨0, 0, s.r.pc, noOp, false⟩ : DidV))
       have P6 := Lib.hid (P5.out.off o1 (fun e => DP.out e))
       have O6 := Lib.hid (O5.out.trans (o1.below (fun k hk e => by have := LD.out; have e' : k = db := e; omega) O5.out.size))
       clear o1
       refine hK.out _ _ ?s53 (fun hNew => ?r53)
       case s53 => exact ⟨(HS.out.below O6.out).2.1, trivial⟩
       clear hK K hHeld
       have hHeld := hNew
       clear hNew
       generalize (World.setCell (World.setCell (World.setCell (World.setCell (World.setCell (World.setCell (World.setCell (World.setCell (World.setCell u5 ⟨db, 0, none⟩ (.int .i64 0)) ⟨db, 1, none⟩ (.int .i64 0)) ⟨db, 2, none⟩ (.int .u16 s.r.pc)) ⟨db, 3, none⟩ (.int .i64 0)) ⟨db, 4, none⟩ (.int .i64 0)) ⟨db, 5, none⟩ (.int .i64 0)) ⟨db, 6, none⟩ (.int .i64 0)) ⟨db, 7, none⟩ (.int .u16 0)) ⟨db, 8, none⟩ (.bool false)) = u6 at hHeld P6 D6 O6 ⊢
       refine wpAnyH_done (by kernel_rfl) ?_ _
       clear hHeld
       exact HQ.out pb db _ _ _ _ _ _ _ ⟨O6.out, P6.out, D6.out, LP.out, LD.out, DP.out⟩
   ·skip
    go_simp
    have q := own1 u2 (.cells #[.int .i64 0, .int .i64 0, .int .u16 0, .int .i64 0, .int .i64 0, .int .i64 0, .int .i64 0, .int .u16 0, .bool false] 46)
    have O3 := Lib.hid (via O2.out q)
    have P3 := Lib.hid (P2.out.below q)
    have D3 := Lib.hid (Has.new u2 #[.int .i64 0, .int .i64 0, .int .u16 0, .int .i64 0, .int .i64 0, .int .i64 0, .int .i64 0, .int .u16 0, .bool false] 46)
    have LD := Lib.hid O2.out.size
    have DP := Lib.hid (show pb ≠ u2.heap.size by have := P2.out.1; omega)
    clear q
    refine hK.out _ _ ?s54 (fun hNew => ?r54)
    case s54 => exact ⟨(HS.out.below O3.out).2.1, trivial⟩
    clear hK K hHeld
    have hHeld := hNew
    clear hNew
    generalize u2.alloc (.cells #[.int .i64 0, .int .i64 0, .int .u16 0, .int .i64 0, .int .i64 0, .int .i64 0, .int .i64 0, .int .u16 0, .bool false] 46) = u3 at hHeld O3 P3 D3 ⊢
    generalize u2.heap.size = db at D3 LD DP ⊢
    refine wpAnyH_ready (rs := [2]) (by kernel_rfl) (by simp) ?_
    refine (ac rfl (fun K hK => ?_) AllReadyH.nil)
    ·skip
     go_simp
     with_reducible refine (Step_nb s _ _).mono ?_
     rintro e u4 ⟨rfl, q⟩
     have O4 := Lib.hid (via O3.out q)
     have P4 := Lib.hid (P3.out.below q)
     have D4 := Lib.hid (D3.out.below q)
     clear q
     refine hK.out _ _ ?s55 (fun hNew => ?r55)
     case s55 => exact ⟨(HS.out.below O4.out).2.1, trivial⟩
     clear hK K hHeld
     have hHeld := hNew
     clear hNew
     refine tk 3 rfl (v := ?v56) ?y56 ?z56
     case y56 => (intro w hSw; (try dsimp only at hSw); go_simp) <;> with_reducible rfl
     try simp only [Act.put, qqA, qqB, qqC]
     refine tk 4 rfl (v := ?v57) ?y57 ?z57
     case y57 => (intro w hSw; (try dsimp only at hSw); go_simp) <;> with_reducible rfl
     try simp only [Act.put, qqA, qqB, qqC]
     refine tk 5 rfl (v := ?v58) ?y58 ?z58
     case y58 => (intro w hSw; (try dsimp only at hSw); go_simp) <;> with_reducible rfl
     try simp only [Act.put, qqA, qqB, qqC]
     refine wpAnyH_ready (rs := [8]) (by kernel_rfl) (by simp) ?_
     refine (ac rfl (fun K hK => ?_) AllReadyH.nil)
     ·skip
      have hcc := P4.out.2.1
      have hfz := P4.out.2.2
      go_simp
      clear hcc hfz
      have o1 : Off (fun k => k = pb) u4 (World.setCell (World.setCell (World.setCell (World.setCell (World.setCell (World.setCell (World.setCell (World.setCell (World.setCell (World.setCell (World.setCell (World.setCell (World.setCell (World.setCell u4 ⟨pb, 0, none⟩ (.int .u8 s.r.a)) ⟨pb, 1, none⟩ (.int .u8 s.r.f)) ⟨pb, 2, none⟩ (.int .u8 s.r.b)) ⟨pb, 3, none⟩ (.int .u8 s.r.c)) ⟨pb, 4, none⟩ (.int .u8 s.r.d)) ⟨pb, 5, none⟩ (.int .u8 s.r.e)) ⟨pb, 6, none⟩ (.int .u8 s.r.h)) ⟨pb, 7, none⟩ (.int .u8 s.r.l)) ⟨pb, 8, none⟩ (.int .u16 s.r.sp)) ⟨pb, 9, none⟩ (.int .u16 s.r.pc)) ⟨pb, 10, none⟩ (.bool s.ime)) ⟨pb, 11, none⟩ (.bool s.soon)) ⟨pb, 12, none⟩ (.bool s.halt)) ⟨pb, 13, none⟩ (.bool s.stop)) := Off.put14 u4 pb s
      have P5 := Lib.hid (show Has (World.setCell (World.setCell (World.setCell (World.setCell (World.setCell (World.setCell (World.setCell (World.setCell (World.setCell (World.setCell (World.setCell (World.setCell (World.setCell (World.setCell u4 ⟨pb, 0, none⟩ (.int .u8 s.r.a)) ⟨pb, 1, none⟩ (.int .u8 s.r.f)) ⟨pb, 2, none⟩ (.int .u8 s.r.b)) ⟨pb, 3, none⟩ (.int .u8 s.r.c)) ⟨pb, 4, none⟩ (.int .u8 s.r.d)) ⟨pb, 5, none⟩ (.int .u8 s.r.e)) ⟨pb, 6, none⟩ (.int .u8 s.r.h)) ⟨pb, 7, none⟩ (.int .u8 s.r.l)) ⟨pb, 8, none⟩ (.int .u16 s.r.sp)) ⟨pb, 9, none⟩ (.int .u16 s.r.pc)) ⟨pb, 10, none⟩ (.bool s.ime)) ⟨pb, 11, none⟩ (.bool s.soon)) ⟨pb, 12, none⟩ (.bool s.halt)) ⟨pb, 13, none⟩ (.bool s.stop)) pb #[.int .u8 s.r.a, .int .u8 s.r.f, .int .u8 s.r.b, .int .u8 s.r.c, .int .u8 s.r.d, .int .u8 s.r.e, .int .u8 s.r.h, .int .u8 s.r.l, .int .u16 s.r.sp, .int .u16 s.r.pc, .bool s.ime, .bool s.soon, .bool s.halt, .bool s.stop] from Has.put14 (s0 := ⟨⟨0, 0, 0, 0, 0, 0, 0, 0, 0, 0⟩, false, false, false, false⟩) P4.out s)
      have D5 := Lib.hid (D4.out.off o1 (fun e => DP.out e.symm))
      have O5 := Lib.hid (O4.out.trans (o1.below (fun k hk e => by have := LP.out; have e' : k = pb := e; omega) O4.out.size))
      clear o1
      refine hK.out _ _ ?s59 (fun hNew => ?r59)
      case s59 => exact ⟨(HS.out.below O5.out).2.1, trivial⟩
      clear hK K hHeld
      have hHeld := hNew
      clear hNew
      generalize (World.setCell (World.setCell (World.setCell (World.setCell (World.setCell (World.setCell (World.setCell (World.setCell (World.setCell (World.setCell (World.setCell (World.setCell (World.setCell (World.setCell u4 ⟨pb, 0, none⟩ (.int .u8 s.r.a)) ⟨pb, 1, none⟩ (.int .u8 s.r.f)) ⟨pb, 2, none⟩ (.int .u8 s.r.b)) ⟨pb, 3, none⟩ (.int .u8 s.r.c)) ⟨pb, 4, none⟩ (.int .u8 s.r.d)) ⟨pb, 5, none⟩ (.int .u8 s.r.e)) ⟨pb, 6, none⟩ (.int .u8 s.r.h)) ⟨pb, 7, none⟩ (.int .u8 s.r.l)) ⟨pb, 8, none⟩ (.int .u16 s.r.sp)) ⟨pb, 9, none⟩ (.int .u16 s.r.pc)) ⟨pb, 10, none⟩ (.bool s.ime)) ⟨pb, 11, none⟩ (.bool s.soon)) ⟨pb, 12, none⟩ (.bool s.halt)) ⟨pb, 13, none⟩ (.bool s.stop)) = u5 at hHeld P5 D5 O5 ⊢
      refine wpAnyH_ready (rs := [9]) (by kernel_rfl) (by simp) ?_
      refine (ac rfl (fun K hK => ?_) AllReadyH.nil)
      ·skip
       have hcc := D5.out.2.1
       have hfz := D5.out.2.2
       go_simp
       clear hcc hfz
       have o1 : Off (fun k => k = db) u5 (World.setCell (World.setCell (World.setCell (World.setCell (World.setCell (World.setCell (World.setCell (World.setCell (World.setCell u5 ⟨db, 0, none⟩ (.int .i64 0)) ⟨db, 1, none⟩ (.int .i64 0)) ⟨db, 2, none⟩ (.int .u16 s.r.pc)) ⟨db, 3, none⟩ (.int .i64 0)) ⟨db, 4, none⟩ (.int .i64 0)) ⟨db, 5, none⟩ (.int .i64 0)) ⟨db, 6, none⟩ (.int .i64 0)) ⟨db, 7, none⟩ (.int .u16 0)) ⟨db, 8, none⟩ (.bool false)) := Off.put9 u5 db (⟨0, 0, s.r.pc, noOp, false⟩ : DidV)
       have D6 := Lib.hid (show Has (World.setCell (World.setCell (World.setCell (World.setCell (World.setCell (World.setCell (World.setCell (World.setCell (World.setCell u5 ⟨db, 0, none⟩ (.int .i64 0)) ⟨db, 1, none⟩ (.int .i64 0)) ⟨db, 2, none⟩ (.int .u16 s.r.pc)) ⟨db, 3, none⟩ (.int .i64 0)) ⟨db, 4, none⟩ (.int .i64 0)) ⟨db, 5, none⟩ (.int .i64 0)) ⟨db, 6, none⟩ (.int .i64 0)) ⟨db, 7, none⟩ (.int .u16 0)) ⟨db, 8, none⟩ (.bool false)) db #[.int .i64 0, .int .i64 0, .int .u16 s.r.pc, .int .i64 0, .int .i64 0, .int .i64 0, .int .i64 0, .int .u16 0, .bool false] from D5.out.put9 (⟨0, 0, s.r.pc, noOp, false⟩ : DidV))
       have P6 := Lib.hid (P5.out.off o1 (fun e => DP.out e))
       have O6 := Lib.hid (O5.out.trans (o1.below (fun k hk e => by have := LD.out; have e' : k = db := e; omega) O5.out.size))
       clear o1
       refine hK.out _ _ ?s60 (fun hNew => ?r60)
       case s60 => exact ⟨(HS.out.below O6.out).2.1, trivial⟩
       clear hK K hHeld
       have hHeld := hNew
       clear hNew
       generalize (World.setCell (World.setCell (World.setCell (World.setCell (World.setCell (World.setCell (World.setCell (World.setCell (World.setCell u5 ⟨db, 0, none⟩ (.int .i64 0)) ⟨db, 1, none⟩ (.int .i64 0)) ⟨db, 2, none⟩ (.int .u16 s.r.pc)) ⟨db, 3, none⟩ (.int .i64 0)) ⟨db, 4, none⟩ (.int .i64 0)) ⟨db, 5, none⟩ (.int .i64 0)) ⟨db, 6, none⟩ (.int .i64 0)) ⟨db, 7, none⟩ (.int .u16 0)) ⟨db, 8, none⟩ (.bool false)) = u6 at hHeld P6 D6 O6 ⊢
       refine wpAnyH_done (by kernel_rfl) ?_ _
       clear hHeld
       exact HQ.out pb db _ _ _ _ _ _ _ ⟨O6.out, P6.out, D6.out, LP.out, LD.out, DP.out⟩
  ·skip
   go_simp
   have q := own1 u1 (.cells #[.int .i64 0, .int .i64 0, .int .u16 0, .int .i64 0, .int .i64 0, .int .i64 0, .int .i64 0, .int .u16 0, .bool false] 46)
   have O2 := Lib.hid (via O1.out q)
   have P2 := Lib.hid (P1.out.below q)
   have D2 := Lib.hid (Has.new u1 #[.int .i64 0, .int .i64 0, .int .u16 0, .int .i64 0, .int .i64 0, .int .i64 0, .int .i64 0, .int .u16 0, .bool false] 46)
   have LD := Lib.hid O1.out.size
   have DP := Lib.hid (show pb ≠ u1.heap.size by have := P1.out.1; omega)
   clear q
   refine hK.out _ _ ?s61 (fun hNew => ?r61)
   case s61 => exact ⟨(HS.out.below O2.out).2.1, trivial⟩
   clear hK K hHeld
   have hHeld := hNew
   clear hNew
   generalize u1.alloc (.cells #[.int .i64 0, .int .i64 0, .int .u16 0, .int .i64 0, .int .i64 0, .int .i64 0, .int .i64 0, .int .u16 0, .bool false] 46) = u2 at hHeld O2 P2 D2 ⊢
   generalize u1.heap.size = db at D2 LD DP ⊢
   refine wpAnyH_ready (rs := [0]) (by kernel_rfl) (by simp) ?_
   refine (ac rfl (fun K hK => ?_) AllReadyH.nil)
   ·skip
    go_simp
    with_reducible refine (new_c u2).mono ?_
    rintro e w' ⟨rfl, rfl⟩
    have q := own1 u2 (.cells Tryz.zeroCells81 81)
    have O3 := Lib.hid (via O2.out q)
    have P3 := Lib.hid (P2.out.below q)
    have D3 := Lib.hid (D2.out.below q)
    clear q
    refine hK.out _ _ ?s62 (fun hNew => ?r62)
    case s62 => exact ⟨(HS.out.below O3.out).2.1, trivial⟩
    clear hK K hHeld
    have hHeld := hNew
    clear hNew
    generalize u2.alloc (.cells Tryz.zeroCells81 81) = u3 at hHeld O3 P3 D3 ⊢
    generalize u2.heap.size = tb at ⊢
    refine wpAnyH_ready (rs := [2]) (by kernel_rfl) (by simp) ?_
    refine (ac rfl (fun K hK => ?_) AllReadyH.nil)
    ·skip
     go_simp
     with_reducible refine (Step_nb s _ _).mono ?_
     rintro e u4 ⟨rfl, q⟩
     have O4 := Lib.hid (via O3.out q)
     have P4 := Lib.hid (P3.out.below q)
     have D4 := Lib.hid (D3.out.below q)
     clear q
     refine hK.out _ _ ?s63 (fun hNew => ?r63)
     case s63 => exact ⟨(HS.out.below O4.out).2.1, trivial⟩
     clear hK K hHeld
     have hHeld := hNew
     clear hNew
     refine tk 3 rfl (v := ?v64) ?y64 ?z64
     case y64 => (intro w hSw; (try dsimp only at hSw); go_simp) <;> with_reducible rfl
     try simp only [Act.put, qqA, qqB, qqC]
     refine tk 4 rfl (v := ?v65) ?y65 ?z65
     case y65 => (intro w hSw; (try dsimp only at hSw); go_simp) <;> with_reducible rfl
     try simp only [Act.put, qqA, qqB, qqC]
     refine tk 5 rfl (v := ?v66) ?y66 ?z66
     case y66 => (intro w hSw; (try dsimp only at hSw); go_simp) <;> with_reducible rfl
     try simp only [Act.put, qqA, qqB, qqC]
     refine wpAnyH_ready (rs := [8]) (by kernel_rfl) (by simp) ?_
     refine (ac rfl (fun K hK => ?_) AllReadyH.nil)
     ·skip
      have hcc := P4.out.2.1
      have hfz := P4.out.2.2
      go_simp
      clear hcc hfz
      have o1 : Off (fun k => k = pb) u4 (World.setCell (World.setCell (World.setCell (World.setCell (World.setCell (World.setCell (World.setCell (World.setCell (World.setCell (World.setCell (World.setCell (World.setCell (World.setCell (World.setCell u4 ⟨pb, 0, none⟩ (.int .u8 s.r.a)) ⟨pb, 1, none⟩ (.int .u8 s.r.f)) ⟨pb, 2, none⟩ (.int .u8 s.r.b)) ⟨pb, 3, none⟩ (.int .u8 s.r.c)) ⟨pb, 4, none⟩ (.int .u8 s.r.d)) ⟨pb, 5, none⟩ (.int .u8 s.r.e)) ⟨pb, 6, none⟩ (.int .u8 s.r.h)) ⟨pb, 7, none⟩ (.int .u8 s.r.l)) ⟨pb, 8, none⟩ (.int .u16 s.r.sp)) ⟨pb, 9, none⟩ (.int .u16 s.r.pc)) ⟨pb, 10, none⟩ (.bool s.ime)) ⟨pb, 11, none⟩ (.bool s.soon)) ⟨pb, 12, none⟩ (.bool s.halt)) ⟨pb, 13, none⟩ (.bool s.stop)) := Off.put14 u4 pb s
      have P5 := Lib.hid (show Has (World.setCell (World.setCell (World.setCell (World.setCell (World.setCell (World.setCell (World.setCell (World.setCell (World.setCell (World.setCell (World.setCell (World.setCell (World.setCell (World.setCell u4 ⟨pb, 0, none⟩ (.int .u8 s.r.a)) ⟨pb, 1, none⟩ (.int .u8 s.r.f)) ⟨pb, 2, none⟩ (.int .u8 s.r.b)) ⟨pb, 3, none⟩ (.int .u8 s.r.c)) ⟨pb, 4, none⟩ (.int .u8 s.r.d)) ⟨pb, 5, none⟩ (.int .u8 s.r.e)) ⟨pb, 6, none⟩ (.int .u8 s.r.h)) ⟨pb, 7, none⟩ (.int .u8 s.r.l)) ⟨pb, 8, none⟩ (.int .u16 s.r.sp)) ⟨pb, 9, none⟩ (.int .u16 s.r.pc)) ⟨pb, 10, none⟩ (.bool s.ime)) ⟨pb, 11, none⟩ (.bool s.soon)) ⟨pb, 12, none⟩ (.bool s.halt)) ⟨pb, 13, none⟩ (.bool s.stop)) pb #[.int .u8 s.r.a, .int .u8 s.r.f, .int .u8 s.r.b, .int .u8 s.r.c, .int .u8 s.r.d, .int .u8 s.r.e, .int .u8 s.r.h, .int .u8 s.r.l, .int .u16 s.r.sp, .int .u16 s.r.pc, .bool s.ime, .bool s.soon, .bool s.halt, .bool s.stop] from Has.put14 (s0 := ⟨⟨0, 0, 0, 0, 0, 0, 0, 0, 0, 0⟩, false, false, false, false⟩) P4.out s)
      have D5 := Lib.hid (D4.out.off o1 (fun e => DP.out e.symm))
      have O5 := Lib.hid (O4.out.trans (o1.below (fun k hk e => by have := LP.out; have e' : k = pb := e; omega) O4.out.size))
      clear o1
      refine hK.out _ _ ?s67 (fun hNew => ?r67)
      case s67 => exact ⟨(HS.out.below O5.out).2.1, trivial⟩
      clear hK K hHeld
      have hHeld := hNew
      clear hNew
      generalize (World.setCell (World.setCell (World.setCell (World.setCell (World.setCell (World.setCell (World.setCell (World.setCell (World.setCell (World.setCell (World.setCell (World.setCell (World.setCell (World.setCell u4 ⟨pb, 0, none⟩ (.int .u8 s.r.a)) ⟨pb, 1, none⟩ (.int .u8 s.r.f)) ⟨pb, 2, none⟩ (.int .u8 s.r.b)) ⟨pb, 3, none⟩ (.int .u8 s.r.c)) ⟨pb, 4, none⟩ (.int .u8 s.r.d)) ⟨pb, 5, none⟩ (.int .u8 s.r.e)) ⟨pb, 6, none⟩ (.int .u8 s.r.h)) ⟨pb, 7, none⟩ (.int .u8 s.r.l)) ⟨pb, 8, none⟩ (.int .u16 s.r.sp)) ⟨pb, 9, none⟩ (.int .u16 s.r.pc)) ⟨pb, 10, none⟩ (.bool s.ime)) ⟨pb, 11, none⟩ (.bool s.soon)) ⟨pb, 12, none⟩ (.bool s.halt)) ⟨pb, 13, none⟩ (.bool s.stop)) = u5 at hHeld P5 D5 O5 ⊢
      refine wpAnyH_ready (rs := [9]) (by kernel_rfl) (by simp) ?_
      refine (ac rfl (fun K hK => ?_) AllReadyH.nil)
      ·skip
       have hcc := D5.out.2.1
       have hfz := D5.out.2.2
       go_simp
       clear hcc hfz
       have o1 : Off (fun k => k = db) u5 (World.setCell (World.setCell (World.setCell (World.setCell (World.setCell (World.setCell (World.setCell (World.setCell (World.setCell u5 ⟨db, 0, none⟩ (.int .i64 0)) ⟨db, 1, none⟩ (.int .i64 0)) ⟨db, 2, none⟩ (.int .u16 s.r.pc)) ⟨db, 3, none⟩ (.int .i64 0)) ⟨db, 4, none⟩ (.int .i64 0)) ⟨db, 5, none⟩ (.int .i64 0)) ⟨db, 6, none⟩ (.int .i64 0)) ⟨db, 7, none⟩ (.int .u16 0)) ⟨db, 8, none⟩ (.bool false)) := Off.put9 u5 db (⟨0, 0, s.r.pc, noOp, false⟩ : DidV)
       have D6 := Lib.hid (show Has (World.setCell (World.setCell (World.setCell (World.setCell (World.setCell (World.setCell (World.setCell (World.setCell (World.setCell u5 ⟨db, 0, none⟩ (.int .i64 0)) ⟨db, 1, none⟩ (.int .i64 0)) ⟨db, 2, none⟩ (.int .u16 s.r.pc)) ⟨db, 3, none⟩ (.int .i64 0)) ⟨db, 4, none⟩ (.int .i64 0)) ⟨db, 5, none⟩ (.int .i64 0)) ⟨db, 6, none⟩ (.int .i64 0)) ⟨db, 7, none⟩ (.int .u16 0)) ⟨db, 8, none⟩ (.bool false)) db #[.int .i64 0, .int .i64 0, .int .u16 s.r.pc, .int .i64 0, .int .i64 0, .int .i64 0, .int .i64 0, .int .u16 0, .bool false] from D5.out.put9 (⟨0, 0, s.r.pc, noOp, false⟩ : DidV))
       have P6 := Lib.hid (P5.out.off o1 (fun e => DP.out e))
       have O6 := Lib.hid (O5.out.trans (o1.below (fun k hk e => by have := LD.out; have e' : k = db := e; omega) O5.out.size))
       clear o1
       refine hK.out _ _ ?s68 (fun hNew => ?r68)
       case s68 => exact ⟨(HS.out.below O6.out).2.1, trivial⟩
       clear hK K hHeld
       have hHeld := hNew
       clear hNew
       generalize (World.setCell (World.setCell (World.setCell (World.setCell (World.setCell (World.setCell (World.setCell (World.setCell (World.setCell u5 ⟨db, 0, none⟩ (.int .i64 0)) ⟨db, 1, none⟩ (.int .i64 0)) ⟨db, 2, none⟩ (.int .u16 s.r.pc)) ⟨db, 3, none⟩ (.int .i64 0)) ⟨db, 4, none⟩ (.int .i64 0)) ⟨db, 5, none⟩ (.int .i64 0)) ⟨db, 6, none⟩ (.int .i64 0)) ⟨db, 7, none⟩ (.int .u16 0)) ⟨db, 8, none⟩ (.bool false)) = u6 at hHeld P6 D6 O6 ⊢
       refine wpAnyH_done (by kernel_rfl) ?_ _
       clear hHeld
       exact HQ.out pb db _ _ _ _ _ _ _ ⟨O6.out, P6.out, D6.out, LP.out, LD.out, DP.out⟩
 ·skip
  go_simp
  have q := own1 u0 (.cells #[.int .i64 0, .int .i64 0, .int .u16 0, .int .i64 0, .int .i64 0, .int .i64 0, .int .i64 0, .int .u16 0, .bool false] 46)
  have O1 := Lib.hid (via O0.out q)
  have D1 := Lib.hid (Has.new u0 #[.int .i64 0, .int .i64 0, .int .u16 0, .int .i64 0, .int .i64 0, .int .i64 0, .int .i64 0, .int .u16 0, .bool false] 46)
  have LD := Lib.hid O0.out.size
  clear q
  refine hK.out _ _ ?s69 (fun hNew => ?r69)
  case s69 => exact ⟨(HS.out.below O1.out).2.1, trivial⟩
  clear hK K hHeld
  have hHeld := hNew
  clear hNew
  generalize u0.alloc (.cells #[.int .i64 0, .int .i64 0, .int .u16 0, .int .i64 0, .int .i64 0, .int .i64 0, .int .i64 0, .int .u16 0, .bool false] 46) = u1 at hHeld O1 D1 ⊢
  generalize u0.heap.size = db at D1 LD ⊢
  refine wpAnyH_ready (rs := [0, 6]) (by kernel_rfl) (by simp) ?_
  refine (ac rfl (fun K hK => ?_) (ac rfl (fun K hK => ?_) AllReadyH.nil))
  ·skip
   go_simp
   with_reducible refine (new_c u1).mono ?_
   rintro e w' ⟨rfl, rfl⟩
   have q := own1 u1 (.cells Tryz.zeroCells81 81)
   have O2 := Lib.hid (via O1.out q)
   have D2 := Lib.hid (D1.out.below q)
   clear q
   refine hK.out _ _ ?s70 (fun hNew => ?r70)
   case s70 => exact ⟨(HS.out.below O2.out).2.1, trivial⟩
   clear hK K hHeld
   have hHeld := hNew
   clear hNew
   generalize u1.alloc (.cells Tryz.zeroCells81 81) = u2 at hHeld O2 D2 ⊢
   generalize u1.heap.size = tb at ⊢
   refine wpAnyH_ready (rs := [2, 6]) (by kernel_rfl) (by simp) ?_
   refine (ac rfl (fun K hK => ?_) (ac rfl (fun K hK => ?_) AllReadyH.nil))
   ·skip
    go_simp
    with_reducible refine (Step_nb s _ _).mono ?_
    rintro e u3 ⟨rfl, q⟩
    have O3 := Lib.hid (via O2.out q)
    have D3 := Lib.hid (D2.out.below q)
    clear q
    refine hK.out _ _ ?s71 (fun hNew => ?r71)
    case s71 => exact ⟨(HS.out.below O3.out).2.1, trivial⟩
    clear hK K hHeld
    have hHeld := hNew
    clear hNew
    refine tk 3 rfl (v := ?v72) ?y72 ?z72
    case y72 => (intro w hSw; (try dsimp only at hSw); go_simp) <;> with_reducible rfl
    try simp only [Act.put, qqA, qqB, qqC]
    refine tk 4 rfl (v := ?v73) ?y73 ?z73
    case y73 => (intro w hSw; (try dsimp only at hSw); go_simp) <;> with_reducible rfl
    try simp only [Act.put, qqA, qqB, qqC]
    refine tk 5 rfl (v := ?v74) ?y74 ?z74
    case y74 => (intro w hSw; (try dsimp only at hSw); go_simp) <;> with_reducible rfl
    try simp only [Act.put, qqA, qqB, qqC]
    refine wpAnyH_ready (rs := [6]) (by kernel_rfl) (by simp) ?_
    refine (ac rfl (fun K hK => ?_) AllReadyH.nil)
    ·skip
     go_simp
     have q := own1 u3 (.cells #[.int .u8 0, .int .u8 0, .int .u8 0, .int .u8 0, .int .u8 0, .int .u8 0, .int .u8 0, .int .u8 0, .int .u16 0, .int .u16 0, .bool false, .bool false, .bool false, .bool false] 41)
     have O4 := Lib.hid (via O3.out q)
     have D4 := Lib.hid (D3.out.below q)
     have P4 := Lib.hid (Has.new u3 #[.int .u8 0, .int .u8 0, .int .u8 0, .int .u8 0, .int .u8 0, .int .u8 0, .int .u8 0, .int .u8 0, .int .u16 0, .int .u16 0, .bool false, .bool false, .bool false, .bool false] 41)
     have LP := Lib.hid O3.out.size
     have DP := Lib.hid (show db ≠ u3.heap.size by have := D3.out.1; omega)
     clear q
     refine hK.out _ _ ?s75 (fun hNew => ?r75)
     case s75 => exact ⟨(HS.out.below O4.out).2.1, trivial⟩
     clear hK K hHeld
     have hHeld := hNew
     clear hNew
     generalize u3.alloc (.cells #[.int .u8 0, .int .u8 0, .int .u8 0, .int .u8 0, .int .u8 0, .int .u8 0, .int .u8 0, .int .u8 0, .int .u16 0, .int .u16 0, .bool false, .bool false, .bool false, .bool false] 41) = u4 at hHeld O4 D4 P4 ⊢
     generalize u3.heap.size = pb at P4 LP DP ⊢
     refine wpAnyH_ready (rs := [8]) (by kernel_rfl) (by simp) ?_
     refine (ac rfl (fun K hK => ?_) AllReadyH.nil)
     ·skip
      have hcc := P4.out.2.1
      have hfz := P4.out.2.2
      go_simp
      clear hcc hfz
      have o1 : Off (fun k => k = pb) u4 (World.setCell (World.setCell (World.setCell (World.setCell (World.setCell (World.setCell (World.setCell (World.setCell (World.setCell (World.setCell (World.setCell (World.setCell (World.setCell (World.setCell u4 ⟨pb, 0, none⟩ (.int .u8 s.r.a)) ⟨pb, 1, none⟩ (.int .u8 s.r.f)) ⟨pb, 2, none⟩ (.int .u8 s.r.b)) ⟨pb, 3, none⟩ (.int .u8 s.r.c)) ⟨pb, 4, none⟩ (.int .u8 s.r.d)) ⟨pb, 5, none⟩ (.int .u8 s.r.e)) ⟨pb, 6, none⟩ (.int .u8 s.r.h)) ⟨pb, 7, none⟩ (.int .u8 s.r.l)) ⟨pb, 8, none⟩ (.int .u16 s.r.sp)) ⟨pb, 9, none⟩ (.int .u16 s.r.pc)) ⟨pb, 10, none⟩ (.bool s.ime)) ⟨pb, 11, none⟩ (.bool s.soon)) ⟨pb, 12, none⟩ (.bool s.halt)) ⟨pb, 13, none⟩ (.bool s.stop)) := Off.put14 u4 pb s
      have P5 := Lib.hid (show Has (World.setCell (World.setCell (World.setCell (World.setCell (World.setCell (World.setCell (World.setCell (World.setCell (World.setCell (World.setCell (World.setCell (World.setCell (World.setCell (World.setCell u4 ⟨pb, 0, none⟩ (.int .u8 s.r.a)) ⟨pb, 1, none⟩ (.int .u8 s.r.f)) ⟨pb, 2, none⟩ (.int .u8 s.r.b)) ⟨pb, 3, none⟩ (.int .u8 s.r.c)) ⟨pb, 4, none⟩ (.int .u8 s.r.d)) ⟨pb, 5, none⟩ (.int .u8 s.r.e)) ⟨pb, 6, none⟩ (.int .u8 s.r.h)) ⟨pb, 7, none⟩ (.int .u8 s.r.l)) ⟨pb, 8, none⟩ (.int .u16 s.r.sp)) ⟨pb, 9, none⟩ (.int .u16 s.r.pc)) ⟨pb, 10, none⟩ (.bool s.ime)) ⟨pb, 11, none⟩ (.bool s.soon)) ⟨pb, 12, none⟩ (.bool s.halt)) ⟨pb, 13, none⟩ (.bool s.stop)) pb #[.int .u8 s.r.a, .int .u8 s.r.f, .int .u8 s.r.b, .int .u8 s.r.c, .int .u8 s.r.d, .int .u8 s.r.e, .int .u8 s.r.h, .int .u8 s.r.l, .int .u16 s.r.sp, .int .u16 s.r.pc, .bool s.ime, .bool s.soon, .bool s.halt, .bool s.stop] from Has.put14 (s0 := ⟨⟨0, 0, 0, 0, 0, 0, 0, 0, 0, 0⟩, false, false, false, false⟩) P4.out s)
      have D5 := Lib.hid (D4.out.off o1 (fun e => DP.out e))
      have O5 := Lib.hid (O4.out.trans (o1.below (fun k hk e => by have := LP.out; have e' : k = pb := e; omega) O4.out.size))
      clear o1
      refine hK.out _ _ ?s76 (fun hNew => ?r76)
      case s76 => exact ⟨(HS.out.below O5.out).2.1, trivial⟩
      clear hK K hHeld
      have hHeld := hNew
      clear hNew
      generalize (World.setCell (World.setCell (World.setCell (World.setCell (World.setCell (World.setCell (World.setCell (World.setCell (World.setCell (World.setCell (World.setCell (World.setCell (World.setCell (World.setCell u4 ⟨pb, 0, none⟩ (.int .u8 s.r.a)) ⟨pb, 1, none⟩ (.int .u8 s.r.f)) ⟨pb, 2, none⟩ (.int .u8 s.r.b)) ⟨pb, 3, none⟩ (.int .u8 s.r.c)) ⟨pb, 4, none⟩ (.int .u8 s.r.d)) ⟨pb, 5, none⟩ (.int .u8 s.r.e)) ⟨pb, 6, none⟩ (.int .u8 s.r.h)) ⟨pb, 7, none⟩ (.int .u8 s.r.l)) ⟨pb, 8, none⟩ (.int .u16 s.r.sp)) ⟨pb, 9, none⟩ (.int .u16 s.r.pc)) ⟨pb, 10, none⟩ (.bool s.ime)) ⟨pb, 11, none⟩ (.bool s.soon)) ⟨pb, 12, none⟩ (.bool s.halt)) ⟨pb, 13, none⟩ (.bool s.stop)) = u5 at hHeld P5 D5 O5 ⊢
      refine wpAnyH_ready (rs := [9]) (by kernel_rfl) (by simp) ?_
      refine (ac rfl (fun K hK => ?_) AllReadyH.nil)
      ·skip
       have hcc := D5.out.2.1
       have hfz := D5.out.2.2
       go_simp
       clear hcc hfz
       have o1 : Off (fun k => k = db) u5 (World.setCell (World.setCell (World.setCell (World.setCell (World.setCell (World.setCell (World.setCell (World.setCell (World.setCell u5 ⟨db, 0, none⟩ (.int .i64 0)) ⟨db, 1, none⟩ (.int .i64 0)) ⟨db, 2, none⟩ (.int .u16 s.r.pc)) ⟨db, 3, none⟩ (.int .i64 0)) ⟨db, 4, none⟩ (.int .i64 0)) ⟨db, 5, none⟩ (.int .i64 0)) ⟨db, 6, none⟩ (.int .i64 0)) ⟨db, 7, none⟩ (.int .u16 0)) ⟨db, 8, none⟩ (.bool false)) := Off.put9 u5 db (⟨0, 0, s.r.pc, noOp, false⟩ : DidV)
       have D6 := Lib.hid (show Has (World.setCell (World.setCell (World.setCell (World.setCell (World.setCell (World.setCell (World.setCell (World.setCell (World.setCell u5 ⟨db, 0, none⟩ (.int .i64 0)) ⟨db, 1, none⟩ (.int .i64 0)) ⟨db, 2, none⟩ (.int .u16 s.r.pc)) ⟨db, 3, none⟩ (.int .i64 0)) ⟨db, 4, none⟩ (.int .i64 0)) ⟨db, 5, none⟩ (.int .i64 0)) ⟨db, 6, none⟩ (.int .i64 0)) ⟨db, 7, none⟩ (.int .u16 0)) ⟨db, 8, none⟩ (.bool false)) db #[.int .i64 0, .int .i64 0, .int .u16 s.r.pc, .int .i64 0, .int .i64 0, .int .i64 0, .int .i64 0, .int .u16 0, .bool false] from D5.out.put9 (⟨0, 0, s.r.pc, noOp, false⟩ : DidV))
       have P6 := Lib.hid (P5.out.off o1 (fun e => DP.out e.symm))
       have O6 := Lib.hid (O5.out.trans (o1.below (fun k hk e => by have := LD.out; have e' : k = db := e; omega) O5.out.size))
       clear o1
       refine hK.out _ _ ?s77 (fun hNew => ?r77)
       case s77 => exact ⟨(HS.out.below O6.out).2.1, trivial⟩
       clear hK K hHeld
       have hHeld := hNew
       clear hNew
       generalize (World.setCell (World.setCell (World.setCell (World.setCell (World.setCell (World.setCell (World.setCell (World.setCell (World.setCell u5 ⟨db, 0, none⟩ (.int .i64 0)) ⟨db, 1, none⟩ (.int .i64 0)) ⟨db, 2, none⟩ (.int .u16 s.r.pc)) ⟨db, 3, none⟩ (.int .i64 0)) ⟨db, 4, none⟩ (.int .i64 0)) ⟨db, 5, none⟩ (.int .i64 0)) ⟨db, 6, none⟩ (.int .i64 0)) ⟨db, 7, none⟩ (.int .u16 0)) ⟨db, 8, none⟩ (.bool false)) = u6 at hHeld P6 D6 O6 ⊢
       refine wpAnyH_done (by kernel_rfl) ?_ _
       clear hHeld
       exact HQ.out pb db _ _ _ _ _ _ _ ⟨O6.out, P6.out, D6.out, LP.out, LD.out, DP.out.symm⟩
   ·skip
    go_simp
    have q := own1 u2 (.cells #[.int .u8 0, .int .u8 0, .int .u8 0, .int .u8 0, .int .u8 0, .int .u8 0, .int .u8 0, .int .u8 0, .int .u16 0, .int .u16 0, .bool false, .bool false, .bool false, .bool false] 41)
    have O3 := Lib.hid (via O2.out q)
    have D3 := Lib.hid (D2.out.below q)
    have P3 := Lib.hid (Has.new u2 #[.int .u8 0, .int .u8 0, .int .u8 0, .int .u8 0, .int .u8 0, .int .u8 0, .int .u8 0, .int .u8 0, .int .u16 0, .int .u16 0, .bool false, .bool false, .bool false, .bool false] 41)
    have LP := Lib.hid O2.out.size
    have DP := Lib.hid (show db ≠ u2.heap.size by have := D2.out.1; omega)
    clear q
    refine hK.out _ _ ?s78 (fun hNew => ?r78)
    case s78 => exact ⟨(HS.out.below O3.out).2.1, trivial⟩
    clear hK K hHeld
    have hHeld := hNew
    clear hNew
    generalize u2.alloc (.cells #[.int .u8 0, .int .u8 0, .int .u8 0, .int .u8 0, .int .u8 0, .int .u8 0, .int .u8 0, .int .u8 0, .int .u16 0, .int .u16 0, .bool false, .bool false, .bool false, .bool false] 41) = u3 at hHeld O3 D3 P3 ⊢
    generalize u2.heap.size = pb at P3 LP DP ⊢
    refine wpAnyH_ready (rs := [2]) (by kernel_rfl) (by simp) ?_
    refine (ac rfl (fun K hK => ?_) AllReadyH.nil)
    ·skip
     go_simp
     with_reducible refine (Step_nb s _ _).mono ?_
     rintro e u4 ⟨rfl, q⟩
     have O4 := Lib.hid (via O3.out q)
     have P4 := Lib.hid (P3.out.below q)
     have D4 := Lib.hid (D3.out.below q)
     clear q
     refine hK.out _ _ ?s79 (fun hNew => ?r79)
     case s79 => exact ⟨(HS.out.below O4.out).2.1, trivial⟩
     clear hK K hHeld
     have hHeld := hNew
     clear hNew
     refine tk 3 rfl (v := ?v80) ?y80 ?z80
     case y80 => (intro w hSw; (try dsimp only at hSw); go_simp) <;> with_reducible rfl
     try simp only [Act.put, qqA, qqB, qqC]
     refine tk 4 rfl (v := ?v81) ?y81 ?z81
     case y81 => (intro w hSw; (try dsimp only at hSw); go_simp) <;> with_reducible rfl
     try simp only [Act.put, qqA, qqB, qqC]
     refine tk 5 rfl (v := ?v82) ?y82 ?z82
     case y82 => (intro w hSw; (try dsimp only at hSw); go_simp) <;> with_reducible rfl
     try simp only [Act.put, qqA, qqB, qqC]
     refine wpAnyH_ready (rs := [8]) (by kernel_rfl) (by simp) ?_
     refine (ac rfl (fun K hK => ?_) AllReadyH.nil)
     ·skip
      have hcc := P4.out.2.1
      have hfz := P4.out.2.2
      go_simp
      clear hcc hfz
      have o1 : Off (fun k => k = pb) u4 (World.setCell (World.setCell (World.setCell (World.setCell (World.setCell (World.setCell (World.setCell (World.setCell (World.setCell (World.setCell (World.setCell (World.setCell (World.setCell (World.setCell u4 ⟨pb, 0, none⟩ (.int .u8 s.r.a)) ⟨pb, 1, none⟩ (.int .u8 s.r.f)) ⟨pb, 2, none⟩ (.int .u8 s.r.b)) ⟨pb, 3, none⟩ (.int .u8 s.r.c)) ⟨pb, 4, none⟩ (.int .u8 s.r.d)) ⟨pb, 5, none⟩ (.int .u8 s.r.e)) ⟨pb, 6, none⟩ (.int .u8 s.r.h)) ⟨pb, 7, none⟩ (.int .u8 s.r.l)) ⟨pb, 8, none⟩ (.int .u16 s.r.sp)) ⟨pb, 9, none⟩ (.int .u16 s.r.pc)) ⟨pb, 10, none⟩ (.bool s.ime)) ⟨pb, 11, none⟩ (.bool s.soon)) ⟨pb, 12, none⟩ (.bool s.halt)) ⟨pb, 13, none⟩ (.bool s.stop)) := Off.put14 u4 pb s
      have P5 := Lib.hid (show Has (World.setCell (World.setCell (World.setCell (World.setCell (World.setCell (World.setCell (World.setCell (World.setCell (World.setCell (World.setCell (World.setCell (World.setCell (World.setCell (World.setCell u4 ⟨pb, 0, none⟩ (.int .u8 s.r.a)) ⟨pb, 1, none⟩ (.int .u8 s.r.f)) ⟨pb, 2, none⟩ (.int .u8 s.r.b)) ⟨pb, 3, none⟩ (.int .u8 s.r.c)) ⟨pb, 4, none⟩ (.int .u8 s.r.d)) ⟨pb, 5, none⟩ (.int .u8 s.r.e)) ⟨pb, 6, none⟩ (.int .u8 s.r.h)) ⟨pb, 7, none⟩ (.int .u8 s.r.l)) ⟨pb, 8, none⟩ (.int .u16 s.r.sp)) ⟨pb, 9, none⟩ (.int .u16 s.r.pc)) ⟨pb, 10, none⟩ (.bool s.ime)) ⟨pb, 11, none⟩ (.bool s.soon)) ⟨pb, 12, none⟩ (.bool s.halt)) ⟨pb, 13, none⟩ (.bool s.stop)) pb #[.int .u8 s.r.a, .int .u8 s.r.f, .int .u8 s.r.b, .int .u8 s.r.c, .int .u8 s.r.d, .int .u8 s.r.e, .int .u8 s.r.h, .int .u8 s.r.l, .int .u16 s.r.sp, .int .u16 s.r.pc, .bool s.ime, .bool s.soon, .bool s.halt, .bool s.stop] from Has.put14 (s0 := ⟨⟨0, 0, 0, 0, 0, 0, 0, 0, 0, 0⟩, false, false, false, false⟩) P4.out s)
      have D5 := Lib.hid (D4.out.off o1 (fun e => DP.out e))
      have O5 := Lib.hid (O4.out.trans (o1.below (fun k hk e => by have := LP.out; have e' : k = pb := e; omega) O4.out.size))
      clear o1
      refine hK.out _ _ ?s83 (fun hNew => ?r83)
      case s83 => exact ⟨(HS.out.below O5.out).2.1, trivial⟩
      clear hK K hHeld
      have hHeld := hNew
      clear hNew
      generalize (World.setCell (World.setCell (World.setCell (World.setCell (World.setCell (World.setCell (World.setCell (World.setCell (World.setCell (World.setCell (World.setCell (World.setCell (World.setCell (World.setCell u4 ⟨pb, 0, none⟩ (.int .u8 s.r.a)) ⟨pb, 1, none⟩ (.int .u8 s.r.f)) ⟨pb, 2, none⟩ (.int .u8 s.r.b)) ⟨pb, 3, none⟩ (.int .u8 s.r.c)) ⟨pb, 4, none⟩ (.int .u8 s.r.d)) ⟨pb, 5, none⟩ (.int .u8 s.r.e)) ⟨pb, 6, none⟩ (.int .u8 s.r.h)) ⟨pb, 7, none⟩ (.int .u8 s.r.l)) ⟨pb, 8, none⟩ (.int .u16 s.r.sp)) ⟨pb, 9, none⟩ (.int .u16 s.r.pc)) ⟨pb, 10, none⟩ (.bool s.ime)) ⟨pb, 11, none⟩ (.bool s.soon)) ⟨pb, 12, none⟩ (.bool s.halt)) ⟨pb, 13, none⟩ (.bool s.stop)) = u5 at hHeld P5 D5 O5 ⊢
      refine wpAnyH_ready (rs := [9]) (by kernel_rfl) (by simp) ?_
      refine (ac rfl (fun K hK => ?_) AllReadyH.nil)
      ·skip
       have hcc := D5.out.2.1
       have hfz := D5.out.2.2
       go_simp
       clear hcc hfz
       have o1 : Off (fun k => k = db) u5 (World.setCell (World.setCell (World.setCell (World.setCell (World.setCell (World.setCell (World.setCell (World.setCell (World.setCell u5 ⟨db, 0, none⟩ (.int .i64 0)) ⟨db, 1, none⟩ (.int .i64 0)) ⟨db, 2, none⟩ (.int .u16 s.r.pc)) ⟨db, 3, none⟩ (.int .i64 0)) ⟨db, 4, none⟩ (.int .i64 0)) ⟨db, 5, none⟩ (.int .i64 0)) ⟨db, 6, none⟩ (.int .i64 0)) ⟨db, 7, none⟩ (.int .u16 0)) ⟨db, 8, none⟩ (.bool false)) := Off.put9 u5 db (⟨0, 0, s.r.pc, noOp, false⟩ : DidV)
       have D6 := Lib.hid (show Has (World.setCell (World.setCell (World.setCell (World.setCell (World.setCell (World.setCell (World.setCell (World.setCell (World.setCell u5 ⟨db, 0, none⟩ (.int .i64 0)) ⟨db, 1, none⟩ (.int .i64 0)) ⟨db, 2, none⟩ (.int .u16 s.r.pc)) ⟨db, 3, none⟩ (.int .i64 0)) ⟨db, 4, none⟩ (.int .i64 0)) ⟨db, 5, none⟩ (.int .i64 0)) ⟨db, 6, none⟩ (.int .i64 0)) ⟨db, 7, none⟩ (.int .u16 0)) ⟨db, 8, none⟩ (.bool false)) db #[.int .i64 0, .int .i64 0, .int .u16 s.r.pc, .int .i64 0, .int .i64 0, .int .i64 0, .int .i64 0, .int .u16 0, .bool false] from D5.out.put9 (⟨0, 0, s.r.pc, noOp, false⟩ : DidV))
       have P6 := Lib.hid (P5.out.off o1 (fun e => DP.out e.symm))
       have O6 := Lib.hid (O5.out.trans (o1.below (fun k hk e => by have := LD.out; have e' : k = db := e; omega) O5.out.size))
       clear o1
       refine hK.out _ _ ?s84 (fun hNew => ?r84)
       case s84 => exact ⟨(HS.out.below O6.out).2.1, trivial⟩
       clear hK K hHeld
       have hHeld := hNew
       clear hNew
       generalize (World.setCell (World.setCell (World.setCell (World.setCell (World.setCell (World.setCell (World.setCell (World.setCell (World.setCell u5 ⟨db, 0, none⟩ (.int .i64 0)) ⟨db, 1, none⟩ (.int .i64 0)) ⟨db, 2, none⟩ (.int .u16 s.r.pc)) ⟨db, 3, none⟩ (.int .i64 0)) ⟨db, 4, none⟩ (.int .i64 0)) ⟨db, 5, none⟩ (.int .i64 0)) ⟨db, 6, none⟩ (.int .i64 0)) ⟨db, 7, none⟩ (.int .u16 0)) ⟨db, 8, none⟩ (.bool false)) = u6 at hHeld P6 D6 O6 ⊢
       refine wpAnyH_done (by kernel_rfl) ?_ _
       clear hHeld
       exact HQ.out pb db _ _ _ _ _ _ _ ⟨O6.out, P6.out, D6.out, LP.out, LD.out, DP.out.symm⟩
  ·skip
   go_simp
   have q := own1 u1 (.cells #[.int .u8 0, .int .u8 0, .int .u8 0, .int .u8 0, .int .u8 0, .int .u8 0, .int .u8 0, .int .u8 0, .int .u16 0, .int .u16 0, .bool false, .bool false, .bool false, .bool false] 41)
   have O2 := Lib.hid (via O1.out q)
   have D2 := Lib.hid (D1.out.below q)
   have P2 := Lib.hid (Has.new u1 #[.int .u8 0, .int .u8 0, .int .u8 0, .int .u8 0, .int .u8 0, .int .u8 0, .int .u8 0, .int .u8 0, .int .u16 0, .int .u16 0, .bool false, .bool false, .bool false, .bool false] 41)
   have LP := Lib.hid O1.out.size
   have DP := Lib.hid (show db ≠ u1.heap.size by have := D1.out.1; omega)
   clear q
   refine hK.out _ _ ?s85 (fun hNew => ?r85)
   case s85 => exact ⟨(HS.out.below O2.out).2.1, trivial⟩
   clear hK K hHeld
   have hHeld := hNew
   clear hNew
   generalize u1.alloc (.cells #[.int .u8 0, .int .u8 0, .int .u8 0, .int .u8 0, .int .u8 0, .int .u8 0, .int .u8 0, .int .u8 0, .int .u16 0, .int .u16 0, .bool false, .bool false, .bool false, .bool false] 41) = u2 at hHeld O2 D2 P2 ⊢
   generalize u1.heap.size = pb at P2 LP DP ⊢
   refine wpAnyH_ready (rs := [0]) (by kernel_rfl) (by simp) ?_
   refine (ac rfl (fun K hK => ?_) AllReadyH.nil)
   ·skip
    go_simp
    with_reducible refine (new_c u2).mono ?_
    rintro e w' ⟨rfl, rfl⟩
    have q := own1 u2 (.cells Tryz.zeroCells81 81)
    have O3 := Lib.hid (via O2.out q)
    have P3 := Lib.hid (P2.out.below q)
    have D3 := Lib.hid (D2.out.below q)
    clear q
    refine hK.out _ _ ?s86 (fun hNew => ?r86)
    case s86 => exact ⟨(HS.out.below O3.out).2.1, trivial⟩
    clear hK K hHeld
    have hHeld := hNew
    clear hNew
    generalize u2.alloc (.cells Tryz.zeroCells81 81) = u3 at hHeld O3 P3 D3 ⊢
    generalize u2.heap.size = tb at ⊢
    refine wpAnyH_ready (rs := [2]) (by kernel_rfl) (by simp) ?_
    refine (ac rfl (fun K hK => ?_) AllReadyH.nil)
    ·skip
     go_simp
     with_reducible refine (Step_nb s _ _).mono ?_
     rintro e u4 ⟨rfl, q⟩
     have O4 := Lib.hid (via O3.out q)
     have P4 := Lib.hid (P3.out.below q)
     have D4 := Lib.hid (D3.out.below q)
     clear q
     refine hK.out _ _ ?s87 (fun hNew => ?r87)
     case s87 => exact ⟨(HS.out.below O4.out).2.1, trivial⟩
     clear hK K hHeld
     have hHeld := hNew
     clear hNew
     refine tk 3 rfl (v := ?v88) ?y88 ?z88
     case y88 => (intro w hSw; (try dsimp only at hSw); go_simp) <;> with_reducible rfl
     try simp only [Act.put, qqA, qqB, qqC]
     refine tk 4 rfl (v := ?v89) ?y89 ?z89
     case y89 => (intro w hSw; (try dsimp only at hSw); go_simp) <;> with_reducible rfl
     try simp only [Act.put, qqA, qqB, qqC]
     refine tk 5 rfl (v := ?v90) ?y90 ?z90
     case y90 => (intro w hSw; (try dsimp only at hSw); go_simp) <;> with_reducible rfl
     try simp only [Act.put, qqA, qqB, qqC]
     refine wpAnyH_ready (rs := [8]) (by kernel_rfl) (by simp) ?_
     refine (ac rfl (fun K hK => ?_) AllReadyH.nil)
     ·skip
      have hcc := P4.out.2.1
      have hfz := P4.out.2.2
      go_simp
      clear hcc hfz
      have o1 : Off (fun k => k = pb) u4 (World.setCell (World.setCell (World.setCell (World.setCell (World.setCell (World.setCell (World.setCell (World.setCell (World.setCell (World.setCell (World.setCell (World.setCell (World.setCell (World.setCell u4 ⟨pb, 0, none⟩ (.int .u8 s.r.a)) ⟨pb, 1, none⟩ (.int .u8 s.r.f)) ⟨pb, 2, none⟩ (.int .u8 s.r.b)) ⟨pb, 3, none⟩ (.int .u8 s.r.c)) ⟨pb, 4, none⟩ (.int .u8 s.r.d)) ⟨pb, 5, none⟩ (.int .u8 s.r.e)) ⟨pb, 6, none⟩ (.int .u8 s.r.h)) ⟨pb, 7, none⟩ (.int .u8 s.r.l)) ⟨pb, 8, none⟩ (.int .u16 s.r.sp)) ⟨pb, 9, none⟩ (.int .u16 s.r.pc)) ⟨pb, 10, none⟩ (.bool s.ime)) ⟨pb, 11, none⟩ (.bool s.soon)) ⟨pb, 12, none⟩ (.bool s.halt)) ⟨pb, 13, none⟩ (.bool s.stop)) := Off.put14 u4 pb s
      have P5 := Lib.hid (show Has (World.setCell (World.setCell (World.setCell (World.setCell (World.setCell (World.setCell (World.setCell (World.setCell (World.setCell (World.setCell (World.setCell (World.setCell (World.setCell (World.setCell u4 ⟨pb, 0, none⟩ (.int .u8 s.r.a)) ⟨pb, 1, none⟩ (.int .u8 s.r.f)) ⟨pb, 2, none⟩ (.int .u8 s.r.b)) ⟨pb, 3, none⟩ (.int .u8 s.r.c)) ⟨pb, 4, none⟩ (.int .u8 s.r.d)) ⟨pb, 5, none⟩ (.int .u8 s.r.e)) ⟨pb, 6, none⟩ (.int .u8 s.r.h)) ⟨pb, 7, none⟩ (.int .u8 s.r.l)) ⟨pb, 8, none⟩ (.int .u16 s.r.sp)) ⟨pb, 9, none⟩ (.int .u16 s.r.pc)) ⟨pb, 10, none⟩ (.bool s.ime)) ⟨pb, 11, none⟩ (.bool s.soon)) ⟨pb, 12, none⟩ (.bool s.halt)) ⟨pb, 13, none⟩ (.bool s.stop)) pb #[.int .u8 s.r.a, .int .u8 s.r.f, .int .u8 s.r.b, .int .u8 s.r.c, .int .u8 s.r.d, .int .u8 s.r.e, .int .u8 s.r.h, .int .u8 s.r.l, .int .u16 s.r.sp, .int .u16 s.r.pc, .bool s.ime, .bool s.soon, .bool s.halt, .bool s.stop] from Has.put14 (s0 := ⟨⟨0, 0, 0, 0, 0, 0, 0, 0, 0, 0⟩, false, false, false, false⟩) P4.out s)
      have D5 := Lib.hid (D4.out.off o1 (fun e => DP.out e))
      have O5 := Lib.hid (O4.out.trans (o1.below (fun k hk e => by have := LP.out; have e' : k = pb := e; omega) O4.out.size))
      clear o1
      refine hK.out _ _ ?s91 (fun hNew => ?r91)
      case s91 => exact ⟨(HS.out.below O5.out).2.1, trivial⟩
      clear hK K hHeld
      have hHeld := hNew
      clear hNew
      generalize (World.setCell (World.setCell (World.setCell (World.setCell (World.setCell (World.setCell (World.setCell (World.setCell (World.setCell (World.setCell (World.setCell (World.setCell (World.setCell (World.setCell u4 ⟨pb, 0, none⟩ (.int .u8 s.r.a)) ⟨pb, 1, none⟩ (.int .u8 s.r.f)) ⟨pb, 2, none⟩ (.int .u8 s.r.b)) ⟨pb, 3, none⟩ (.int .u8 s.r.c)) ⟨pb, 4, none⟩ (.int .u8 s.r.d)) ⟨pb, 5, none⟩ (.int .u8 s.r.e)) ⟨pb, 6, none⟩ (.int .u8 s.r.h)) ⟨pb, 7, none⟩ (.int .u8 s.r.l)) ⟨pb, 8, none⟩ (.int .u16 s.r.sp)) ⟨pb, 9, none⟩ (.int .u16 s.r.pc)) ⟨pb, 10, none⟩ (.bool s.ime)) ⟨pb, 11, none⟩ (.bool s.soon)) ⟨pb, 12, none⟩ (.bool s.halt)) ⟨pb, 13, none⟩ (.bool s.stop)) = u5 at hHeld P5 D5 O5 ⊢
      refine wpAnyH_ready (rs := [9]) (by kernel_rfl) (by simp) ?_
      refine (ac rfl (fun K hK => ?_) AllReadyH.nil)
      ·skip
       have hcc := D5.out.2.1
       have hfz := D5.out.2.2
       go_simp
       clear hcc hfz
       have o1 : Off (fun k => k = db) u5 (World.setCell (World.setCell (World.setCell (World.setCell (World.setCell (World.setCell (World.setCell (World.setCell (World.setCell u5 ⟨db, 0, none⟩ (.int .i64 0)) ⟨db, 1, none⟩ (.int .i64 0)) ⟨db, 2, none⟩ (.int .u16 s.r.pc)) ⟨db, 3, none⟩ (.int .i64 0)) ⟨db, 4, none⟩ (.int .i64 0)) ⟨db, 5, none⟩ (.int .i64 0)) ⟨db, 6, none⟩ (.int .i64 0)) ⟨db, 7, none⟩ (.int .u16 0)) ⟨db, 8, none⟩ (.bool false)) := Off.put9 u5 db (⟨0, 0, s.r.pc, noOp, false⟩ : DidV)
       have D6 := Lib.hid (show Has (World.setCell (World.setCell (World.setCell (World.setCell (World.setCell (World.setCell (World.setCell (World.setCell (World.setCell u5 ⟨db, 0, none⟩ (.int .i64 0)) ⟨db, 1, none⟩ (.int .i64 0)) ⟨db, 2, none⟩ (.int .u16 s.r.pc)) ⟨db, 3, none⟩ (.int .i64 0)) ⟨db, 4, none⟩ (.int .i64 0)) ⟨db, 5, none⟩ (.int .i64 0)) ⟨db, 6, none⟩ (.int .i64 0)) ⟨db, 7, none⟩ (.int .u16 0)) ⟨db, 8, none⟩ (.bool false)) db #[.int .i64 0, .int .i64 0, .int .u16 s.r.pc, .int .i64 0, .int .i64 0, .int .i64 0, .int .i64 0, .int .u16 0, .bool false] from D5.out.put9 (⟨0, 0, s.r.pc, noOp, false⟩ : DidV))
       have P6 := Lib.hid (P5.out.off o1 (fun e => DP.out e.symm))
       have O6 := Lib.hid (O5.out.trans (o1.below (fun k hk e => by have := LD.out; have e' : k = db := e; omega) O5.out.size))
       clear o1
       refine hK.out _ _ ?s92 (fun hNew => ?r92)
       case s92 => exact ⟨(HS.out.below O6.out).2.1, trivial⟩
       clear hK K hHeld
       have hHeld := hNew
       clear hNew
       generalize (World.setCell (World.setCell (World.setCell (World.setCell (World.setCell (World.setCell (World.setCell (World.setCell (World.setCell u5 ⟨db, 0, none⟩ (.int .i64 0)) ⟨db, 1, none⟩ (.int .i64 0)) ⟨db, 2, none⟩ (.int .u16 s.r.pc)) ⟨db, 3, none⟩ (.int .i64 0)) ⟨db, 4, none⟩ (.int .i64 0)) ⟨db, 5, none⟩ (.int .i64 0)) ⟨db, 6, none⟩ (.int .i64 0)) ⟨db, 7, none⟩ (.int .u16 0)) ⟨db, 8, none⟩ (.bool false)) = u6 at hHeld P6 D6 O6 ⊢
       refine wpAnyH_done (by kernel_rfl) ?_ _
       clear hHeld
       exact HQ.out pb db _ _ _ _ _ _ _ ⟨O6.out, P6.out, D6.out, LP.out, LD.out, DP.out.symm⟩
end Go.Proofs.YtngdogldgcgnjaaGreat
