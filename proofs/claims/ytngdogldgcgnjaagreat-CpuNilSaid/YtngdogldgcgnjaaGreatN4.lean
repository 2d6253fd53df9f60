/-
  CpuNil: what the step with no table leaves, in whatever order its operations run; no condition but those that it names.
-/
import Derived.Test.YtngdogldgcgnjaaGreatN5
import Derived.Deep.Cut
namespace Go.Proofs.YtngdogldgcgnjaaGreat
open Go.ChangeShapes Go.WideShapes Go.ChangeAt Go.RowKit
open Reg
set_option linter.unusedVariables false
set_option maxRecDepth 100000
set_option maxHeartbeats 8000000 in
theorem nreg4 (wc : World) (sb : Nat) (s : St) (hs : Has wc sb #[.int .u8 s.r.a, .int .u8 s.r.f, .int .u8 s.r.b, .int .u8 s.r.c, .int .u8 s.r.d, .int .u8 s.r.e, .int .u8 s.r.h, .int .u8 s.r.l, .int .u16 s.r.sp, .int .u16 s.r.pc, .bool s.ime, .bool s.soon, .bool s.halt, .bool s.stop]) (c0 c1 c2 c3 c4 c5 c6 c8 c9 c10 c11 c12 c13 c14 c15 c16 c17 c18 c19 c20 c21 c22 c23 c24 c25 c26 c27 c28 c29 c30 c31 c32 c33 c34 c35 c36 c37 c38 c39 c40 c41 c42 c43 c44 c45 c46 c47 c48 c49 c50 c51 c52 c53 c54 c55 c56 c57 c58 c59 c60 c61 c62 c63 c64 c65 c66 c67 c68 c69 c70 c71 c72 c73 c74 c75 c76 c77 c78 c79 c80 c81 c82 c83 c84 c85 c86 c87 c88 c89 c90 c91 c92 c93 c94 c95 c96 c97 c98 c99 c100 c101 c102 c103 c104 c105 c106 c107 c108 c109 c110 c111 c112 c113 c114 c115 c116 c117 c118 c119 c120 c121 c122 c123 c124 c125 c126 c127 c128 c129 c130 c131 c132 c133 c134 c135 c136 c137 c138 c139 c140 c141 c142 c143 c144 c145 c146 c147 c148 c149 c150 c151 c152 c153 c154 c155 c156 c157 c158 c159 c160 c161 c162 c163 c164 c165 c166 c167 c168 c169 c170 c171 c172 c173 c174 c175 c176 c177 c178 c179 c180 : Value) (Kz : Act → World → Prop) (Pz : Ending → World → Prop)
  (hQ : ∀ (pb db : Nat) (d34 d35 d36 d37 d38 d39 d40 d41 d42 : Value) (wx : World), FinZ wc wx pb db s → Kz ⟨#[c0, c1, c2, c3, c4, c5, c6, .pointer (some ⟨sb, 0, none⟩), .pointer (some ⟨pb, 0, none⟩), .pointer (some ⟨db, 0, none⟩), c10, c11, c12, c13, c14, c15, c16, c17, c18, c19, c20, c21, c22, c23, c24, c25, c26, c27, c28, c29, c30, c31, c32, c33, d34, d35, d36, d37, d38, d39, d40, d41, d42, c43, c44, c45, c46, c47, c48, c49, c50, c51, c52, c53, c54, c55, c56, c57, c58, c59, c60, c61, c62, c63, c64, c65, c66, c67, c68, c69, c70, c71, c72, c73, c74, c75, c76, c77, c78, c79, c80, c81, c82, c83, c84, c85, c86, c87, c88, c89, c90, c91, c92, c93, c94, c95, c96, c97, c98, c99, c100, c101, c102, c103, c104, c105, c106, c107, c108, c109, c110, c111, c112, c113, c114, c115, c116, c117, c118, c119, c120, c121, c122, c123, c124, c125, c126, c127, c128, c129, c130, c131, c132, c133, c134, c135, c136, c137, c138, c139, c140, c141, c142, c143, c144, c145, c146, c147, c148, c149, c150, c151, c152, c153, c154, c155, c156, c157, c158, c159, c160, c161, c162, c163, c164, c165, c166, c167, c168, c169, c170, c171, c172, c173, c174, c175, c176, c177, c178, c179, c180], []⟩ wx) :
  Code.wp Tryz.prog (.region 4 #[{ dst := some 35, op := Go.Op.load 41 (Go.Operand.tmp 7), type := 41, pos := "law.go:237", after := #[], guard := none }, { dst := some 36, op := Go.Op.makeSlice 27 (Go.Operand.const (Go.Value.int Go.IntKind.i64 65536)) (Go.Operand.const (Go.Value.int Go.IntKind.i64 65536)), type := 27, pos := "law.go:237", after := #[], guard := none }, { dst := some 37, op := Go.Op.build 35 #[(0, Go.Operand.tmp 36)], type := 35, pos := "law.go:237", after := #[{ on := 1, ground := Go.Ground.data }], guard := none }, { dst := some 38, op := Go.Op.box 35 (Go.Operand.tmp 37), type := 31, pos := "law.go:237", after := #[{ on := 2, ground := Go.Ground.data }], guard := none }, { dst := some 39, op := Go.Op.makeInterface 31 (Go.Operand.tmp 38), type := 83, pos := "law.go:237", after := #[{ on := 3, ground := Go.Ground.data }], guard := none }, { dst := some 40, op := Go.Op.call { callee := Go.Callee.value (Go.Operand.func 14), args := #[Go.Operand.const (Go.Value.pointer none), Go.Operand.tmp 35, Go.Operand.tmp 39], argTypes := #[29, 41, 83] }, type := 50, pos := "law.go:237", after := #[{ on := 0, ground := Go.Ground.data }, { on := 4, ground := Go.Ground.data }], guard := none }, { dst := some 34, op := Go.Op.move (Go.Operand.tmp 40), type := 50, pos := "law.go:237", after := #[{ on := 5, ground := Go.Ground.data }], guard := none }, { dst := some 41, op := Go.Op.extract (Go.Operand.tmp 34) 0, type := 41, pos := "law.go:237", after := #[{ on := 6, ground := Go.Ground.data }], guard := none }, { dst := some 42, op := Go.Op.extract (Go.Operand.tmp 34) 1, type := 46, pos := "law.go:237", after := #[{ on := 6, ground := Go.Ground.data }, { on := 11, ground := Go.Ground.gcOnly Go.Departure.lateStores }], guard := none }, { dst := some 8, op := Go.Op.alloc 41, type := 0, pos := "law.go:237", after := #[], guard := none }, { dst := some 9, op := Go.Op.alloc 46, type := 0, pos := "law.go:237", after := #[], guard := none }, { dst := none, op := Go.Op.store 41 (Go.Operand.tmp 8) (Go.Operand.tmp 41), type := 0, pos := "law.go:237", after := #[{ on := 9, ground := Go.Ground.data }, { on := 7, ground := Go.Ground.data }, { on := 5, ground := Go.Ground.chain }, { on := 0, ground := Go.Ground.phase }, { on := 1, ground := Go.Ground.phase }, { on := 2, ground := Go.Ground.phase }, { on := 3, ground := Go.Ground.phase }, { on := 4, ground := Go.Ground.phase }, { on := 5, ground := Go.Ground.phase }, { on := 6, ground := Go.Ground.phase }, { on := 7, ground := Go.Ground.phase }, { on := 8, ground := Go.Ground.textOnly Go.Departure.lateStores }, { on := 9, ground := Go.Ground.phase }, { on := 10, ground := Go.Ground.phase }], guard := none }, { dst := none, op := Go.Op.store 46 (Go.Operand.tmp 9) (Go.Operand.tmp 42), type := 0, pos := "law.go:237", after := #[{ on := 10, ground := Go.Ground.data }, { on := 8, ground := Go.Ground.data }, { on := 11, ground := Go.Ground.chain }, { on := 0, ground := Go.Ground.phase }, { on := 1, ground := Go.Ground.phase }, { on := 2, ground := Go.Ground.phase }, { on := 3, ground := Go.Ground.phase }, { on := 4, ground := Go.Ground.phase }, { on := 5, ground := Go.Ground.phase }, { on := 6, ground := Go.Ground.phase }, { on := 7, ground := Go.Ground.phase }, { on := 8, ground := Go.Ground.phase }, { on := 9, ground := Go.Ground.phase }, { on := 10, ground := Go.Ground.phase }, { on := 11, ground := Go.Ground.phase }], guard := none }] true) (Exit.then Kz (bodyPost Tryz.prog Tryz.f9 Pz)) ⟨#[c0, c1, c2, c3, c4, c5, c6, .pointer (some ⟨sb, 0, none⟩), c8, c9, c10, c11, c12, c13, c14, c15, c16, c17, c18, c19, c20, c21, c22, c23, c24, c25, c26, c27, c28, c29, c30, c31, c32, c33, c34, c35, c36, c37, c38, c39, c40, c41, c42, c43, c44, c45, c46, c47, c48, c49, c50, c51, c52, c53, c54, c55, c56, c57, c58, c59, c60, c61, c62, c63, c64, c65, c66, c67, c68, c69, c70, c71, c72, c73, c74, c75, c76, c77, c78, c79, c80, c81, c82, c83, c84, c85, c86, c87, c88, c89, c90, c91, c92, c93, c94, c95, c96, c97, c98, c99, c100, c101, c102, c103, c104, c105, c106, c107, c108, c109, c110, c111, c112, c113, c114, c115, c116, c117, c118, c119, c120, c121, c122, c123, c124, c125, c126, c127, c128, c129, c130, c131, c132, c133, c134, c135, c136, c137, c138, c139, c140, c141, c142, c143, c144, c145, c146, c147, c148, c149, c150, c151, c152, c153, c154, c155, c156, c157, c158, c159, c160, c161, c162, c163, c164, c165, c166, c167, c168, c169, c170, c171, c172, c173, c174, c175, c176, c177, c178, c179, c180], []⟩ wc := by
 have HQ := Lib.hid hQ
 have HS := Lib.hid hs
 have O0 := Lib.hid (Below.refl wc.heap.size wc).drew
 clear hQ hs
 refine wp_region_held_drew (S := (fun w' => (∀ o, w'.cell? ⟨sb, o, none⟩ = #[.int .u8 s.r.a, .int .u8 s.r.f, .int .u8 s.r.b, .int .u8 s.r.c, .int .u8 s.r.d, .int .u8 s.r.e, .int .u8 s.r.h, .int .u8 s.r.l, .int .u16 s.r.sp, .int .u16 s.r.pc, .bool s.ime, .bool s.soon, .bool s.halt, .bool s.stop][o]?) ∧ True)) (by kernel_rfl) ⟨(HS.out.below O0.out).2.1, trivial⟩ (fun hHeld => ?_)
 generalize World.drew wc = u0 at hHeld O0 ⊢
 refine tk 0 rfl (v := ?v93) ?y93 ?z93
 case y93 => (intro w hSw; (try dsimp only at hSw); go_simp) <;> with_reducible rfl
 try simp only [Act.put, qqA, qqB, qqC]
 refine wpAnyH_ready (rs := [1, 9, 10]) (by kernel_rfl) (by simp) ?_
 refine (ac rfl (fun K hK => ?_) (ac rfl (fun K hK => ?_) (ac rfl (fun K hK => ?_) AllReadyH.nil)))
 ·skip
  have hmk := mk_run
  go_simp
  clear hmk
  have q := own1 u0 (.cells zeroM 5)
  have O1 := Lib.hid (via O0.out q)
  clear q
  refine hK.out _ _ ?s94 (fun hNew => ?r94)
  case s94 => exact ⟨(HS.out.below O1.out).2.1, trivial⟩
  clear hK K hHeld
  have hHeld := hNew
  clear hNew
  generalize u0.alloc (.cells zeroM 5) = u1 at hHeld O1 ⊢
  generalize u0.heap.size = mb at ⊢
  refine tk 2 rfl (v := ?v95) ?y95 ?z95
  case y95 => (intro w hSw; (try dsimp only at hSw); go_simp) <;> with_reducible rfl
  try simp only [Act.put, qqA, qqB, qqC]
  refine wpAnyH_ready (rs := [3, 9, 10]) (by kernel_rfl) (by simp) ?_
  refine (ac rfl (fun K hK => ?_) (ac rfl (fun K hK => ?_) (ac rfl (fun K hK => ?_) AllReadyH.nil)))
  ·skip
   go_simp
   have q := own1 u1 (.cells #[.slice (some ⟨mb, 0, none⟩) 65536 65536, .slice none 0 0] 35)
   have O2 := Lib.hid (via O1.out q)
   clear q
   refine hK.out _ _ ?s96 (fun hNew => ?r96)
   case s96 => exact ⟨(HS.out.below O2.out).2.1, trivial⟩
   clear hK K hHeld
   have hHeld := hNew
   clear hNew
   generalize u1.alloc (.cells #[.slice (some ⟨mb, 0, none⟩) 65536 65536, .slice none 0 0] 35) = u2 at hHeld O2 ⊢
   generalize u1.heap.size = rb at ⊢
   refine tk 4 rfl (v := ?v97) ?y97 ?z97
   case y97 => (intro w hSw; (try dsimp only at hSw); go_simp) <;> with_reducible rfl
   try simp only [Act.put, qqA, qqB, qqC]
   refine wpAnyH_ready (rs := [5, 9, 10]) (by kernel_rfl) (by simp) ?_
   refine (ac rfl (fun K hK => ?_) (ac rfl (fun K hK => ?_) (ac rfl (fun K hK => ?_) AllReadyH.nil)))
   ·skip
    go_simp
    with_reducible refine (Step_nt s _ _).mono ?_
    rintro e u3 ⟨rfl, q⟩
    have O3 := Lib.hid (via O2.out q)
    clear q
    refine hK.out _ _ ?s98 (fun hNew => ?r98)
    case s98 => exact ⟨(HS.out.below O3.out).2.1, trivial⟩
    clear hK K hHeld
    have hHeld := hNew
    clear hNew
    refine tk 6 rfl (v := ?v99) ?y99 ?z99
    case y99 => (intro w hSw; (try dsimp only at hSw); go_simp) <;> with_reducible rfl
    try simp only [Act.put, qqA, qqB, qqC]
    refine tk 7 rfl (v := ?v100) ?y100 ?z100
    case y100 => (intro w hSw; (try dsimp only at hSw); go_simp) <;> with_reducible rfl
    try simp only [Act.put, qqA, qqB, qqC]
    refine tk 8 rfl (v := ?v101) ?y101 ?z101
    case y101 => (intro w hSw; (try dsimp only at hSw); go_simp) <;> with_reducible rfl
    try simp only [Act.put, qqA, qqB, qqC]
    refine wpAnyH_ready (rs := [9, 10]) (by kernel_rfl) (by simp) ?_
    refine (ac rfl (fun K hK => ?_) (ac rfl (fun K hK => ?_) AllReadyH.nil))
    ·skip
     go_simp
     have q := own1 u3 (.cells #[.int .u8 0, .int .u8 0, .int .u8 0, .int .u8 0, .int .u8 0, .int .u8 0, .int .u8 0, .int .u8 0, .int .u16 0, .int .u16 0, .bool false, .bool false, .bool false, .bool false] 41)
     have O4 := Lib.hid (via O3.out q)
     have P4 := Lib.hid (Has.new u3 #[.int .u8 0, .int .u8 0, .int .u8 0, .int .u8 0, .int .u8 0, .int .u8 0, .int .u8 0, .int .u8 0, .int .u16 0, .int .u16 0, .bool false, .bool false, .bool false, .bool false] 41)
     have LP := Lib.hid O3.out.size
     clear q
     refine hK.out _ _ ?s102 (fun hNew => ?r102)
     case s102 => exact ⟨(HS.out.below O4.out).2.1, trivial⟩
     clear hK K hHeld
     have hHeld := hNew
     clear hNew
     generalize u3.alloc (.cells #[.int .u8 0, .int .u8 0, .int .u8 0, .int .u8 0, .int .u8 0, .int .u8 0, .int .u8 0, .int .u8 0, .int .u16 0, .int .u16 0, .bool false, .bool false, .bool false, .bool false] 41) = u4 at hHeld O4 P4 ⊢
     generalize u3.heap.size = pb at P4 LP ⊢
     refine wpAnyH_ready (rs := [10]) (by kernel_rfl) (by simp) ?_
     refine (ac rfl (fun K hK => ?_) AllReadyH.nil)
     ·skip
      go_simp
      have q := own1 u4 (.cells #[.int .i64 0, .int .i64 0, .int .u16 0, .int .i64 0, .int .i64 0, .int .i64 0, .int .i64 0, .int .u16 0, .bool false] 46)
      have O5 := Lib.hid (via O4.out q)
      have P5 := Lib.hid (P4.out.below q)
      have D5 := Lib.hid (Has.new u4 #[.int .i64 0, .int .i64 0, .int .u16 0, .int .i64 0, .int .i64 0, .int .i64 0, .int .i64 0, .int .u16 0, .bool false] 46)
      have LD := Lib.hid O4.out.size
      have DP := Lib.hid (show pb ≠ u4.heap.size by have := P4.out.1; omega)
      clear q
      refine hK.out _ _ ?s103 (fun hNew => ?r103)
      case s103 => exact ⟨(HS.out.below O5.out).2.1, trivial⟩
      clear hK K hHeld
      have hHeld := hNew
      clear hNew
      generalize u4.alloc (.cells #[.int .i64 0, .int .i64 0, .int .u16 0, .int .i64 0, .int .i64 0, .int .i64 0, .int .i64 0, .int .u16 0, .bool false] 46) = u5 at hHeld O5 P5 D5 ⊢
      generalize u4.heap.size = db at D5 LD DP ⊢
      refine wpAnyH_ready (rs := [11]) (by kernel_rfl) (by simp) ?_
      refine (ac rfl (fun K hK => ?_) AllReadyH.nil)
      ·skip
       have hcc := P5.out.2.1
       have hfz := P5.out.2.2
       go_simp
       clear hcc hfz
       have o1 : Off (fun k => k = pb) u5 (World.setCell (World.setCell (World.setCell (World.setCell (World.setCell (World.setCell (World.setCell (World.setCell (World.setCell (World.setCell (World.setCell (World.setCell (World.setCell (World.setCell u5 ⟨pb, 0, none⟩ (.int .u8 s.r.a)) ⟨pb, 1, none⟩ (.int .u8 s.r.f)) ⟨pb, 2, none⟩ (.int .u8 s.r.b)) ⟨pb, 3, none⟩ (.int .u8 s.r.c)) ⟨pb, 4, none⟩ (.int .u8 s.r.d)) ⟨pb, 5, none⟩ (.int .u8 s.r.e)) ⟨pb, 6, none⟩ (.int .u8 s.r.h)) ⟨pb, 7, none⟩ (.int .u8 s.r.l)) ⟨pb, 8, none⟩ (.int .u16 s.r.sp)) ⟨pb, 9, none⟩ (.int .u16 s.r.pc)) ⟨pb, 10, none⟩ (.bool s.ime)) ⟨pb, 11, none⟩ (.bool s.soon)) ⟨pb, 12, none⟩ (.bool s.halt)) ⟨pb, 13, none⟩ (.bool s.stop)) := Off.put14 u5 pb s
       have P6 := Lib.hid (show Has (World.setCell (World.setCell (World.setCell (World.setCell (World.setCell (World.setCell (World.setCell (World.setCell (World.setCell (World.setCell (World.setCell (World.setCell (World.setCell (World.setCell u5 ⟨pb, 0, none⟩ (.int .u8 s.r.a)) ⟨pb, 1, none⟩ (.int .u8 s.r.f)) ⟨pb, 2, none⟩ (.int .u8 s.r.b)) ⟨pb, 3, none⟩ (.int .u8 s.r.c)) ⟨pb, 4, none⟩ (.int .u8 s.r.d)) ⟨pb, 5, none⟩ (.int .u8 s.r.e)) ⟨pb, 6, none⟩ (.int .u8 s.r.h)) ⟨pb, 7, none⟩ (.int .u8 s.r.l)) ⟨pb, 8, none⟩ (.int .u16 s.r.sp)) ⟨pb, 9, none⟩ (.int .u16 s.r.pc)) ⟨pb, 10, none⟩ (.bool s.ime)) ⟨pb, 11, none⟩ (.bool s.soon)) ⟨pb, 12, none⟩ (.bool s.halt)) ⟨pb, 13, none⟩ (.bool s.stop)) pb #[.int .u8 s.r.a, .int .u8 s.r.f, .int .u8 s.r.b, .int .u8 s.r.c, .int .u8 s.r.d, .int .u8 s.r.e, .int .u8 s.r.h, .int .u8 s.r.l, .int .u16 s.r.sp, .int .u16 s.r.pc, .bool s.ime, .bool s.soon, .bool s.halt, .bool s.stop] from Has.put14 (s0 := ⟨⟨0, 0, 0, 0, 0, 0, 0, 0, 0, 0⟩, false, false, false, false⟩) P5.out s)
       have D6 := Lib.hid (D5.out.off o1 (fun e => DP.out e.symm))
       have O6 := Lib.hid (O5.out.trans (o1.below (fun k hk e => by have := LP.out; have e' : k = pb := e; omega) O5.out.size))
       clear o1
       refine hK.out _ _ ?s104 (fun hNew => ?r104)
       case s104 => exact ⟨(HS.out.below O6.out).2.1, trivial⟩
       clear hK K hHeld
       have hHeld := hNew
       clear hNew
       generalize (World.setCell (World.setCell (World.setCell (World.setCell (World.setCell (World.setCell (World.setCell (World.setCell (World.setCell (World.setCell (World.setCell (World.setCell (World.setCell (World.setCell u5 ⟨pb, 0, none⟩ (.int .u8 s.r.a)) ⟨pb, 1, none⟩ (.int .u8 s.r.f)) ⟨pb, 2, none⟩ (.int .u8 s.r.b)) ⟨pb, 3, none⟩ (.int .u8 s.r.c)) ⟨pb, 4, none⟩ (.int .u8 s.r.d)) ⟨pb, 5, none⟩ (.int .u8 s.r.e)) ⟨pb, 6, none⟩ (.int .u8 s.r.h)) ⟨pb, 7, none⟩ (.int .u8 s.r.l)) ⟨pb, 8, none⟩ (.int .u16 s.r.sp)) ⟨pb, 9, none⟩ (.int .u16 s.r.pc)) ⟨pb, 10, none⟩ (.bool s.ime)) ⟨pb, 11, none⟩ (.bool s.soon)) ⟨pb, 12, none⟩ (.bool s.halt)) ⟨pb, 13, none⟩ (.bool s.stop)) = u6 at hHeld P6 D6 O6 ⊢
       refine wpAnyH_ready (rs := [12]) (by kernel_rfl) (by simp) ?_
       refine (ac rfl (fun K hK => ?_) AllReadyH.nil)
       ·skip
        have hcc := D6.out.2.1
        have hfz := D6.out.2.2
        go_simp
        clear hcc hfz
        have o1 : Off (fun k => k = db) u6 (World.setCell (World.setCell (World.setCell (World.setCell (World.setCell (World.setCell (World.setCell (World.setCell (World.setCell u6 ⟨db, 0, none⟩ (.int .i64 0)) ⟨db, 1, none⟩ (.int .i64 0)) ⟨db, 2, none⟩ (.int .u16 s.r.pc)) ⟨db, 3, none⟩ (.int .i64 0)) ⟨db, 4, none⟩ (.int .i64 0)) ⟨db, 5, none⟩ (.int .i64 0)) ⟨db, 6, none⟩ (.int .i64 0)) ⟨db, 7, none⟩ (.int .u16 0)) ⟨db, 8, none⟩ (.bool false)) := Off.put9 u6 db (⟨0, 0, s.r.pc, noOp, false⟩ : DidV)
        have D7 := Lib.hid (show Has (World.setCell (World.setCell (World.setCell (World.setCell (World.setCell (World.setCell (World.setCell (World.setCell (World.setCell u6 ⟨db, 0, none⟩ (.int .i64 0)) ⟨db, 1, none⟩ (.int .i64 0)) ⟨db, 2, none⟩ (.int .u16 s.r.pc)) ⟨db, 3, none⟩ (.int .i64 0)) ⟨db, 4, none⟩ (.int .i64 0)) ⟨db, 5, none⟩ (.int .i64 0)) ⟨db, 6, none⟩ (.int .i64 0)) ⟨db, 7, none⟩ (.int .u16 0)) ⟨db, 8, none⟩ (.bool false)) db #[.int .i64 0, .int .i64 0, .int .u16 s.r.pc, .int .i64 0, .int .i64 0, .int .i64 0, .int .i64 0, .int .u16 0, .bool false] from D6.out.put9 (⟨0, 0, s.r.pc, noOp, false⟩ : DidV))
        have P7 := Lib.hid (P6.out.off o1 (fun e => DP.out e))
        have O7 := Lib.hid (O6.out.trans (o1.below (fun k hk e => by have := LD.out; have e' : k = db := e; omega) O6.out.size))
        clear o1
        refine hK.out _ _ ?s105 (fun hNew => ?r105)
        case s105 => exact ⟨(HS.out.below O7.out).2.1, trivial⟩
        clear hK K hHeld
        have hHeld := hNew
        clear hNew
        generalize (World.setCell (World.setCell (World.setCell (World.setCell (World.setCell (World.setCell (World.setCell (World.setCell (World.setCell u6 ⟨db, 0, none⟩ (.int .i64 0)) ⟨db, 1, none⟩ (.int .i64 0)) ⟨db, 2, none⟩ (.int .u16 s.r.pc)) ⟨db, 3, none⟩ (.int .i64 0)) ⟨db, 4, none⟩ (.int .i64 0)) ⟨db, 5, none⟩ (.int .i64 0)) ⟨db, 6, none⟩ (.int .i64 0)) ⟨db, 7, none⟩ (.int .u16 0)) ⟨db, 8, none⟩ (.bool false)) = u7 at hHeld P7 D7 O7 ⊢
        refine wpAnyH_done (by kernel_rfl) ?_ _
        clear hHeld
        exact HQ.out pb db _ _ _ _ _ _ _ _ _ _ ⟨O7.out, P7.out, D7.out, LP.out, LD.out, DP.out⟩
    ·skip
     go_simp
     have q := own1 u3 (.cells #[.int .i64 0, .int .i64 0, .int .u16 0, .int .i64 0, .int .i64 0, .int .i64 0, .int .i64 0, .int .u16 0, .bool false] 46)
     have O4 := Lib.hid (via O3.out q)
     have D4 := Lib.hid (Has.new u3 #[.int .i64 0, .int .i64 0, .int .u16 0, .int .i64 0, .int .i64 0, .int .i64 0, .int .i64 0, .int .u16 0, .bool false] 46)
     have LD := Lib.hid O3.out.size
     clear q
     refine hK.out _ _ ?s106 (fun hNew => ?r106)
     case s106 => exact ⟨(HS.out.below O4.out).2.1, trivial⟩
     clear hK K hHeld
     have hHeld := hNew
     clear hNew
     generalize u3.alloc (.cells #[.int .i64 0, .int .i64 0, .int .u16 0, .int .i64 0, .int .i64 0, .int .i64 0, .int .i64 0, .int .u16 0, .bool false] 46) = u4 at hHeld O4 D4 ⊢
     generalize u3.heap.size = db at D4 LD ⊢
     refine wpAnyH_ready (rs := [9]) (by kernel_rfl) (by simp) ?_
     refine (ac rfl (fun K hK => ?_) AllReadyH.nil)
     ·skip
      go_simp
      have q := own1 u4 (.cells #[.int .u8 0, .int .u8 0, .int .u8 0, .int .u8 0, .int .u8 0, .int .u8 0, .int .u8 0, .int .u8 0, .int .u16 0, .int .u16 0, .bool false, .bool false, .bool false, .bool false] 41)
      have O5 := Lib.hid (via O4.out q)
      have D5 := Lib.hid (D4.out.below q)
      have P5 := Lib.hid (Has.new u4 #[.int .u8 0, .int .u8 0, .int .u8 0, .int .u8 0, .int .u8 0, .int .u8 0, .int .u8 0, .int .u8 0, .int .u16 0, .int .u16 0, .bool false, .bool false, .bool false, .bool false] 41)
      have LP := Lib.hid O4.out.size
      have DP := Lib.hid (show db ≠ u4.heap.size by have := D4.out.1; omega)
      clear q
      refine hK.out _ _ ?s107 (fun hNew => ?r107)
      case s107 => exact ⟨(HS.out.below O5.out).2.1, trivial⟩
      clear hK K hHeld
      have hHeld := hNew
      clear hNew
      generalize u4.alloc (.cells #[.int .u8 0, .int .u8 0, .int .u8 0, .int .u8 0, .int .u8 0, .int .u8 0, .int .u8 0, .int .u8 0, .int .u16 0, .int .u16 0, .bool false, .bool false, .bool false, .bool false] 41) = u5 at hHeld O5 D5 P5 ⊢
      generalize u4.heap.size = pb at P5 LP DP ⊢
      refine wpAnyH_ready (rs := [11]) (by kernel_rfl) (by simp) ?_
      refine (ac rfl (fun K hK => ?_) AllReadyH.nil)
      ·skip
       have hcc := P5.out.2.1
       have hfz := P5.out.2.2
       go_simp
       clear hcc hfz
       have o1 : Off (fun k => k = pb) u5 (World.setCell (World.setCell (World.setCell (World.setCell (World.setCell (World.setCell (World.setCell (World.setCell (World.setCell (World.setCell (World.setCell (World.setCell (World.setCell (World.setCell u5 ⟨pb, 0, none⟩ (.int .u8 s.r.a)) ⟨pb, 1, none⟩ (.int .u8 s.r.f)) ⟨pb, 2, none⟩ (.int .u8 s.r.b)) ⟨pb, 3, none⟩ (.int .u8 s.r.c)) ⟨pb, 4, none⟩ (.int .u8 s.r.d)) ⟨pb, 5, none⟩ (.int .u8 s.r.e)) ⟨pb, 6, none⟩ (.int .u8 s.r.h)) ⟨pb, 7, none⟩ (.int .u8 s.r.l)) ⟨pb, 8, none⟩ (.int .u16 s.r.sp)) ⟨pb, 9, none⟩ (.int .u16 s.r.pc)) ⟨pb, 10, none⟩ (.bool s.ime)) ⟨pb, 11, none⟩ (.bool s.soon)) ⟨pb, 12, none⟩ (.bool s.halt)) ⟨pb, 13, none⟩ (.bool s.stop)) := Off.put14 u5 pb s
       have P6 := Lib.hid (show Has (World.setCell (World.setCell (World.setCell (World.setCell (World.setCell (World.setCell (World.setCell (World.setCell (World.setCell (World.setCell (World.setCell (World.setCell (World.setCell (World.setCell u5 ⟨pb, 0, none⟩ (.int .u8 s.r.a)) ⟨pb, 1, none⟩ (.int .u8 s.r.f)) ⟨pb, 2, none⟩ (.int .u8 s.r.b)) ⟨pb, 3, none⟩ (.int .u8 s.r.c)) ⟨pb, 4, none⟩ (.int .u8 s.r.d)) ⟨pb, 5, none⟩ (.int .u8 s.r.e)) ⟨pb, 6, none⟩ (.int .u8 s.r.h)) ⟨pb, 7, none⟩ (.int .u8 s.r.l)) ⟨pb, 8, none⟩ (.int .u16 s.r.sp)) ⟨pb, 9, none⟩ (.int .u16 s.r.pc)) ⟨pb, 10, none⟩ (.bool s.ime)) ⟨pb, 11, none⟩ (.bool s.soon)) ⟨pb, 12, none⟩ (.bool s.halt)) ⟨pb, 13, none⟩ (.bool s.stop)) pb #[.int .u8 s.r.a, .int .u8 s.r.f, .int .u8 s.r.b, .int .u8 s.r.c, .int .u8 s.r.d, .int .u8 s.r.e, .int .u8 s.r.h, .int .u8 s.r.l, .int .u16 s.r.sp, .int .u16 s.r.pc, .bool s.ime, .bool s.soon, .bool s.halt, .bool s.stop] from Has.put14 (s0 := ⟨⟨0, 0, 0, 0, 0, 0, 0, 0, 0, 0⟩, false, false, false, false⟩) P5.out s)
       have D6 := Lib.hid (D5.out.off o1 (fun e => DP.out e))
       have O6 := Lib.hid (O5.out.trans (o1.below (fun k hk e => by have := LP.out; have e' : k = pb := e; omega) O5.out.size))
       clear o1
       refine hK.out _ _ ?s108 (fun hNew => ?r108)
       case s108 => exact ⟨(HS.out.below O6.out).2.1, trivial⟩
       clear hK K hHeld
       have hHeld := hNew
       clear hNew
       generalize (World.setCell (World.setCell (World.setCell (World.setCell (World.setCell (World.setCell (World.setCell (World.setCell (World.setCell (World.setCell (World.setCell (World.setCell (World.setCell (World.setCell u5 ⟨pb, 0, none⟩ (.int .u8 s.r.a)) ⟨pb, 1, none⟩ (.int .u8 s.r.f)) ⟨pb, 2, none⟩ (.int .u8 s.r.b)) ⟨pb, 3, none⟩ (.int .u8 s.r.c)) ⟨pb, 4, none⟩ (.int .u8 s.r.d)) ⟨pb, 5, none⟩ (.int .u8 s.r.e)) ⟨pb, 6, none⟩ (.int .u8 s.r.h)) ⟨pb, 7, none⟩ (.int .u8 s.r.l)) ⟨pb, 8, none⟩ (.int .u16 s.r.sp)) ⟨pb, 9, none⟩ (.int .u16 s.r.pc)) ⟨pb, 10, none⟩ (.bool s.ime)) ⟨pb, 11, none⟩ (.bool s.soon)) ⟨pb, 12, none⟩ (.bool s.halt)) ⟨pb, 13, none⟩ (.bool s.stop)) = u6 at hHeld P6 D6 O6 ⊢
       refine wpAnyH_ready (rs := [12]) (by kernel_rfl) (by simp) ?_
       refine (ac rfl (fun K hK => ?_) AllReadyH.nil)
       ·skip
        have hcc := D6.out.2.1
        have hfz := D6.out.2.2
        go_simp
        clear hcc hfz
        have o1 : Off (fun k => k = db) u6 (World.setCell (World.setCell (World.setCell (World.setCell (World.setCell (World.setCell (World.setCell (World.setCell (World.setCell u6 ⟨db, 0, none⟩ (.int .i64 0)) ⟨db, 1, none⟩ (.int .i64 0)) ⟨db, 2, none⟩ (.int .u16 s.r.pc)) ⟨db, 3, none⟩ (.int .i64 0)) ⟨db, 4, none⟩ (.int .i64 0)) ⟨db, 5, none⟩ (.int .i64 0)) ⟨db, 6, none⟩ (.int .i64 0)) ⟨db, 7, none⟩ (.int .u16 0)) ⟨db, 8, none⟩ (.bool false)) := Off.put9 u6 db (⟨0, 0, s.r.pc, noOp, false⟩ : DidV)
        have D7 := Lib.hid (show Has (World.setCell (World.setCell (World.setCell (World.setCell (World.setCell (World.setCell (World.setCell (World.setCell (World.setCell u6 ⟨db, 0, none⟩ (.int .i64 0)) ⟨db, 1, none⟩ (.int .i64 0)) ⟨db, 2, none⟩ (.int .u16 s.r.pc)) ⟨db, 3, none⟩ (.int .i64 0)) ⟨db, 4, none⟩ (.int .i64 0)) ⟨db, 5, none⟩ (.int .i64 0)) ⟨db, 6, none⟩ (.int .i64 0)) ⟨db, 7, none⟩ (.int .u16 0)) ⟨db, 8, none⟩ (.bool false)) db #[.int .i64 0, .int .i64 0, .int .u16 s.r.pc, .int .i64 0, .int .i64 0, .int .i64 0, .int .i64 0, .int .u16 0, .bool false] from D6.out.put9 (⟨0, 0, s.r.pc, noOp, false⟩ : DidV))
        have P7 := Lib.hid (P6.out.off o1 (fun e => DP.out e.symm))
        have O7 := Lib.hid (O6.out.trans (o1.below (fun k hk e => by have := LD.out; have e' : k = db := e; omega) O6.out.size))
        clear o1
        refine hK.out _ _ ?s109 (fun hNew => ?r109)
        case s109 => exact ⟨(HS.out.below O7.out).2.1, trivial⟩
        clear hK K hHeld
        have hHeld := hNew
        clear hNew
        generalize (World.setCell (World.setCell (World.setCell (World.setCell (World.setCell (World.setCell (World.setCell (World.setCell (World.setCell u6 ⟨db, 0, none⟩ (.int .i64 0)) ⟨db, 1, none⟩ (.int .i64 0)) ⟨db, 2, none⟩ (.int .u16 s.r.pc)) ⟨db, 3, none⟩ (.int .i64 0)) ⟨db, 4, none⟩ (.int .i64 0)) ⟨db, 5, none⟩ (.int .i64 0)) ⟨db, 6, none⟩ (.int .i64 0)) ⟨db, 7, none⟩ (.int .u16 0)) ⟨db, 8, none⟩ (.bool false)) = u7 at hHeld P7 D7 O7 ⊢
        refine wpAnyH_done (by kernel_rfl) ?_ _
        clear hHeld
        exact HQ.out pb db _ _ _ _ _ _ _ _ _ _ ⟨O7.out, P7.out, D7.out, LP.out, LD.out, DP.out.symm⟩
   ·skip
    go_simp
    have q := own1 u2 (.cells #[.int .u8 0, .int .u8 0, .int .u8 0, .int .u8 0, .int .u8 0, .int .u8 0, .int .u8 0, .int .u8 0, .int .u16 0, .int .u16 0, .bool false, .bool false, .bool false, .bool false] 41)
    have O3 := Lib.hid (via O2.out q)
    have P3 := Lib.hid (Has.new u2 #[.int .u8 0, .int .u8 0, .int .u8 0, .int .u8 0, .int .u8 0, .int .u8 0, .int .u8 0, .int .u8 0, .int .u16 0, .int .u16 0, .bool false, .bool false, .bool false, .bool false] 41)
    have LP := Lib.hid O2.out.size
    clear q
    refine hK.out _ _ ?s110 (fun hNew => ?r110)
    case s110 => exact ⟨(HS.out.below O3.out).2.1, trivial⟩
    clear hK K hHeld
    have hHeld := hNew
    clear hNew
    generalize u2.alloc (.cells #[.int .u8 0, .int .u8 0, .int .u8 0, .int .u8 0, .int .u8 0, .int .u8 0, .int .u8 0, .int .u8 0, .int .u16 0, .int .u16 0, .bool false, .bool false, .bool false, .bool false] 41) = u3 at hHeld O3 P3 ⊢
    generalize u2.heap.size = pb at P3 LP ⊢
    refine wpAnyH_ready (rs := [5, 10]) (by kernel_rfl) (by simp) ?_
    refine (ac rfl (fun K hK => ?_) (ac rfl (fun K hK => ?_) AllReadyH.nil))
    ·skip
     go_simp
     with_reducible refine (Step_nt s _ _).mono ?_
     rintro e u4 ⟨rfl, q⟩
     have O4 := Lib.hid (via O3.out q)
     have P4 := Lib.hid (P3.out.below q)
     clear q
     refine hK.out _ _ ?s111 (fun hNew => ?r111)
     case s111 => exact ⟨(HS.out.below O4.out).2.1, trivial⟩
     clear hK K hHeld
     have hHeld := hNew
     clear hNew
     refine tk 6 rfl (v := ?v112) ?y112 ?z112
     case y112 => (intro w hSw; (try dsimp only at hSw); go_simp) <;> with_reducible rfl
     try simp only [Act.put, qqA, qqB, qqC]
     refine tk 7 rfl (v := ?v113) ?y113 ?z113
     case y113 => (intro w hSw; (try dsimp only at hSw); go_simp) <;> with_reducible rfl
     try simp only [Act.put, qqA, qqB, qqC]
     refine tk 8 rfl (v := ?v114) ?y114 ?z114
     case y114 => (intro w hSw; (try dsimp only at hSw); go_simp) <;> with_reducible rfl
     try simp only [Act.put, qqA, qqB, qqC]
     refine wpAnyH_ready (rs := [10]) (by kernel_rfl) (by simp) ?_
     refine (ac rfl (fun K hK => ?_) AllReadyH.nil)
     ·skip
      go_simp
      have q := own1 u4 (.cells #[.int .i64 0, .int .i64 0, .int .u16 0, .int .i64 0, .int .i64 0, .int .i64 0, .int .i64 0, .int .u16 0, .bool false] 46)
      have O5 := Lib.hid (via O4.out q)
      have P5 := Lib.hid (P4.out.below q)
      have D5 := Lib.hid (Has.new u4 #[.int .i64 0, .int .i64 0, .int .u16 0, .int .i64 0, .int .i64 0, .int .i64 0, .int .i64 0, .int .u16 0, .bool false] 46)
      have LD := Lib.hid O4.out.size
      have DP := Lib.hid (show pb ≠ u4.heap.size by have := P4.out.1; omega)
      clear q
      refine hK.out _ _ ?s115 (fun hNew => ?r115)
      case s115 => exact ⟨(HS.out.below O5.out).2.1, trivial⟩
      clear hK K hHeld
      have hHeld := hNew
      clear hNew
      generalize u4.alloc (.cells #[.int .i64 0, .int .i64 0, .int .u16 0, .int .i64 0, .int .i64 0, .int .i64 0, .int .i64 0, .int .u16 0, .bool false] 46) = u5 at hHeld O5 P5 D5 ⊢
      generalize u4.heap.size = db at D5 LD DP ⊢
      refine wpAnyH_ready (rs := [11]) (by kernel_rfl) (by simp) ?_
      refine (ac rfl (fun K hK => ?_) AllReadyH.nil)
      ·skip
       have hcc := P5.out.2.1
       have hfz := P5.out.2.2
       go_simp
       clear hcc hfz
       have o1 : Off (fun k => k = pb) u5 (World.setCell (World.setCell (World.setCell (World.setCell (World.setCell (World.setCell (World.setCell (World.setCell (World.setCell (World.setCell (World.setCell (World.setCell (World.setCell (World.setCell u5 ⟨pb, 0, none⟩ (.int .u8 s.r.a)) ⟨pb, 1, none⟩ (.int .u8 s.r.f)) ⟨pb, 2, none⟩ (.int .u8 s.r.b)) ⟨pb, 3, none⟩ (.int .u8 s.r.c)) ⟨pb, 4, none⟩ (.int .u8 s.r.d)) ⟨pb, 5, none⟩ (.int .u8 s.r.e)) ⟨pb, 6, none⟩ (.int .u8 s.r.h)) ⟨pb, 7, none⟩ (.int .u8 s.r.l)) ⟨pb, 8, none⟩ (.int .u16 s.r.sp)) ⟨pb, 9, none⟩ (.int .u16 s.r.pc)) ⟨pb, 10, none⟩ (.bool s.ime)) ⟨pb, 11, none⟩ (.bool s.soon)) ⟨pb, 12, none⟩ (.bool s.halt)) ⟨pb, 13, none⟩ (.bool s.stop)) := Off.put14 u5 pb s
       have P6 := Lib.hid (show Has (World.setCell (World.setCell (World.setCell (World.setCell (World.setCell (World.setCell (World.setCell (World.setCell (World.setCell (World.setCell (World.setCell (World.setCell (World.setCell (World.setCell u5 ⟨pb, 0, none⟩ (.int .u8 s.r.a)) ⟨pb, 1, none⟩ (.int .u8 s.r.f)) ⟨pb, 2, none⟩ (.int .u8 s.r.b)) ⟨pb, 3, none⟩ (.int .u8 s.r.c)) ⟨pb, 4, none⟩ (.int .u8 s.r.d)) ⟨pb, 5, none⟩ (.int .u8 s.r.e)) ⟨pb, 6, none⟩ (.int .u8 s.r.h)) ⟨pb, 7, none⟩ (.int .u8 s.r.l)) ⟨pb, 8, none⟩ (.int .u16 s.r.sp)) ⟨pb, 9, none⟩ (.int .u16 s.r.pc)) ⟨pb, 10, none⟩ (.bool s.ime)) ⟨pb, 11, none⟩ (.bool s.soon)) ⟨pb, 12, none⟩ (.bool s.halt)) ⟨pb, 13, none⟩ (.bool s.stop)) pb #[.int .u8 s.r.a, .int .u8 s.r.f, .int .u8 s.r.b, .int .u8 s.r.c, .int .u8 s.r.d, .int .u8 s.r.e, .int .u8 s.r.h, .int .u8 s.r.l, .int .u16 s.r.sp, .int .u16 s.r.pc, .bool s.ime, .bool s.soon, .bool s.halt, .bool s.stop] from Has.put14 (s0 := ⟨⟨0, 0, 0, 0, 0, 0, 0, 0, 0, 0⟩, false, false, false, false⟩) P5.out s)
       have D6 := Lib.hid (D5.out.off o1 (fun e => DP.out e.symm))
       have O6 := Lib.hid (O5.out.trans (o1.below (fun k hk e => by have := LP.out; have e' : k = pb := e; omega) O5.out.size))
       clear o1
       refine hK.out _ _ ?s116 (fun hNew => ?r116)
       case s116 => exact ⟨(HS.out.below O6.out).2.1, trivial⟩
       clear hK K hHeld
       have hHeld := hNew
       clear hNew
       generalize (World.setCell (World.setCell (World.setCell (World.setCell (World.setCell (World.setCell (World.setCell (World.setCell (World.setCell (World.setCell (World.setCell (World.setCell (World.setCell (World.setCell u5 ⟨pb, 0, none⟩ (.int .u8 s.r.a)) ⟨pb, 1, none⟩ (.int .u8 s.r.f)) ⟨pb, 2, none⟩ (.int .u8 s.r.b)) ⟨pb, 3, none⟩ (.int .u8 s.r.c)) ⟨pb, 4, none⟩ (.int .u8 s.r.d)) ⟨pb, 5, none⟩ (.int .u8 s.r.e)) ⟨pb, 6, none⟩ (.int .u8 s.r.h)) ⟨pb, 7, none⟩ (.int .u8 s.r.l)) ⟨pb, 8, none⟩ (.int .u16 s.r.sp)) ⟨pb, 9, none⟩ (.int .u16 s.r.pc)) ⟨pb, 10, none⟩ (.bool s.ime)) ⟨pb, 11, none⟩ (.bool s.soon)) ⟨pb, 12, none⟩ (.bool s.halt)) ⟨pb, 13, none⟩ (.bool s.stop)) = u6 at hHeld P6 D6 O6 ⊢
       refine wpAnyH_ready (rs := [12]) (by kernel_rfl) (by simp) ?_
       refine (ac rfl (fun K hK => ?_) AllReadyH.nil)
       ·skip
        have hcc := D6.out.2.1
        have hfz := D6.out.2.2
        go_simp
        clear hcc hfz
        have o1 : Off (fun k => k = db) u6 (World.setCell (World.setCell (World.setCell (World.setCell (World.setCell (World.setCell (World.setCell (World.setCell (World.setCell u6 ⟨db, 0, none⟩ (.int .i64 0)) ⟨db, 1, none⟩ (.int .i64 0)) ⟨db, 2, none⟩ (.int .u16 s.r.pc)) ⟨db, 3, none⟩ (.int .i64 0)) ⟨db, 4, none⟩ (.int .i64 0)) ⟨db, 5, none⟩ (.int .i64 0)) ⟨db, 6, none⟩ (.int .i64 0)) ⟨db, 7, none⟩ (.int .u16 0)) ⟨db, 8, none⟩ (.bool false)) := Off.put9 u6 db (⟨0, 0, s.r.pc, noOp, false⟩ : DidV)
        have D7 := Lib.hid (show Has (World.setCell (World.setCell (World.setCell (World.setCell (World.setCell (World.setCell (World.setCell (World.setCell (World.setCell u6 ⟨db, 0, none⟩ (.int .i64 0)) ⟨db, 1, none⟩ (.int .i64 0)) ⟨db, 2, none⟩ (.int .u16 s.r.pc)) ⟨db, 3, none⟩ (.int .i64 0)) ⟨db, 4, none⟩ (.int .i64 0)) ⟨db, 5, none⟩ (.int .i64 0)) ⟨db, 6, none⟩ (.int .i64 0)) ⟨db, 7, none⟩ (.int .u16 0)) ⟨db, 8, none⟩ (.bool false)) db #[.int .i64 0, .int .i64 0, .int .u16 s.r.pc, .int .i64 0, .int .i64 0, .int .i64 0, .int .i64 0, .int .u16 0, .bool false] from D6.out.put9 (⟨0, 0, s.r.pc, noOp, false⟩ : DidV))
        have P7 := Lib.hid (P6.out.off o1 (fun e => DP.out e))
        have O7 := Lib.hid (O6.out.trans (o1.below (fun k hk e => by have := LD.out; have e' : k = db := e; omega) O6.out.size))
        clear o1
        refine hK.out _ _ ?s117 (fun hNew => ?r117)
        case s117 => exact ⟨(HS.out.below O7.out).2.1, trivial⟩
        clear hK K hHeld
        have hHeld := hNew
        clear hNew
        generalize (World.setCell (World.setCell (World.setCell (World.setCell (World.setCell (World.setCell (World.setCell (World.setCell (World.setCell u6 ⟨db, 0, none⟩ (.int .i64 0)) ⟨db, 1, none⟩ (.int .i64 0)) ⟨db, 2, none⟩ (.int .u16 s.r.pc)) ⟨db, 3, none⟩ (.int .i64 0)) ⟨db, 4, none⟩ (.int .i64 0)) ⟨db, 5, none⟩ (.int .i64 0)) ⟨db, 6, none⟩ (.int .i64 0)) ⟨db, 7, none⟩ (.int .u16 0)) ⟨db, 8, none⟩ (.bool false)) = u7 at hHeld P7 D7 O7 ⊢
        refine wpAnyH_done (by kernel_rfl) ?_ _
        clear hHeld
        exact HQ.out pb db _ _ _ _ _ _ _ _ _ _ ⟨O7.out, P7.out, D7.out, LP.out, LD.out, DP.out⟩
    ·skip
     go_simp
     have q := own1 u3 (.cells #[.int .i64 0, .int .i64 0, .int .u16 0, .int .i64 0, .int .i64 0, .int .i64 0, .int .i64 0, .int .u16 0, .bool false] 46)
     have O4 := Lib.hid (via O3.out q)
     have P4 := Lib.hid (P3.out.below q)
     have D4 := Lib.hid (Has.new u3 #[.int .i64 0, .int .i64 0, .int .u16 0, .int .i64 0, .int .i64 0, .int .i64 0, .int .i64 0, .int .u16 0, .bool false] 46)
     have LD := Lib.hid O3.out.size
     have DP := Lib.hid (show pb ≠ u3.heap.size by have := P3.out.1; omega)
     clear q
     refine hK.out _ _ ?s118 (fun hNew => ?r118)
     case s118 => exact ⟨(HS.out.below O4.out).2.1, trivial⟩
     clear hK K hHeld
     have hHeld := hNew
     clear hNew
     generalize u3.alloc (.cells #[.int .i64 0, .int .i64 0, .int .u16 0, .int .i64 0, .int .i64 0, .int .i64 0, .int .i64 0, .int .u16 0, .bool false] 46) = u4 at hHeld O4 P4 D4 ⊢
     generalize u3.heap.size = db at D4 LD DP ⊢
     refine wpAnyH_ready (rs := [5]) (by kernel_rfl) (by simp) ?_
     refine (ac rfl (fun K hK => ?_) AllReadyH.nil)
     ·skip
      go_simp
      with_reducible refine (Step_nt s _ _).mono ?_
      rintro e u5 ⟨rfl, q⟩
      have O5 := Lib.hid (via O4.out q)
      have P5 := Lib.hid (P4.out.below q)
      have D5 := Lib.hid (D4.out.below q)
      clear q
      refine hK.out _ _ ?s119 (fun hNew => ?r119)
      case s119 => exact ⟨(HS.out.below O5.out).2.1, trivial⟩
      clear hK K hHeld
      have hHeld := hNew
      clear hNew
      refine tk 6 rfl (v := ?v120) ?y120 ?z120
      case y120 => (intro w hSw; (try dsimp only at hSw); go_simp) <;> with_reducible rfl
      try simp only [Act.put, qqA, qqB, qqC]
      refine tk 7 rfl (v := ?v121) ?y121 ?z121
      case y121 => (intro w hSw; (try dsimp only at hSw); go_simp) <;> with_reducible rfl
      try simp only [Act.put, qqA, qqB, qqC]
      refine tk 8 rfl (v := ?v122) ?y122 ?z122
      case y122 => (intro w hSw; (try dsimp only at hSw); go_simp) <;> with_reducible rfl
      try simp only [Act.put, qqA, qqB, qqC]
      refine wpAnyH_ready (rs := [11]) (by kernel_rfl) (by simp) ?_
      refine (ac rfl (fun K hK => ?_) AllReadyH.nil)
      ·skip
       have hcc := P5.out.2.1
       have hfz := P5.out.2.2
       go_simp
       clear hcc hfz
       have o1 : Off (fun k => k = pb) u5 (World.setCell (World.setCell (World.setCell (World.setCell (World.setCell (World.setCell (World.setCell (World.setCell (World.setCell (World.setCell (World.setCell (World.setCell (World.setCell (World.setCell u5 ⟨pb, 0, none⟩ (.int .u8 s.r.a)) ⟨pb, 1, none⟩ (.int .u8 s.r.f)) ⟨pb, 2, none⟩ (.int .u8 s.r.b)) ⟨pb, 3, none⟩ (.int .u8 s.r.c)) ⟨pb, 4, none⟩ (.int .u8 s.r.d)) ⟨pb, 5, none⟩ (.int .u8 s.r.e)) ⟨pb, 6, none⟩ (.int .u8 s.r.h)) ⟨pb, 7, none⟩ (.int .u8 s.r.l)) ⟨pb, 8, none⟩ (.int .u16 s.r.sp)) ⟨pb, 9, none⟩ (.int .u16 s.r.pc)) ⟨pb, 10, none⟩ (.bool s.ime)) ⟨pb, 11, none⟩ (.bool s.soon)) ⟨pb, 12, none⟩ (.bool s.halt)) ⟨pb, 13, none⟩ (.bool s.stop)) := Off.put14 u5 pb s
       have P6 := Lib.hid (show Has (World.setCell (World.setCell (World.setCell (World.setCell (World.setCell (World.setCell (World.setCell (World.setCell (World.setCell (World.setCell (World.setCell (World.setCell (World.setCell (World.setCell u5 ⟨pb, 0, none⟩ (.int .u8 s.r.a)) ⟨pb, 1, none⟩ (.int .u8 s.r.f)) ⟨pb, 2, none⟩ (.int .u8 s.r.b)) ⟨pb, 3, none⟩ (.int .u8 s.r.c)) ⟨pb, 4, none⟩ (.int .u8 s.r.d)) ⟨pb, 5, none⟩ (.int .u8 s.r.e)) ⟨pb, 6, none⟩ (.int .u8 s.r.h)) ⟨pb, 7, none⟩ (.int .u8 s.r.l)) ⟨pb, 8, none⟩ (.int .u16 s.r.sp)) ⟨pb, 9, none⟩ (.int .u16 s.r.pc)) ⟨pb, 10, none⟩ (.bool s.ime)) ⟨pb, 11, none⟩ (.bool s.soon)) ⟨pb, 12, none⟩ (.bool s.halt)) ⟨pb, 13, none⟩ (.bool s.stop)) pb #[.int .u8 s.r.a, .int .u8 s.r.f, .int .u8 s.r.b, .int .u8 s.r.c, .int .u8 s.r.d, .int .u8 s.r.e, .int .u8 s.r.h, .int .u8 s.r.l, .int .u16 s.r.sp, .int .u16 s.r.pc, .bool s.ime, .bool s.soon, .bool s.halt, .bool s.stop] from Has.put14 (s0 := ⟨⟨0, 0, 0, 0, 0, 0, 0, 0, 0, 0⟩, false, false, false, false⟩) P5.out s)
       have D6 := Lib.hid (D5.out.off o1 (fun e => DP.out e.symm))
       have O6 := Lib.hid (O5.out.trans (o1.below (fun k hk e => by have := LP.out; have e' : k = pb := e; omega) O5.out.size))
       clear o1
       refine hK.out _ _ ?s123 (fun hNew => ?r123)
       case s123 => exact ⟨(HS.out.below O6.out).2.1, trivial⟩
       clear hK K hHeld
       have hHeld := hNew
       clear hNew
       generalize (World.setCell (World.setCell (World.setCell (World.setCell (World.setCell (World.setCell (World.setCell (World.setCell (World.setCell (World.setCell (World.setCell (World.setCell (World.setCell (World.setCell u5 ⟨pb, 0, none⟩ (.int .u8 s.r.a)) ⟨pb, 1, none⟩ (.int .u8 s.r.f)) ⟨pb, 2, none⟩ (.int .u8 s.r.b)) ⟨pb, 3, none⟩ (.int .u8 s.r.c)) ⟨pb, 4, none⟩ (.int .u8 s.r.d)) ⟨pb, 5, none⟩ (.int .u8 s.r.e)) ⟨pb, 6, none⟩ (.int .u8 s.r.h)) ⟨pb, 7, none⟩ (.int .u8 s.r.l)) ⟨pb, 8, none⟩ (.int .u16 s.r.sp)) ⟨pb, 9, none⟩ (.int .u16 s.r.pc)) ⟨pb, 10, none⟩ (.bool s.ime)) ⟨pb, 11, none⟩ (.bool s.soon)) ⟨pb, 12, none⟩ (.bool s.halt)) ⟨pb, 13, none⟩ (.bool s.stop)) = u6 at hHeld P6 D6 O6 ⊢
       refine wpAnyH_ready (rs := [12]) (by kernel_rfl) (by simp) ?_
       refine (ac rfl (fun K hK => ?_) AllReadyH.nil)
       ·skip
        have hcc := D6.out.2.1
        have hfz := D6.out.2.2
        go_simp
        clear hcc hfz
        have o1 : Off (fun k => k = db) u6 (World.setCell (World.setCell (World.setCell (World.setCell (World.setCell (World.setCell (World.setCell (World.setCell (World.setCell u6 ⟨db, 0, none⟩ (.int .i64 0)) ⟨db, 1, none⟩ (.int .i64 0)) ⟨db, 2, none⟩ (.int .u16 s.r.pc)) ⟨db, 3, none⟩ (.int .i64 0)) ⟨db, 4, none⟩ (.int .i64 0)) ⟨db, 5, none⟩ (.int .i64 0)) ⟨db, 6, none⟩ (.int .i64 0)) ⟨db, 7, none⟩ (.int .u16 0)) ⟨db, 8, none⟩ (.bool false)) := Off.put9 u6 db (⟨0, 0, s.r.pc, noOp, false⟩ : DidV)
        have D7 := Lib.hid (show Has (World.setCell (World.setCell (World.setCell (World.setCell (World.setCell (World.setCell (World.setCell (World.setCell (World.setCell u6 ⟨db, 0, none⟩ (.int .i64 0)) ⟨db, 1, none⟩ (.int .i64 0)) ⟨db, 2, none⟩ (.int .u16 s.r.pc)) ⟨db, 3, none⟩ (.int .i64 0)) ⟨db, 4, none⟩ (.int .i64 0)) ⟨db, 5, none⟩ (.int .i64 0)) ⟨db, 6, none⟩ (.int .i64 0)) ⟨db, 7, none⟩ (.int .u16 0)) ⟨db, 8, none⟩ (.bool false)) db #[.int .i64 0, .int .i64 0, .int .u16 s.r.pc, .int .i64 0, .int .i64 0, .int .i64 0, .int .i64 0, .int .u16 0, .bool false] from D6.out.put9 (⟨0, 0, s.r.pc, noOp, false⟩ : DidV))
        have P7 := Lib.hid (P6.out.off o1 (fun e => DP.out e))
        have O7 := Lib.hid (O6.out.trans (o1.below (fun k hk e => by have := LD.out; have e' : k = db := e; omega) O6.out.size))
        clear o1
        refine hK.out _ _ ?s124 (fun hNew => ?r124)
        case s124 => exact ⟨(HS.out.below O7.out).2.1, trivial⟩
        clear hK K hHeld
        have hHeld := hNew
        clear hNew
        generalize (World.setCell (World.setCell (World.setCell (World.setCell (World.setCell (World.setCell (World.setCell (World.setCell (World.setCell u6 ⟨db, 0, none⟩ (.int .i64 0)) ⟨db, 1, none⟩ (.int .i64 0)) ⟨db, 2, none⟩ (.int .u16 s.r.pc)) ⟨db, 3, none⟩ (.int .i64 0)) ⟨db, 4, none⟩ (.int .i64 0)) ⟨db, 5, none⟩ (.int .i64 0)) ⟨db, 6, none⟩ (.int .i64 0)) ⟨db, 7, none⟩ (.int .u16 0)) ⟨db, 8, none⟩ (.bool false)) = u7 at hHeld P7 D7 O7 ⊢
        refine wpAnyH_done (by kernel_rfl) ?_ _
        clear hHeld
        exact HQ.out pb db _ _ _ _ _ _ _ _ _ _ ⟨O7.out, P7.out, D7.out, LP.out, LD.out, DP.out⟩
   ·skip
    go_simp
    have q := own1 u2 (.cells #[.int .i64 0, .int .i64 0, .int .u16 0, .int .i64 0, .int .i64 0, .int .i64 0, .int .i64 0, .int .u16 0, .bool false] 46)
    have O3 := Lib.hid (via O2.out q)
    have D3 := Lib.hid (Has.new u2 #[.int .i64 0, .int .i64 0, .int .u16 0, .int .i64 0, .int .i64 0, .int .i64 0, .int .i64 0, .int .u16 0, .bool false] 46)
    have LD := Lib.hid O2.out.size
    clear q
    refine hK.out _ _ ?s125 (fun hNew => ?r125)
    case s125 => exact ⟨(HS.out.below O3.out).2.1, trivial⟩
    clear hK K hHeld
    have hHeld := hNew
    clear hNew
    generalize u2.alloc (.cells #[.int .i64 0, .int .i64 0, .int .u16 0, .int .i64 0, .int .i64 0, .int .i64 0, .int .i64 0, .int .u16 0, .bool false] 46) = u3 at hHeld O3 D3 ⊢
    generalize u2.heap.size = db at D3 LD ⊢
    refine wpAnyH_ready (rs := [5, 9]) (by kernel_rfl) (by simp) ?_
    refine (ac rfl (fun K hK => ?_) (ac rfl (fun K hK => ?_) AllReadyH.nil))
    ·skip
     go_simp
     with_reducible refine (Step_nt s _ _).mono ?_
     rintro e u4 ⟨rfl, q⟩
     have O4 := Lib.hid (via O3.out q)
     have D4 := Lib.hid (D3.out.below q)
     clear q
     refine hK.out _ _ ?s126 (fun hNew => ?r126)
     case s126 => exact ⟨(HS.out.below O4.out).2.1, trivial⟩
     clear hK K hHeld
     have hHeld := hNew
     clear hNew
     refine tk 6 rfl (v := ?v127) ?y127 ?z127
     case y127 => (intro w hSw; (try dsimp only at hSw); go_simp) <;> with_reducible rfl
     try simp only [Act.put, qqA, qqB, qqC]
     refine tk 7 rfl (v := ?v128) ?y128 ?z128
     case y128 => (intro w hSw; (try dsimp only at hSw); go_simp) <;> with_reducible rfl
     try simp only [Act.put, qqA, qqB, qqC]
     refine tk 8 rfl (v := ?v129) ?y129 ?z129
     case y129 => (intro w hSw; (try dsimp only at hSw); go_simp) <;> with_reducible rfl
     try simp only [Act.put, qqA, qqB, qqC]
     refine wpAnyH_ready (rs := [9]) (by kernel_rfl) (by simp) ?_
     refine (ac rfl (fun K hK => ?_) AllReadyH.nil)
     ·skip
      go_simp
      have q := own1 u4 (.cells #[.int .u8 0, .int .u8 0, .int .u8 0, .int .u8 0, .int .u8 0, .int .u8 0, .int .u8 0, .int .u8 0, .int .u16 0, .int .u16 0, .bool false, .bool false, .bool false, .bool false] 41)
      have O5 := Lib.hid (via O4.out q)
      have D5 := Lib.hid (D4.out.below q)
      have P5 := Lib.hid (Has.new u4 #[.int .u8 0, .int .u8 0, .int .u8 0, .int .u8 0, .int .u8 0, .int .u8 0, .int .u8 0, .int .u8 0, .int .u16 0, .int .u16 0, .bool false, .bool false, .bool false, .bool false] 41)
      have LP := Lib.hid O4.out.size
      have DP := Lib.hid (show db ≠ u4.heap.size by have := D4.out.1; omega)
      clear q
      refine hK.out _ _ ?s130 (fun hNew => ?r130)
      case s130 => exact ⟨(HS.out.below O5.out).2.1, trivial⟩
      clear hK K hHeld
      have hHeld := hNew
      clear hNew
      generalize u4.alloc (.cells #[.int .u8 0, .int .u8 0, .int .u8 0, .int .u8 0, .int .u8 0, .int .u8 0, .int .u8 0, .int .u8 0, .int .u16 0, .int .u16 0, .bool false, .bool false, .bool false, .bool false] 41) = u5 at hHeld O5 D5 P5 ⊢
      generalize u4.heap.size = pb at P5 LP DP ⊢
      refine wpAnyH_ready (rs := [11]) (by kernel_rfl) (by simp) ?_
      refine (ac rfl (fun K hK => ?_) AllReadyH.nil)
      ·skip
       have hcc := P5.out.2.1
       have hfz := P5.out.2.2
       go_simp
       clear hcc hfz
       have o1 : Off (fun k => k = pb) u5 (World.setCell (World.setCell (World.setCell (World.setCell (World.setCell (World.setCell (World.setCell (World.setCell (World.setCell (World.setCell (World.setCell (World.setCell (World.setCell (World.setCell u5 ⟨pb, 0, none⟩ (.int .u8 s.r.a)) ⟨pb, 1, none⟩ (.int .u8 s.r.f)) ⟨pb, 2, none⟩ (.int .u8 s.r.b)) ⟨pb, 3, none⟩ (.int .u8 s.r.c)) ⟨pb, 4, none⟩ (.int .u8 s.r.d)) ⟨pb, 5, none⟩ (.int .u8 s.r.e)) ⟨pb, 6, none⟩ (.int .u8 s.r.h)) ⟨pb, 7, none⟩ (.int .u8 s.r.l)) ⟨pb, 8, none⟩ (.int .u16 s.r.sp)) ⟨pb, 9, none⟩ (.int .u16 s.r.pc)) ⟨pb, 10, none⟩ (.bool s.ime)) ⟨pb, 11, none⟩ (.bool s.soon)) ⟨pb, 12, none⟩ (.bool s.halt)) ⟨pb, 13, none⟩ (.bool s.stop)) := Off.put14 u5 pb s
       have P6 := Lib.hid (show Has (World.setCell (World.setCell (World.setCell (World.setCell (World.setCell (World.setCell (World.setCell (World.setCell (World.setCell (World.setCell (World.setCell (World.setCell (World.setCell (World.setCell u5 ⟨pb, 0, none⟩ (.int .u8 s.r.a)) ⟨pb, 1, none⟩ (.int .u8 s.r.f)) ⟨pb, 2, none⟩ (.int .u8 s.r.b)) ⟨pb, 3, none⟩ (.int .u8 s.r.c)) ⟨pb, 4, none⟩ (.int .u8 s.r.d)) ⟨pb, 5, none⟩ (.int .u8 s.r.e)) ⟨pb, 6, none⟩ (.int .u8 s.r.h)) ⟨pb, 7, none⟩ (.int .u8 s.r.l)) ⟨pb, 8, none⟩ (.int .u16 s.r.sp)) ⟨pb, 9, none⟩ (.int .u16 s.r.pc)) ⟨pb, 10, none⟩ (.bool s.ime)) ⟨pb, 11, none⟩ (.bool s.soon)) ⟨pb, 12, none⟩ (.bool s.halt)) ⟨pb, 13, none⟩ (.bool s.stop)) pb #[.int .u8 s.r.a, .int .u8 s.r.f, .int .u8 s.r.b, .int .u8 s.r.c, .int .u8 s.r.d, .int .u8 s.r.e, .int .u8 s.r.h, .int .u8 s.r.l, .int .u16 s.r.sp, .int .u16 s.r.pc, .bool s.ime, .bool s.soon, .bool s.halt, .bool s.stop] from Has.put14 (s0 := ⟨⟨0, 0, 0, 0, 0, 0, 0, 0, 0, 0⟩, false, false, false, false⟩) P5.out s)
       have D6 := Lib.hid (D5.out.off o1 (fun e => DP.out e))
       have O6 := Lib.hid (O5.out.trans (o1.below (fun k hk e => by have := LP.out; have e' : k = pb := e; omega) O5.out.size))
       clear o1
       refine hK.out _ _ ?s131 (fun hNew => ?r131)
       case s131 => exact ⟨(HS.out.below O6.out).2.1, trivial⟩
       clear hK K hHeld
       have hHeld := hNew
       clear hNew
       generalize (World.setCell (World.setCell (World.setCell (World.setCell (World.setCell (World.setCell (World.setCell (World.setCell (World.setCell (World.setCell (World.setCell (World.setCell (World.setCell (World.setCell u5 ⟨pb, 0, none⟩ (.int .u8 s.r.a)) ⟨pb, 1, none⟩ (.int .u8 s.r.f)) ⟨pb, 2, none⟩ (.int .u8 s.r.b)) ⟨pb, 3, none⟩ (.int .u8 s.r.c)) ⟨pb, 4, none⟩ (.int .u8 s.r.d)) ⟨pb, 5, none⟩ (.int .u8 s.r.e)) ⟨pb, 6, none⟩ (.int .u8 s.r.h)) ⟨pb, 7, none⟩ (.int .u8 s.r.l)) ⟨pb, 8, none⟩ (.int .u16 s.r.sp)) ⟨pb, 9, none⟩ (.int .u16 s.r.pc)) ⟨pb, 10, none⟩ (.bool s.ime)) ⟨pb, 11, none⟩ (.bool s.soon)) ⟨pb, 12, none⟩ (.bool s.halt)) ⟨pb, 13, none⟩ (.bool s.stop)) = u6 at hHeld P6 D6 O6 ⊢
       refine wpAnyH_ready (rs := [12]) (by kernel_rfl) (by simp) ?_
       refine (ac rfl (fun K hK => ?_) AllReadyH.nil)
       ·skip
        have hcc := D6.out.2.1
        have hfz := D6.out.2.2
        go_simp
        clear hcc hfz
        have o1 : Off (fun k => k = db) u6 (World.setCell (World.setCell (World.setCell (World.setCell (World.setCell (World.setCell (World.setCell (World.setCell (World.setCell u6 ⟨db, 0, none⟩ (.int .i64 0)) ⟨db, 1, none⟩ (.int .i64 0)) ⟨db, 2, none⟩ (.int .u16 s.r.pc)) ⟨db, 3, none⟩ (.int .i64 0)) ⟨db, 4, none⟩ (.int .i64 0)) ⟨db, 5, none⟩ (.int .i64 0)) ⟨db, 6, none⟩ (.int .i64 0)) ⟨db, 7, none⟩ (.int .u16 0)) ⟨db, 8, none⟩ (.bool false)) := Off.put9 u6 db (⟨0, 0, s.r.pc, noOp, false⟩ : DidV)
        have D7 := Lib.hid (show Has (World.setCell (World.setCell (World.setCell (World.setCell (World.setCell (World.setCell (World.setCell (World.setCell (World.setCell u6 ⟨db, 0, none⟩ (.int .i64 0)) ⟨db, 1, none⟩ (.int .i64 0)) ⟨db, 2, none⟩ (.int .u16 s.r.pc)) ⟨db, 3, none⟩ (.int .i64 0)) ⟨db, 4, none⟩ (.int .i64 0)) ⟨db, 5, none⟩ (.int .i64 0)) ⟨db, 6, none⟩ (.int .i64 0)) ⟨db, 7, none⟩ (.int .u16 0)) ⟨db, 8, none⟩ (.bool false)) db #[.int .i64 0, .int .i64 0, .int .u16 s.r.pc, .int .i64 0, .int .i64 0, .int .i64 0, .int .i64 0, .int .u16 0, .bool false] from D6.out.put9 (⟨0, 0, s.r.pc, noOp, false⟩ : DidV))
        have P7 := Lib.hid (P6.out.off o1 (fun e => DP.out e.symm))
        have O7 := Lib.hid (O6.out.trans (o1.below (fun k hk e => by have := LD.out; have e' : k = db := e; omega) O6.out.size))
        clear o1
        refine hK.out _ _ ?s132 (fun hNew => ?r132)
        case s132 => exact ⟨(HS.out.below O7.out).2.1, trivial⟩
        clear hK K hHeld
        have hHeld := hNew
        clear hNew
        generalize (World.setCell (World.setCell (World.setCell (World.setCell (World.setCell (World.setCell (World.setCell (World.setCell (World.setCell u6 ⟨db, 0, none⟩ (.int .i64 0)) ⟨db, 1, none⟩ (.int .i64 0)) ⟨db, 2, none⟩ (.int .u16 s.r.pc)) ⟨db, 3, none⟩ (.int .i64 0)) ⟨db, 4, none⟩ (.int .i64 0)) ⟨db, 5, none⟩ (.int .i64 0)) ⟨db, 6, none⟩ (.int .i64 0)) ⟨db, 7, none⟩ (.int .u16 0)) ⟨db, 8, none⟩ (.bool false)) = u7 at hHeld P7 D7 O7 ⊢
        refine wpAnyH_done (by kernel_rfl) ?_ _
        clear hHeld
        exact HQ.out pb db _ _ _ _ _ _ _ _ _ _ ⟨O7.out, P7.out, D7.out, LP.out, LD.out, DP.out.symm⟩
    ·skip
     go_simp
     have q := own1 u3 (.cells #[.int .u8 0, .int .u8 0, .int .u8 0, .int .u8 0, .int .u8 0, .int .u8 0, .int .u8 0, .int .u8 0, .int .u16 0, .int .u16 0, .bool false, .bool false, .bool false, .bool false] 41)
     have O4 := Lib.hid (via O3.out q)
     have D4 := Lib.hid (D3.out.below q)
     have P4 := Lib.hid (Has.new u3 #[.int .u8 0, .int .u8 0, .int .u8 0, .int .u8 0, .int .u8 0, .int .u8 0, .int .u8 0, .int .u8 0, .int .u16 0, .int .u16 0, .bool false, .bool false, .bool false, .bool false] 41)
     have LP := Lib.hid O3.out.size
     have DP := Lib.hid (show db ≠ u3.heap.size by have := D3.out.1; omega)
     clear q
     refine hK.out _ _ ?s133 (fun hNew => ?r133)
     case s133 => exact ⟨(HS.out.below O4.out).2.1, trivial⟩
     clear hK K hHeld
     have hHeld := hNew
     clear hNew
     generalize u3.alloc (.cells #[.int .u8 0, .int .u8 0, .int .u8 0, .int .u8 0, .int .u8 0, .int .u8 0, .int .u8 0, .int .u8 0, .int .u16 0, .int .u16 0, .bool false, .bool false, .bool false, .bool false] 41) = u4 at hHeld O4 D4 P4 ⊢
     generalize u3.heap.size = pb at P4 LP DP ⊢
     refine wpAnyH_ready (rs := [5]) (by kernel_rfl) (by simp) ?_
     refine (ac rfl (fun K hK => ?_) AllReadyH.nil)
     ·skip
      go_simp
      with_reducible refine (Step_nt s _ _).mono ?_
      rintro e u5 ⟨rfl, q⟩
      have O5 := Lib.hid (via O4.out q)
      have P5 := Lib.hid (P4.out.below q)
      have D5 := Lib.hid (D4.out.below q)
      clear q
      refine hK.out _ _ ?s134 (fun hNew => ?r134)
      case s134 => exact ⟨(HS.out.below O5.out).2.1, trivial⟩
      clear hK K hHeld
      have hHeld := hNew
      clear hNew
      refine tk 6 rfl (v := ?v135) ?y135 ?z135
      case y135 => (intro w hSw; (try dsimp only at hSw); go_simp) <;> with_reducible rfl
      try simp only [Act.put, qqA, qqB, qqC]
      refine tk 7 rfl (v := ?v136) ?y136 ?z136
      case y136 => (intro w hSw; (try dsimp only at hSw); go_simp) <;> with_reducible rfl
      try simp only [Act.put, qqA, qqB, qqC]
      refine tk 8 rfl (v := ?v137) ?y137 ?z137
      case y137 => (intro w hSw; (try dsimp only at hSw); go_simp) <;> with_reducible rfl
      try simp only [Act.put, qqA, qqB, qqC]
      refine wpAnyH_ready (rs := [11]) (by kernel_rfl) (by simp) ?_
      refine (ac rfl (fun K hK => ?_) AllReadyH.nil)
      ·skip
       have hcc := P5.out.2.1
       have hfz := P5.out.2.2
       go_simp
       clear hcc hfz
       have o1 : Off (fun k => k = pb) u5 (World.setCell (World.setCell (World.setCell (World.setCell (World.setCell (World.setCell (World.setCell (World.setCell (World.setCell (World.setCell (World.setCell (World.setCell (World.setCell (World.setCell u5 ⟨pb, 0, none⟩ (.int .u8 s.r.a)) ⟨pb, 1, none⟩ (.int .u8 s.r.f)) ⟨pb, 2, none⟩ (.int .u8 s.r.b)) ⟨pb, 3, none⟩ (.int .u8 s.r.c)) ⟨pb, 4, none⟩ (.int .u8 s.r.d)) ⟨pb, 5, none⟩ (.int .u8 s.r.e)) ⟨pb, 6, none⟩ (.int .u8 s.r.h)) ⟨pb, 7, none⟩ (.int .u8 s.r.l)) ⟨pb, 8, none⟩ (.int .u16 s.r.sp)) ⟨pb, 9, none⟩ (.int .u16 s.r.pc)) ⟨pb, 10, none⟩ (.bool s.ime)) ⟨pb, 11, none⟩ (.bool s.soon)) ⟨pb, 12, none⟩ (.bool s.halt)) ⟨pb, 13, none⟩ (.bool s.stop)) := Off.put14 u5 pb s
       have P6 := Lib.hid (show Has (World.setCell (World.setCell (World.setCell (World.setCell (World.setCell (World.setCell (World.setCell (World.setCell (World.setCell (World.setCell (World.setCell (World.setCell (World.setCell (World.setCell u5 ⟨pb, 0, none⟩ (.int .u8 s.r.a)) ⟨pb, 1, none⟩ (.int .u8 s.r.f)) ⟨pb, 2, none⟩ (.int .u8 s.r.b)) ⟨pb, 3, none⟩ (.int .u8 s.r.c)) ⟨pb, 4, none⟩ (.int .u8 s.r.d)) ⟨pb, 5, none⟩ (.int .u8 s.r.e)) ⟨pb, 6, none⟩ (.int .u8 s.r.h)) ⟨pb, 7, none⟩ (.int .u8 s.r.l)) ⟨pb, 8, none⟩ (.int .u16 s.r.sp)) ⟨pb, 9, none⟩ (.int .u16 s.r.pc)) ⟨pb, 10, none⟩ (.bool s.ime)) ⟨pb, 11, none⟩ (.bool s.soon)) ⟨pb, 12, none⟩ (.bool s.halt)) ⟨pb, 13, none⟩ (.bool s.stop)) pb #[.int .u8 s.r.a, .int .u8 s.r.f, .int .u8 s.r.b, .int .u8 s.r.c, .int .u8 s.r.d, .int .u8 s.r.e, .int .u8 s.r.h, .int .u8 s.r.l, .int .u16 s.r.sp, .int .u16 s.r.pc, .bool s.ime, .bool s.soon, .bool s.halt, .bool s.stop] from Has.put14 (s0 := ⟨⟨0, 0, 0, 0, 0, 0, 0, 0, 0, 0⟩, false, false, false, false⟩) P5.out s)
       have D6 := Lib.hid (D5.out.off o1 (fun e => DP.out e))
       have O6 := Lib.hid (O5.out.trans (o1.below (fun k hk e => by have := LP.out; have e' : k = pb := e; omega) O5.out.size))
       clear o1
       refine hK.out _ _ ?s138 (fun hNew => ?r138)
       case s138 => exact ⟨(HS.out.below O6.out).2.1, trivial⟩
       clear hK K hHeld
       have hHeld := hNew
       clear hNew
       generalize (World.setCell (World.setCell (World.setCell (World.setCell (World.setCell (World.setCell (World.setCell (World.setCell (World.setCell (World.setCell (World.setCell (World.setCell (World.setCell (World.setCell u5 ⟨pb, 0, none⟩ (.int .u8 s.r.a)) ⟨pb, 1, none⟩ (.int .u8 s.r.f)) ⟨pb, 2, none⟩ (.int .u8 s.r.b)) ⟨pb, 3, none⟩ (.int .u8 s.r.c)) ⟨pb, 4, none⟩ (.int .u8 s.r.d)) ⟨pb, 5, none⟩ (.int .u8 s.r.e)) ⟨pb, 6, none⟩ (.int .u8 s.r.h)) ⟨pb, 7, none⟩ (.int .u8 s.r.l)) ⟨pb, 8, none⟩ (.int .u16 s.r.sp)) ⟨pb, 9, none⟩ (.int .u16 s.r.pc)) ⟨pb, 10, none⟩ (.bool s.ime)) ⟨pb, 11, none⟩ (.bool s.soon)) ⟨pb, 12, none⟩ (.bool s.halt)) ⟨pb, 13, none⟩ (.bool s.stop)) = u6 at hHeld P6 D6 O6 ⊢
       refine wpAnyH_ready (rs := [12]) (by kernel_rfl) (by simp) ?_
       refine (ac rfl (fun K hK => ?_) AllReadyH.nil)
       ·skip
        have hcc := D6.out.2.1
        have hfz := D6.out.2.2
        go_simp
        clear hcc hfz
        have o1 : Off (fun k => k = db) u6 (World.setCell (World.setCell (World.setCell (World.setCell (World.setCell (World.setCell (World.setCell (World.setCell (World.setCell u6 ⟨db, 0, none⟩ (.int .i64 0)) ⟨db, 1, none⟩ (.int .i64 0)) ⟨db, 2, none⟩ (.int .u16 s.r.pc)) ⟨db, 3, none⟩ (.int .i64 0)) ⟨db, 4, none⟩ (.int .i64 0)) ⟨db, 5, none⟩ (.int .i64 0)) ⟨db, 6, none⟩ (.int .i64 0)) ⟨db, 7, none⟩ (.int .u16 0)) ⟨db, 8, none⟩ (.bool false)) := Off.put9 u6 db (⟨0, 0, s.r.pc, noOp, false⟩ : DidV)
        have D7 := Lib.hid (show Has (World.setCell (World.setCell (World.setCell (World.setCell (World.setCell (World.setCell (World.setCell (World.setCell (World.setCell u6 ⟨db, 0, none⟩ (.int .i64 0)) ⟨db, 1, none⟩ (.int .i64 0)) ⟨db, 2, none⟩ (.int .u16 s.r.pc)) ⟨db, 3, none⟩ (.int .i64 0)) ⟨db, 4, none⟩ (.int .i64 0)) ⟨db, 5, none⟩ (.int .i64 0)) ⟨db, 6, none⟩ (.int .i64 0)) ⟨db, 7, none⟩ (.int .u16 0)) ⟨db, 8, none⟩ (.bool false)) db #[.int .i64 0, .int .i64 0, .int .u16 s.r.pc, .int .i64 0, .int .i64 0, .int .i64 0, .int .i64 0, .int .u16 0, .bool false] from D6.out.put9 (⟨0, 0, s.r.pc, noOp, false⟩ : DidV))
        have P7 := Lib.hid (P6.out.off o1 (fun e => DP.out e.symm))
        have O7 := Lib.hid (O6.out.trans (o1.below (fun k hk e => by have := LD.out; have e' : k = db := e; omega) O6.out.size))
        clear o1
        refine hK.out _ _ ?s139 (fun hNew => ?r139)
        case s139 => exact ⟨(HS.out.below O7.out).2.1, trivial⟩
        clear hK K hHeld
        have hHeld := hNew
        clear hNew
        generalize (World.setCell (World.setCell (World.setCell (World.setCell (World.setCell (World.setCell (World.setCell (World.setCell (World.setCell u6 ⟨db, 0, none⟩ (.int .i64 0)) ⟨db, 1, none⟩ (.int .i64 0)) ⟨db, 2, none⟩ (.int .u16 s.r.pc)) ⟨db, 3, none⟩ (.int .i64 0)) ⟨db, 4, none⟩ (.int .i64 0)) ⟨db, 5, none⟩ (.int .i64 0)) ⟨db, 6, none⟩ (.int .i64 0)) ⟨db, 7, none⟩ (.int .u16 0)) ⟨db, 8, none⟩ (.bool false)) = u7 at hHeld P7 D7 O7 ⊢
        refine wpAnyH_done (by kernel_rfl) ?_ _
        clear hHeld
        exact HQ.out pb db _ _ _ _ _ _ _ _ _ _ ⟨O7.out, P7.out, D7.out, LP.out, LD.out, DP.out.symm⟩
  ·skip
   go_simp
   have q := own1 u1 (.cells #[.int .u8 0, .int .u8 0, .int .u8 0, .int .u8 0, .int .u8 0, .int .u8 0, .int .u8 0, .int .u8 0, .int .u16 0, .int .u16 0, .bool false, .bool false, .bool false, .bool false] 41)
   have O2 := Lib.hid (via O1.out q)
   have P2 := Lib.hid (Has.new u1 #[.int .u8 0, .int .u8 0, .int .u8 0, .int .u8 0, .int .u8 0, .int .u8 0, .int .u8 0, .int .u8 0, .int .u16 0, .int .u16 0, .bool false, .bool false, .bool false, .bool false] 41)
   have LP := Lib.hid O1.out.size
   clear q
   refine hK.out _ _ ?s140 (fun hNew => ?r140)
   case s140 => exact ⟨(HS.out.below O2.out).2.1, trivial⟩
   clear hK K hHeld
   have hHeld := hNew
   clear hNew
   generalize u1.alloc (.cells #[.int .u8 0, .int .u8 0, .int .u8 0, .int .u8 0, .int .u8 0, .int .u8 0, .int .u8 0, .int .u8 0, .int .u16 0, .int .u16 0, .bool false, .bool false, .bool false, .bool false] 41) = u2 at hHeld O2 P2 ⊢
   generalize u1.heap.size = pb at P2 LP ⊢
   refine wpAnyH_ready (rs := [3, 10]) (by kernel_rfl) (by simp) ?_
   refine (ac rfl (fun K hK => ?_) (ac rfl (fun K hK => ?_) AllReadyH.nil))
   ·skip
    go_simp
    have q := own1 u2 (.cells #[.slice (some ⟨mb, 0, none⟩) 65536 65536, .slice none 0 0] 35)
    have O3 := Lib.hid (via O2.out q)
    have P3 := Lib.hid (P2.out.below q)
    clear q
    refine hK.out _ _ ?s141 (fun hNew => ?r141)
    case s141 => exact ⟨(HS.out.below O3.out).2.1, trivial⟩
    clear hK K hHeld
    have hHeld := hNew
    clear hNew
    generalize u2.alloc (.cells #[.slice (some ⟨mb, 0, none⟩) 65536 65536, .slice none 0 0] 35) = u3 at hHeld O3 P3 ⊢
    generalize u2.heap.size = rb at ⊢
    refine tk 4 rfl (v := ?v142) ?y142 ?z142
    case y142 => (intro w hSw; (try dsimp only at hSw); go_simp) <;> with_reducible rfl
    try simp only [Act.put, qqA, qqB, qqC]
    refine wpAnyH_ready (rs := [5, 10]) (by kernel_rfl) (by simp) ?_
    refine (ac rfl (fun K hK => ?_) (ac rfl (fun K hK => ?_) AllReadyH.nil))
    ·skip
     go_simp
     with_reducible refine (Step_nt s _ _).mono ?_
     rintro e u4 ⟨rfl, q⟩
     have O4 := Lib.hid (via O3.out q)
     have P4 := Lib.hid (P3.out.below q)
     clear q
     refine hK.out _ _ ?s143 (fun hNew => ?r143)
     case s143 => exact ⟨(HS.out.below O4.out).2.1, trivial⟩
     clear hK K hHeld
     have hHeld := hNew
     clear hNew
     refine tk 6 rfl (v := ?v144) ?y144 ?z144
     case y144 => (intro w hSw; (try dsimp only at hSw); go_simp) <;> with_reducible rfl
     try simp only [Act.put, qqA, qqB, qqC]
     refine tk 7 rfl (v := ?v145) ?y145 ?z145
     case y145 => (intro w hSw; (try dsimp only at hSw); go_simp) <;> with_reducible rfl
     try simp only [Act.put, qqA, qqB, qqC]
     refine tk 8 rfl (v := ?v146) ?y146 ?z146
     case y146 => (intro w hSw; (try dsimp only at hSw); go_simp) <;> with_reducible rfl
     try simp only [Act.put, qqA, qqB, qqC]
     refine wpAnyH_ready (rs := [10]) (by kernel_rfl) (by simp) ?_
     refine (ac rfl (fun K hK => ?_) AllReadyH.nil)
     ·skip
      go_simp
      have q := own1 u4 (.cells #[.int .i64 0, .int .i64 0, .int .u16 0, .int .i64 0, .int .i64 0, .int .i64 0, .int .i64 0, .int .u16 0, .bool false] 46)
      have O5 := Lib.hid (via O4.out q)
      have P5 := Lib.hid (P4.out.below q)
      have D5 := Lib.hid (Has.new u4 #[.int .i64 0, .int .i64 0, .int .u16 0, .int .i64 0, .int .i64 0, .int .i64 0, .int .i64 0, .int .u16 0, .bool false] 46)
      have LD := Lib.hid O4.out.size
      have DP := Lib.hid (show pb ≠ u4.heap.size by have := P4.out.1; omega)
      clear q
      refine hK.out _ _ ?s147 (fun hNew => ?r147)
      case s147 => exact ⟨(HS.out.below O5.out).2.1, trivial⟩
      clear hK K hHeld
      have hHeld := hNew
      clear hNew
      generalize u4.alloc (.cells #[.int .i64 0, .int .i64 0, .int .u16 0, .int .i64 0, .int .i64 0, .int .i64 0, .int .i64 0, .int .u16 0, .bool false] 46) = u5 at hHeld O5 P5 D5 ⊢
      generalize u4.heap.size = db at D5 LD DP ⊢
      refine wpAnyH_ready (rs := [11]) (by kernel_rfl) (by simp) ?_
      refine (ac rfl (fun K hK => ?_) AllReadyH.nil)
      ·skip
       have hcc := P5.out.2.1
       have hfz := P5.out.2.2
       go_simp
       clear hcc hfz
       have o1 : Off (fun k => k = pb) u5 (World.setCell (World.setCell (World.setCell (World.setCell (World.setCell (World.setCell (World.setCell (World.setCell (World.setCell (World.setCell (World.setCell (World.setCell (World.setCell (World.setCell u5 ⟨pb, 0, none⟩ (.int .u8 s.r.a)) ⟨pb, 1, none⟩ (.int .u8 s.r.f)) ⟨pb, 2, none⟩ (.int .u8 s.r.b)) ⟨pb, 3, none⟩ (.int .u8 s.r.c)) ⟨pb, 4, none⟩ (.int .u8 s.r.d)) ⟨pb, 5, none⟩ (.int .u8 s.r.e)) ⟨pb, 6, none⟩ (.int .u8 s.r.h)) ⟨pb, 7, none⟩ (.int .u8 s.r.l)) ⟨pb, 8, none⟩ (.int .u16 s.r.sp)) ⟨pb, 9, none⟩ (.int .u16 s.r.pc)) ⟨pb, 10, none⟩ (.bool s.ime)) ⟨pb, 11, none⟩ (.bool s.soon)) ⟨pb, 12, none⟩ (.bool s.halt)) ⟨pb, 13, none⟩ (.bool s.stop)) := Off.put14 u5 pb s
       have P6 := Lib.hid (show Has (World.setCell (World.setCell (World.setCell (World.setCell (World.setCell (World.setCell (World.setCell (World.setCell (World.setCell (World.setCell (World.setCell (World.setCell (World.setCell (World.setCell u5 ⟨pb, 0, none⟩ (.int .u8 s.r.a)) ⟨pb, 1, none⟩ (.int .u8 s.r.f)) ⟨pb, 2, none⟩ (.int .u8 s.r.b)) ⟨pb, 3, none⟩ (.int .u8 s.r.c)) ⟨pb, 4, none⟩ (.int .u8 s.r.d)) ⟨pb, 5, none⟩ (.int .u8 s.r.e)) ⟨pb, 6, none⟩ (.int .u8 s.r.h)) ⟨pb, 7, none⟩ (.int .u8 s.r.l)) ⟨pb, 8, none⟩ (.int .u16 s.r.sp)) ⟨pb, 9, none⟩ (.int .u16 s.r.pc)) ⟨pb, 10, none⟩ (.bool s.ime)) ⟨pb, 11, none⟩ (.bool s.soon)) ⟨pb, 12, none⟩ (.bool s.halt)) ⟨pb, 13, none⟩ (.bool s.stop)) pb #[.int .u8 s.r.a, .int .u8 s.r.f, .int .u8 s.r.b, .int .u8 s.r.c, .int .u8 s.r.d, .int .u8 s.r.e, .int .u8 s.r.h, .int .u8 s.r.l, .int .u16 s.r.sp, .int .u16 s.r.pc, .bool s.ime, .bool s.soon, .bool s.halt, .bool s.stop] from Has.put14 (s0 := ⟨⟨0, 0, 0, 0, 0, 0, 0, 0, 0, 0⟩, false, false, false, false⟩) P5.out s)
       have D6 := Lib.hid (D5.out.off o1 (fun e => DP.out e.symm))
       have O6 := Lib.hid (O5.out.trans (o1.below (fun k hk e => by have := LP.out; have e' : k = pb := e; omega) O5.out.size))
       clear o1
       refine hK.out _ _ ?s148 (fun hNew => ?r148)
       case s148 => exact ⟨(HS.out.below O6.out).2.1, trivial⟩
       clear hK K hHeld
       have hHeld := hNew
       clear hNew
       generalize (World.setCell (World.setCell (World.setCell (World.setCell (World.setCell (World.setCell (World.setCell (World.setCell (World.setCell (World.setCell (World.setCell (World.setCell (World.setCell (World.setCell u5 ⟨pb, 0, none⟩ (.int .u8 s.r.a)) ⟨pb, 1, none⟩ (.int .u8 s.r.f)) ⟨pb, 2, none⟩ (.int .u8 s.r.b)) ⟨pb, 3, none⟩ (.int .u8 s.r.c)) ⟨pb, 4, none⟩ (.int .u8 s.r.d)) ⟨pb, 5, none⟩ (.int .u8 s.r.e)) ⟨pb, 6, none⟩ (.int .u8 s.r.h)) ⟨pb, 7, none⟩ (.int .u8 s.r.l)) ⟨pb, 8, none⟩ (.int .u16 s.r.sp)) ⟨pb, 9, none⟩ (.int .u16 s.r.pc)) ⟨pb, 10, none⟩ (.bool s.ime)) ⟨pb, 11, none⟩ (.bool s.soon)) ⟨pb, 12, none⟩ (.bool s.halt)) ⟨pb, 13, none⟩ (.bool s.stop)) = u6 at hHeld P6 D6 O6 ⊢
       refine wpAnyH_ready (rs := [12]) (by kernel_rfl) (by simp) ?_
       refine (ac rfl (fun K hK => ?_) AllReadyH.nil)
       ·skip
        have hcc := D6.out.2.1
        have hfz := D6.out.2.2
        go_simp
        clear hcc hfz
        have o1 : Off (fun k => k = db) u6 (World.setCell (World.setCell (World.setCell (World.setCell (World.setCell (World.setCell (World.setCell (World.setCell (World.setCell u6 ⟨db, 0, none⟩ (.int .i64 0)) ⟨db, 1, none⟩ (.int .i64 0)) ⟨db, 2, none⟩ (.int .u16 s.r.pc)) ⟨db, 3, none⟩ (.int .i64 0)) ⟨db, 4, none⟩ (.int .i64 0)) ⟨db, 5, none⟩ (.int .i64 0)) ⟨db, 6, none⟩ (.int .i64 0)) ⟨db, 7, none⟩ (.int .u16 0)) ⟨db, 8, none⟩ (.bool false)) := Off.put9 u6 db (⟨0, 0, s.r.pc, noOp, false⟩ : DidV)
        have D7 := Lib.hid (show Has (World.setCell (World.setCell (World.setCell (World.setCell (World.setCell (World.setCell (World.setCell (World.setCell (World.setCell u6 ⟨db, 0, none⟩ (.int .i64 0)) ⟨db, 1, none⟩ (.int .i64 0)) ⟨db, 2, none⟩ (.int .u16 s.r.pc)) ⟨db, 3, none⟩ (.int .i64 0)) ⟨db, 4, none⟩ (.int .i64 0)) ⟨db, 5, none⟩ (.int .i64 0)) ⟨db, 6, none⟩ (.int .i64 0)) ⟨db, 7, none⟩ (.int .u16 0)) ⟨db, 8, none⟩ (.bool false)) db #[.int .i64 0, .int .i64 0, .int .u16 s.r.pc, .int .i64 0, .int .i64 0, .int .i64 0, .int .i64 0, .int .u16 0, .bool false] from D6.out.put9 (⟨0, 0, s.r.pc, noOp, false⟩ : DidV))
        have P7 := Lib.hid (P6.out.off o1 (fun e => DP.out e))
        have O7 := Lib.hid (O6.out.trans (o1.below (fun k hk e => by have := LD.out; have e' : k = db := e; omega) O6.out.size))
        clear o1
        refine hK.out _ _ ?s149 (fun hNew => ?r149)
        case s149 => exact ⟨(HS.out.below O7.out).2.1, trivial⟩
        clear hK K hHeld
        have hHeld := hNew
        clear hNew
        generalize (World.setCell (World.setCell (World.setCell (World.setCell (World.setCell (World.setCell (World.setCell (World.setCell (World.setCell u6 ⟨db, 0, none⟩ (.int .i64 0)) ⟨db, 1, none⟩ (.int .i64 0)) ⟨db, 2, none⟩ (.int .u16 s.r.pc)) ⟨db, 3, none⟩ (.int .i64 0)) ⟨db, 4, none⟩ (.int .i64 0)) ⟨db, 5, none⟩ (.int .i64 0)) ⟨db, 6, none⟩ (.int .i64 0)) ⟨db, 7, none⟩ (.int .u16 0)) ⟨db, 8, none⟩ (.bool false)) = u7 at hHeld P7 D7 O7 ⊢
        refine wpAnyH_done (by kernel_rfl) ?_ _
        clear hHeld
        exact HQ.out pb db _ _ _ _ _ _ _ _ _ _ ⟨O7.out, P7.out, D7.out, LP.out, LD.out, DP.out⟩
    ·skip
     go_simp
     have q := own1 u3 (.cells #[.int .i64 0, .int .i64 0, .int .u16 0, .int .i64 0, .int .i64 0, .int .i64 0, .int .i64 0, .int .u16 0, .bool false] 46)
     have O4 := Lib.hid (via O3.out q)
     have P4 := Lib.hid (P3.out.below q)
     have D4 := Lib.hid (Has.new u3 #[.int .i64 0, .int .i64 0, .int .u16 0, .int .i64 0, .int .i64 0, .int .i64 0, .int .i64 0, .int .u16 0, .bool false] 46)
     have LD := Lib.hid O3.out.size
     have DP := Lib.hid (show pb ≠ u3.heap.size by have := P3.out.1; omega)
     clear q
     refine hK.out _ _ ?s150 (fun hNew => ?r150)
     case s150 => exact ⟨(HS.out.below O4.out).2.1, trivial⟩
     clear hK K hHeld
     have hHeld := hNew
     clear hNew
     generalize u3.alloc (.cells #[.int .i64 0, .int .i64 0, .int .u16 0, .int .i64 0, .int .i64 0, .int .i64 0, .int .i64 0, .int .u16 0, .bool false] 46) = u4 at hHeld O4 P4 D4 ⊢
     generalize u3.heap.size = db at D4 LD DP ⊢
     refine wpAnyH_ready (rs := [5]) (by kernel_rfl) (by simp) ?_
     refine (ac rfl (fun K hK => ?_) AllReadyH.nil)
     ·skip
      go_simp
      with_reducible refine (Step_nt s _ _).mono ?_
      rintro e u5 ⟨rfl, q⟩
      have O5 := Lib.hid (via O4.out q)
      have P5 := Lib.hid (P4.out.below q)
      have D5 := Lib.hid (D4.out.below q)
      clear q
      refine hK.out _ _ ?s151 (fun hNew => ?r151)
      case s151 => exact ⟨(HS.out.below O5.out).2.1, trivial⟩
      clear hK K hHeld
      have hHeld := hNew
      clear hNew
      refine tk 6 rfl (v := ?v152) ?y152 ?z152
      case y152 => (intro w hSw; (try dsimp only at hSw); go_simp) <;> with_reducible rfl
      try simp only [Act.put, qqA, qqB, qqC]
      refine tk 7 rfl (v := ?v153) ?y153 ?z153
      case y153 => (intro w hSw; (try dsimp only at hSw); go_simp) <;> with_reducible rfl
      try simp only [Act.put, qqA, qqB, qqC]
      refine tk 8 rfl (v := ?v154) ?y154 ?z154
      case y154 => (intro w hSw; (try dsimp only at hSw); go_simp) <;> with_reducible rfl
      try simp only [Act.put, qqA, qqB, qqC]
      refine wpAnyH_ready (rs := [11]) (by kernel_rfl) (by simp) ?_
      refine (ac rfl (fun K hK => ?_) AllReadyH.nil)
      ·skip
       have hcc := P5.out.2.1
       have hfz := P5.out.2.2
       go_simp
       clear hcc hfz
       have o1 : Off (fun k => k = pb) u5 (World.setCell (World.setCell (World.setCell (World.setCell (World.setCell (World.setCell (World.setCell (World.setCell (World.setCell (World.setCell (World.setCell (World.setCell (World.setCell (World.setCell u5 ⟨pb, 0, none⟩ (.int .u8 s.r.a)) ⟨pb, 1, none⟩ (.int .u8 s.r.f)) ⟨pb, 2, none⟩ (.int .u8 s.r.b)) ⟨pb, 3, none⟩ (.int .u8 s.r.c)) ⟨pb, 4, none⟩ (.int .u8 s.r.d)) ⟨pb, 5, none⟩ (.int .u8 s.r.e)) ⟨pb, 6, none⟩ (.int .u8 s.r.h)) ⟨pb, 7, none⟩ (.int .u8 s.r.l)) ⟨pb, 8, none⟩ (.int .u16 s.r.sp)) ⟨pb, 9, none⟩ (.int .u16 s.r.pc)) ⟨pb, 10, none⟩ (.bool s.ime)) ⟨pb, 11, none⟩ (.bool s.soon)) ⟨pb, 12, none⟩ (.bool s.halt)) ⟨pb, 13, none⟩ (.bool s.stop)) := Off.put14 u5 pb s
       have P6 := Lib.hid (show Has (World.setCell (World.setCell (World.setCell (World.setCell (World.setCell (World.setCell (World.setCell (World.setCell (World.setCell (World.setCell (World.setCell (World.setCell (World.setCell (World.setCell u5 ⟨pb, 0, none⟩ (.int .u8 s.r.a)) ⟨pb, 1, none⟩ (.int .u8 s.r.f)) ⟨pb, 2, none⟩ (.int .u8 s.r.b)) ⟨pb, 3, none⟩ (.int .u8 s.r.c)) ⟨pb, 4, none⟩ (.int .u8 s.r.d)) ⟨pb, 5, none⟩ (.int .u8 s.r.e)) ⟨pb, 6, none⟩ (.int .u8 s.r.h)) ⟨pb, 7, none⟩ (.int .u8 s.r.l)) ⟨pb, 8, none⟩ (.int .u16 s.r.sp)) ⟨pb, 9, none⟩ (.int .u16 s.r.pc)) ⟨pb, 10, none⟩ (.bool s.ime)) ⟨pb, 11, none⟩ (.bool s.soon)) ⟨pb, 12, none⟩ (.bool s.halt)) ⟨pb, 13, none⟩ (.bool s.stop)) pb #[.int .u8 s.r.a, .int .u8 s.r.f, .int .u8 s.r.b, .int .u8 s.r.c, .int .u8 s.r.d, .int .u8 s.r.e, .int .u8 s.r.h, .int .u8 s.r.l, .int .u16 s.r.sp, .int .u16 s.r.pc, .bool s.ime, .bool s.soon, .bool s.halt, .bool s.stop] from Has.put14 (s0 := ⟨⟨0, 0, 0, 0, 0, 0, 0, 0, 0, 0⟩, false, false, false, false⟩) P5.out s)
       have D6 := Lib.hid (D5.out.off o1 (fun e => DP.out e.symm))
       have O6 := Lib.hid (O5.out.trans (o1.below (fun k hk e => by have := LP.out; have e' : k = pb := e; omega) O5.out.size))
       clear o1
       refine hK.out _ _ ?s155 (fun hNew => ?r155)
       case s155 => exact ⟨(HS.out.below O6.out).2.1, trivial⟩
       clear hK K hHeld
       have hHeld := hNew
       clear hNew
       generalize (World.setCell (World.setCell (World.setCell (World.setCell (World.setCell (World.setCell (World.setCell (World.setCell (World.setCell (World.setCell (World.setCell (World.setCell (World.setCell (World.setCell u5 ⟨pb, 0, none⟩ (.int .u8 s.r.a)) ⟨pb, 1, none⟩ (.int .u8 s.r.f)) ⟨pb, 2, none⟩ (.int .u8 s.r.b)) ⟨pb, 3, none⟩ (.int .u8 s.r.c)) ⟨pb, 4, none⟩ (.int .u8 s.r.d)) ⟨pb, 5, none⟩ (.int .u8 s.r.e)) ⟨pb, 6, none⟩ (.int .u8 s.r.h)) ⟨pb, 7, none⟩ (.int .u8 s.r.l)) ⟨pb, 8, none⟩ (.int .u16 s.r.sp)) ⟨pb, 9, none⟩ (.int .u16 s.r.pc)) ⟨pb, 10, none⟩ (.bool s.ime)) ⟨pb, 11, none⟩ (.bool s.soon)) ⟨pb, 12, none⟩ (.bool s.halt)) ⟨pb, 13, none⟩ (.bool s.stop)) = u6 at hHeld P6 D6 O6 ⊢
       refine wpAnyH_ready (rs := [12]) (by kernel_rfl) (by simp) ?_
       refine (ac rfl (fun K hK => ?_) AllReadyH.nil)
       ·skip
        have hcc := D6.out.2.1
        have hfz := D6.out.2.2
        go_simp
        clear hcc hfz
        have o1 : Off (fun k => k = db) u6 (World.setCell (World.setCell (World.setCell (World.setCell (World.setCell (World.setCell (World.setCell (World.setCell (World.setCell u6 ⟨db, 0, none⟩ (.int .i64 0)) ⟨db, 1, none⟩ (.int .i64 0)) ⟨db, 2, none⟩ (.int .u16 s.r.pc)) ⟨db, 3, none⟩ (.int .i64 0)) ⟨db, 4, none⟩ (.int .i64 0)) ⟨db, 5, none⟩ (.int .i64 0)) ⟨db, 6, none⟩ (.int .i64 0)) ⟨db, 7, none⟩ (.int .u16 0)) ⟨db, 8, none⟩ (.bool false)) := Off.put9 u6 db (⟨0, 0, s.r.pc, noOp, false⟩ : DidV)
        have D7 := Lib.hid (show Has (World.setCell (World.setCell (World.setCell (World.setCell (World.setCell (World.setCell (World.setCell (World.setCell (World.setCell u6 ⟨db, 0, none⟩ (.int .i64 0)) ⟨db, 1, none⟩ (.int .i64 0)) ⟨db, 2, none⟩ (.int .u16 s.r.pc)) ⟨db, 3, none⟩ (.int .i64 0)) ⟨db, 4, none⟩ (.int .i64 0)) ⟨db, 5, none⟩ (.int .i64 0)) ⟨db, 6, none⟩ (.int .i64 0)) ⟨db, 7, none⟩ (.int .u16 0)) ⟨db, 8, none⟩ (.bool false)) db #[.int .i64 0, .int .i64 0, .int .u16 s.r.pc, .int .i64 0, .int .i64 0, .int .i64 0, .int .i64 0, .int .u16 0, .bool false] from D6.out.put9 (⟨0, 0, s.r.pc, noOp, false⟩ : DidV))
        have P7 := Lib.hid (P6.out.off o1 (fun e => DP.out e))
        have O7 := Lib.hid (O6.out.trans (o1.below (fun k hk e => by have := LD.out; have e' : k = db := e; omega) O6.out.size))
        clear o1
        refine hK.out _ _ ?s156 (fun hNew => ?r156)
        case s156 => exact ⟨(HS.out.below O7.out).2.1, trivial⟩
        clear hK K hHeld
        have hHeld := hNew
        clear hNew
        generalize (World.setCell (World.setCell (World.setCell (World.setCell (World.setCell (World.setCell (World.setCell (World.setCell (World.setCell u6 ⟨db, 0, none⟩ (.int .i64 0)) ⟨db, 1, none⟩ (.int .i64 0)) ⟨db, 2, none⟩ (.int .u16 s.r.pc)) ⟨db, 3, none⟩ (.int .i64 0)) ⟨db, 4, none⟩ (.int .i64 0)) ⟨db, 5, none⟩ (.int .i64 0)) ⟨db, 6, none⟩ (.int .i64 0)) ⟨db, 7, none⟩ (.int .u16 0)) ⟨db, 8, none⟩ (.bool false)) = u7 at hHeld P7 D7 O7 ⊢
        refine wpAnyH_done (by kernel_rfl) ?_ _
        clear hHeld
        exact HQ.out pb db _ _ _ _ _ _ _ _ _ _ ⟨O7.out, P7.out, D7.out, LP.out, LD.out, DP.out⟩
   ·skip
    go_simp
    have q := own1 u2 (.cells #[.int .i64 0, .int .i64 0, .int .u16 0, .int .i64 0, .int .i64 0, .int .i64 0, .int .i64 0, .int .u16 0, .bool false] 46)
    have O3 := Lib.hid (via O2.out q)
    have P3 := Lib.hid (P2.out.below q)
    have D3 := Lib.hid (Has.new u2 #[.int .i64 0, .int .i64 0, .int .u16 0, .int .i64 0, .int .i64 0, .int .i64 0, .int .i64 0, .int .u16 0, .bool false] 46)
    have LD := Lib.hid O2.out.size
    have DP := Lib.hid (show pb ≠ u2.heap.size by have := P2.out.1; omega)
    clear q
    refine hK.out _ _ ?s157 (fun hNew => ?r157)
    case s157 => exact ⟨(HS.out.below O3.out).2.1, trivial⟩
    clear hK K hHeld
    have hHeld := hNew
    clear hNew
    generalize u2.alloc (.cells #[.int .i64 0, .int .i64 0, .int .u16 0, .int .i64 0, .int .i64 0, .int .i64 0, .int .i64 0, .int .u16 0, .bool false] 46) = u3 at hHeld O3 P3 D3 ⊢
    generalize u2.heap.size = db at D3 LD DP ⊢
    refine wpAnyH_ready (rs := [3]) (by kernel_rfl) (by simp) ?_
    refine (ac rfl (fun K hK => ?_) AllReadyH.nil)
    ·skip
     go_simp
     have q := own1 u3 (.cells #[.slice (some ⟨mb, 0, none⟩) 65536 65536, .slice none 0 0] 35)
     have O4 := Lib.hid (via O3.out q)
     have P4 := Lib.hid (P3.out.below q)
     have D4 := Lib.hid (D3.out.below q)
     clear q
     refine hK.out _ _ ?s158 (fun hNew => ?r158)
     case s158 => exact ⟨(HS.out.below O4.out).2.1, trivial⟩
     clear hK K hHeld
     have hHeld := hNew
     clear hNew
     generalize u3.alloc (.cells #[.slice (some ⟨mb, 0, none⟩) 65536 65536, .slice none 0 0] 35) = u4 at hHeld O4 P4 D4 ⊢
     generalize u3.heap.size = rb at ⊢
     refine tk 4 rfl (v := ?v159) ?y159 ?z159
     case y159 => (intro w hSw; (try dsimp only at hSw); go_simp) <;> with_reducible rfl
     try simp only [Act.put, qqA, qqB, qqC]
     refine wpAnyH_ready (rs := [5]) (by kernel_rfl) (by simp) ?_
     refine (ac rfl (fun K hK => ?_) AllReadyH.nil)
     ·skip
      go_simp
      with_reducible refine (Step_nt s _ _).mono ?_
      rintro e u5 ⟨rfl, q⟩
      have O5 := Lib.hid (via O4.out q)
      have P5 := Lib.hid (P4.out.below q)
      have D5 := Lib.hid (D4.out.below q)
      clear q
      refine hK.out _ _ ?s160 (fun hNew => ?r160)
      case s160 => exact ⟨(HS.out.below O5.out).2.1, trivial⟩
      clear hK K hHeld
      have hHeld := hNew
      clear hNew
      refine tk 6 rfl (v := ?v161) ?y161 ?z161
      case y161 => (intro w hSw; (try dsimp only at hSw); go_simp) <;> with_reducible rfl
      try simp only [Act.put, qqA, qqB, qqC]
      refine tk 7 rfl (v := ?v162) ?y162 ?z162
      case y162 => (intro w hSw; (try dsimp only at hSw); go_simp) <;> with_reducible rfl
      try simp only [Act.put, qqA, qqB, qqC]
      refine tk 8 rfl (v := ?v163) ?y163 ?z163
      case y163 => (intro w hSw; (try dsimp only at hSw); go_simp) <;> with_reducible rfl
      try simp only [Act.put, qqA, qqB, qqC]
      refine wpAnyH_ready (rs := [11]) (by kernel_rfl) (by simp) ?_
      refine (ac rfl (fun K hK => ?_) AllReadyH.nil)
      ·skip
       have hcc := P5.out.2.1
       have hfz := P5.out.2.2
       go_simp
       clear hcc hfz
       have o1 : Off (fun k => k = pb) u5 (World.setCell (World.setCell (World.setCell (World.setCell (World.setCell (World.setCell (World.setCell (World.setCell (World.setCell (World.setCell (World.setCell (World.setCell (World.setCell (World.setCell u5 ⟨pb, 0, none⟩ (.int .u8 s.r.a)) ⟨pb, 1, none⟩ (.int .u8 s.r.f)) ⟨pb, 2, none⟩ (.int .u8 s.r.b)) ⟨pb, 3, none⟩ (.int .u8 s.r.c)) ⟨pb, 4, none⟩ (.int .u8 s.r.d)) ⟨pb, 5, none⟩ (.int .u8 s.r.e)) ⟨pb, 6, none⟩ (.int .u8 s.r.h)) ⟨pb, 7, none⟩ (.int .u8 s.r.l)) ⟨pb, 8, none⟩ (.int .u16 s.r.sp)) ⟨pb, 9, none⟩ (.int .u16 s.r.pc)) ⟨pb, 10, none⟩ (.bool s.ime)) ⟨pb, 11, none⟩ (.bool s.soon)) ⟨pb, 12, none⟩ (.bool s.halt)) ⟨pb, 13, none⟩ (.bool s.stop)) := Off.put14 u5 pb s
       have P6 := Lib.hid (show Has (World.setCell (World.setCell (World.setCell (World.setCell (World.setCell (World.setCell (World.setCell (World.setCell (World.setCell (World.setCell (World.setCell (World.setCell (World.setCell (World.setCell u5 ⟨pb, 0, none⟩ (.int .u8 s.r.a)) ⟨pb, 1, none⟩ (.int .u8 s.r.f)) ⟨pb, 2, none⟩ (.int .u8 s.r.b)) ⟨pb, 3, none⟩ (.int .u8 s.r.c)) ⟨pb, 4, none⟩ (.int .u8 s.r.d)) ⟨pb, 5, none⟩ (.int .u8 s.r.e)) ⟨pb, 6, none⟩ (.int .u8 s.r.h)) ⟨pb, 7, none⟩ (.int .u8 s.r.l)) ⟨pb, 8, none⟩ (.int .u16 s.r.sp)) ⟨pb, 9, none⟩ (.int .u16 s.r.pc)) ⟨pb, 10, none⟩ (.bool s.ime)) ⟨pb, 11, none⟩ (.bool s.soon)) ⟨pb, 12, none⟩ (.bool s.halt)) ⟨pb, 13, none⟩ (.bool s.stop)) pb #[.int .u8 s.r.a, .int .u8 s.r.f, .int .u8 s.r.b, .int .u8 s.r.c, .int .u8 s.r.d, .int .u8 s.r.e, .int .u8 s.r.h, .int .u8 s.r.l, .int .u16 s.r.sp, .int .u16 s.r.pc, .bool s.ime, .bool s.soon, .bool s.halt, .bool s.stop] from Has.put14 (s0 := ⟨⟨0, 0, 0, 0, 0, 0, 0, 0, 0, 0⟩, false, false, false, false⟩) P5.out s)
       have D6 := Lib.hid (D5.out.off o1 (fun e => DP.out e.symm))
       have O6 := Lib.hid (O5.out.trans (o1.below (fun k hk e => by have := LP.out; have e' : k = pb := e; omega) O5.out.size))
       clear o1
       refine hK.out _ _ ?s164 (fun hNew => ?r164)
       case s164 => exact ⟨(HS.out.below O6.out).2.1, trivial⟩
       clear hK K hHeld
       have hHeld := hNew
       clear hNew
       generalize (World.setCell (World.setCell (World.setCell (World.setCell (World.setCell (World.setCell (World.setCell (World.setCell (World.setCell (World.setCell (World.setCell (World.setCell (World.setCell (World.setCell u5 ⟨pb, 0, none⟩ (.int .u8 s.r.a)) ⟨pb, 1, none⟩ (.int .u8 s.r.f)) ⟨pb, 2, none⟩ (.int .u8 s.r.b)) ⟨pb, 3, none⟩ (.int .u8 s.r.c)) ⟨pb, 4, none⟩ (.int .u8 s.r.d)) ⟨pb, 5, none⟩ (.int .u8 s.r.e)) ⟨pb, 6, none⟩ (.int .u8 s.r.h)) ⟨pb, 7, none⟩ (.int .u8 s.r.l)) ⟨pb, 8, none⟩ (.int .u16 s.r.sp)) ⟨pb, 9, none⟩ (.int .u16 s.r.pc)) ⟨pb, 10, none⟩ (.bool s.ime)) ⟨pb, 11, none⟩ (.bool s.soon)) ⟨pb, 12, none⟩ (.bool s.halt)) ⟨pb, 13, none⟩ (.bool s.stop)) = u6 at hHeld P6 D6 O6 ⊢
       refine wpAnyH_ready (rs := [12]) (by kernel_rfl) (by simp) ?_
       refine (ac rfl (fun K hK => ?_) AllReadyH.nil)
       ·skip
        have hcc := D6.out.2.1
        have hfz := D6.out.2.2
        go_simp
        clear hcc hfz
        have o1 : Off (fun k => k = db) u6 (World.setCell (World.setCell (World.setCell (World.setCell (World.setCell (World.setCell (World.setCell (World.setCell (World.setCell u6 ⟨db, 0, none⟩ (.int .i64 0)) ⟨db, 1, none⟩ (.int .i64 0)) ⟨db, 2, none⟩ (.int .u16 s.r.pc)) ⟨db, 3, none⟩ (.int .i64 0)) ⟨db, 4, none⟩ (.int .i64 0)) ⟨db, 5, none⟩ (.int .i64 0)) ⟨db, 6, none⟩ (.int .i64 0)) ⟨db, 7, none⟩ (.int .u16 0)) ⟨db, 8, none⟩ (.bool false)) := Off.put9 u6 db (⟨0, 0, s.r.pc, noOp, false⟩ : DidV)
        have D7 := Lib.hid (show Has (World.setCell (World.setCell (World.setCell (World.setCell (World.setCell (World.setCell (World.setCell (World.setCell (World.setCell u6 ⟨db, 0, none⟩ (.int .i64 0)) ⟨db, 1, none⟩ (.int .i64 0)) ⟨db, 2, none⟩ (.int .u16 s.r.pc)) ⟨db, 3, none⟩ (.int .i64 0)) ⟨db, 4, none⟩ (.int .i64 0)) ⟨db, 5, none⟩ (.int .i64 0)) ⟨db, 6, none⟩ (.int .i64 0)) ⟨db, 7, none⟩ (.int .u16 0)) ⟨db, 8, none⟩ (.bool false)) db #[.int .i64 0, .int .i64 0, .int .u16 s.r.pc, .int .i64 0, .int .i64 0, .int .i64 0, .int .i64 0, .int .u16 0, .bool false] from D6.out.put9 (⟨0, 0, s.r.pc, noOp, false⟩ : DidV))
        have P7 := Lib.hid (P6.out.off o1 (fun e => DP.out e))
        have O7 := Lib.hid (O6.out.trans (o1.below (fun k hk e => by have := LD.out; have e' : k = db := e; omega) O6.out.size))
        clear o1
        refine hK.out _ _ ?s165 (fun hNew => ?r165)
        case s165 => exact ⟨(HS.out.below O7.out).2.1, trivial⟩
        clear hK K hHeld
        have hHeld := hNew
        clear hNew
        generalize (World.setCell (World.setCell (World.setCell (World.setCell (World.setCell (World.setCell (World.setCell (World.setCell (World.setCell u6 ⟨db, 0, none⟩ (.int .i64 0)) ⟨db, 1, none⟩ (.int .i64 0)) ⟨db, 2, none⟩ (.int .u16 s.r.pc)) ⟨db, 3, none⟩ (.int .i64 0)) ⟨db, 4, none⟩ (.int .i64 0)) ⟨db, 5, none⟩ (.int .i64 0)) ⟨db, 6, none⟩ (.int .i64 0)) ⟨db, 7, none⟩ (.int .u16 0)) ⟨db, 8, none⟩ (.bool false)) = u7 at hHeld P7 D7 O7 ⊢
        refine wpAnyH_done (by kernel_rfl) ?_ _
        clear hHeld
        exact HQ.out pb db _ _ _ _ _ _ _ _ _ _ ⟨O7.out, P7.out, D7.out, LP.out, LD.out, DP.out⟩
  ·skip
   go_simp
   have q := own1 u1 (.cells #[.int .i64 0, .int .i64 0, .int .u16 0, .int .i64 0, .int .i64 0, .int .i64 0, .int .i64 0, .int .u16 0, .bool false] 46)
   have O2 := Lib.hid (via O1.out q)
   have D2 := Lib.hid (Has.new u1 #[.int .i64 0, .int .i64 0, .int .u16 0, .int .i64 0, .int .i64 0, .int .i64 0, .int .i64 0, .int .u16 0, .bool false] 46)
   have LD := Lib.hid O1.out.size
   clear q
   refine hK.out _ _ ?s166 (fun hNew => ?r166)
   case s166 => exact ⟨(HS.out.below O2.out).2.1, trivial⟩
   clear hK K hHeld
   have hHeld := hNew
   clear hNew
   generalize u1.alloc (.cells #[.int .i64 0, .int .i64 0, .int .u16 0, .int .i64 0, .int .i64 0, .int .i64 0, .int .i64 0, .int .u16 0, .bool false] 46) = u2 at hHeld O2 D2 ⊢
   generalize u1.heap.size = db at D2 LD ⊢
   refine wpAnyH_ready (rs := [3, 9]) (by kernel_rfl) (by simp) ?_
   refine (ac rfl (fun K hK => ?_) (ac rfl (fun K hK => ?_) AllReadyH.nil))
   ·skip
    go_simp
    have q := own1 u2 (.cells #[.slice (some ⟨mb, 0, none⟩) 65536 65536, .slice none 0 0] 35)
    have O3 := Lib.hid (via O2.out q)
    have D3 := Lib.hid (D2.out.below q)
    clear q
    refine hK.out _ _ ?s167 (fun hNew => ?r167)
    case s167 => exact ⟨(HS.out.below O3.out).2.1, trivial⟩
    clear hK K hHeld
    have hHeld := hNew
    clear hNew
    generalize u2.alloc (.cells #[.slice (some ⟨mb, 0, none⟩) 65536 65536, .slice none 0 0] 35) = u3 at hHeld O3 D3 ⊢
    generalize u2.heap.size = rb at ⊢
    refine tk 4 rfl (v := ?v168) ?y168 ?z168
    case y168 => (intro w hSw; (try dsimp only at hSw); go_simp) <;> with_reducible rfl
    try simp only [Act.put, qqA, qqB, qqC]
    refine wpAnyH_ready (rs := [5, 9]) (by kernel_rfl) (by simp) ?_
    refine (ac rfl (fun K hK => ?_) (ac rfl (fun K hK => ?_) AllReadyH.nil))
    ·skip
     go_simp
     with_reducible refine (Step_nt s _ _).mono ?_
     rintro e u4 ⟨rfl, q⟩
     have O4 := Lib.hid (via O3.out q)
     have D4 := Lib.hid (D3.out.below q)
     clear q
     refine hK.out _ _ ?s169 (fun hNew => ?r169)
     case s169 => exact ⟨(HS.out.below O4.out).2.1, trivial⟩
     clear hK K hHeld
     have hHeld := hNew
     clear hNew
     refine tk 6 rfl (v := ?v170) ?y170 ?z170
     case y170 => (intro w hSw; (try dsimp only at hSw); go_simp) <;> with_reducible rfl
     try simp only [Act.put, qqA, qqB, qqC]
     refine tk 7 rfl (v := ?v171) ?y171 ?z171
     case y171 => (intro w hSw; (try dsimp only at hSw); go_simp) <;> with_reducible rfl
     try simp only [Act.put, qqA, qqB, qqC]
     refine tk 8 rfl (v := ?v172) ?y172 ?z172
     case y172 => (intro w hSw; (try dsimp only at hSw); go_simp) <;> with_reducible rfl
     try simp only [Act.put, qqA, qqB, qqC]
     refine wpAnyH_ready (rs := [9]) (by kernel_rfl) (by simp) ?_
     refine (ac rfl (fun K hK => ?_) AllReadyH.nil)
     ·skip
      go_simp
      have q := own1 u4 (.cells #[.int .u8 0, .int .u8 0, .int .u8 0, .int .u8 0, .int .u8 0, .int .u8 0, .int .u8 0, .int .u8 0, .int .u16 0, .int .u16 0, .bool false, .bool false, .bool false, .bool false] 41)
      have O5 := Lib.hid (via O4.out q)
      have D5 := Lib.hid (D4.out.below q)
      have P5 := Lib.hid (Has.new u4 #[.int .u8 0, .int .u8 0, .int .u8 0, .int .u8 0, .int .u8 0, .int .u8 0, .int .u8 0, .int .u8 0, .int .u16 0, .int .u16 0, .bool false, .bool false, .bool false, .bool false] 41)
      have LP := Lib.hid O4.out.size
      have DP := Lib.hid (show db ≠ u4.heap.size by have := D4.out.1; omega)
      clear q
      refine hK.out _ _ ?s173 (fun hNew => ?r173)
      case s173 => exact ⟨(HS.out.below O5.out).2.1, trivial⟩
      clear hK K hHeld
      have hHeld := hNew
      clear hNew
      generalize u4.alloc (.cells #[.int .u8 0, .int .u8 0, .int .u8 0, .int .u8 0, .int .u8 0, .int .u8 0, .int .u8 0, .int .u8 0, .int .u16 0, .int .u16 0, .bool false, .bool false, .bool false, .bool false] 41) = u5 at hHeld O5 D5 P5 ⊢
      generalize u4.heap.size = pb at P5 LP DP ⊢
      refine wpAnyH_ready (rs := [11]) (by kernel_rfl) (by simp) ?_
      refine (ac rfl (fun K hK => ?_) AllReadyH.nil)
      ·skip
       have hcc := P5.out.2.1
       have hfz := P5.out.2.2
       go_simp
       clear hcc hfz
       have o1 : Off (fun k => k = pb) u5 (World.setCell (World.setCell (World.setCell (World.setCell (World.setCell (World.setCell (World.setCell (World.setCell (World.setCell (World.setCell (World.setCell (World.setCell (World.setCell (World.setCell u5 ⟨pb, 0, none⟩ (.int .u8 s.r.a)) ⟨pb, 1, none⟩ (.int .u8 s.r.f)) ⟨pb, 2, none⟩ (.int .u8 s.r.b)) ⟨pb, 3, none⟩ (.int .u8 s.r.c)) ⟨pb, 4, none⟩ (.int .u8 s.r.d)) ⟨pb, 5, none⟩ (.int .u8 s.r.e)) ⟨pb, 6, none⟩ (.int .u8 s.r.h)) ⟨pb, 7, none⟩ (.int .u8 s.r.l)) ⟨pb, 8, none⟩ (.int .u16 s.r.sp)) ⟨pb, 9, none⟩ (.int .u16 s.r.pc)) ⟨pb, 10, none⟩ (.bool s.ime)) ⟨pb, 11, none⟩ (.bool s.soon)) ⟨pb, 12, none⟩ (.bool s.halt)) ⟨pb, 13, none⟩ (.bool s.stop)) := Off.put14 u5 pb s
       have P6 := Lib.hid (show Has (World.setCell (World.setCell (World.setCell (World.setCell (World.setCell (World.setCell (World.setCell (World.setCell (World.setCell (World.setCell (World.setCell (World.setCell (World.setCell (World.setCell u5 ⟨pb, 0, none⟩ (.int .u8 s.r.a)) ⟨pb, 1, none⟩ (.int .u8 s.r.f)) ⟨pb, 2, none⟩ (.int .u8 s.r.b)) ⟨pb, 3, none⟩ (.int .u8 s.r.c)) ⟨pb, 4, none⟩ (.int .u8 s.r.d)) ⟨pb, 5, none⟩ (.int .u8 s.r.e)) ⟨pb, 6, none⟩ (.int .u8 s.r.h)) ⟨pb, 7, none⟩ (.int .u8 s.r.l)) ⟨pb, 8, none⟩ (.int .u16 s.r.sp)) ⟨pb, 9, none⟩ (.int .u16 s.r.pc)) ⟨pb, 10, none⟩ (.bool s.ime)) ⟨pb, 11, none⟩ (.bool s.soon)) ⟨pb, 12, none⟩ (.bool s.halt)) ⟨pb, 13, none⟩ (.bool s.stop)) pb #[.int .u8 s.r.a, .int .u8 s.r.f, .int .u8 s.r.b, .int .u8 s.r.c, .int .u8 s.r.d, .int .u8 s.r.e, .int .u8 s.r.h, .int .u8 s.r.l, .int .u16 s.r.sp, .int .u16 s.r.pc, .bool s.ime, .bool s.soon, .bool s.halt, .bool s.stop] from Has.put14 (s0 := ⟨⟨0, 0, 0, 0, 0, 0, 0, 0, 0, 0⟩, false, false, false, false⟩) P5.out s)
       have D6 := Lib.hid (D5.out.off o1 (fun e => DP.out e))
       have O6 := Lib.hid (O5.out.trans (o1.below (fun k hk e => by have := LP.out; have e' : k = pb := e; omega) O5.out.size))
       clear o1
       refine hK.out _ _ ?s174 (fun hNew => ?r174)
       case s174 => exact ⟨(HS.out.below O6.out).2.1, trivial⟩
       clear hK K hHeld
       have hHeld := hNew
       clear hNew
       generalize (World.setCell (World.setCell (World.setCell (World.setCell (World.setCell (World.setCell (World.setCell (World.setCell (World.setCell (World.setCell (World.setCell (World.setCell (World.setCell (World.setCell u5 ⟨pb, 0, none⟩ (.int .u8 s.r.a)) ⟨pb, 1, none⟩ (.int .u8 s.r.f)) ⟨pb, 2, none⟩ (.int .u8 s.r.b)) ⟨pb, 3, none⟩ (.int .u8 s.r.c)) ⟨pb, 4, none⟩ (.int .u8 s.r.d)) ⟨pb, 5, none⟩ (.int .u8 s.r.e)) ⟨pb, 6, none⟩ (.int .u8 s.r.h)) ⟨pb, 7, none⟩ (.int .u8 s.r.l)) ⟨pb, 8, none⟩ (.int .u16 s.r.sp)) ⟨pb, 9, none⟩ (.int .u16 s.r.pc)) ⟨pb, 10, none⟩ (.bool s.ime)) ⟨pb, 11, none⟩ (.bool s.soon)) ⟨pb, 12, none⟩ (.bool s.halt)) ⟨pb, 13, none⟩ (.bool s.stop)) = u6 at hHeld P6 D6 O6 ⊢
       refine wpAnyH_ready (rs := [12]) (by kernel_rfl) (by simp) ?_
       refine (ac rfl (fun K hK => ?_) AllReadyH.nil)
       ·skip
        have hcc := D6.out.2.1
        have hfz := D6.out.2.2
        go_simp
        clear hcc hfz
        have o1 : Off (fun k => k = db) u6 (World.setCell (World.setCell (World.setCell (World.setCell (World.setCell (World.setCell (World.setCell (World.setCell (World.setCell u6 ⟨db, 0, none⟩ (.int .i64 0)) ⟨db, 1, none⟩ (.int .i64 0)) ⟨db, 2, none⟩ (.int .u16 s.r.pc)) ⟨db, 3, none⟩ (.int .i64 0)) ⟨db, 4, none⟩ (.int .i64 0)) ⟨db, 5, none⟩ (.int .i64 0)) ⟨db, 6, none⟩ (.int .i64 0)) ⟨db, 7, none⟩ (.int .u16 0)) ⟨db, 8, none⟩ (.bool false)) := Off.put9 u6 db (⟨0, 0, s.r.pc, noOp, false⟩ : DidV)
        have D7 := Lib.hid (show Has (World.setCell (World.setCell (World.setCell (World.setCell (World.setCell (World.setCell (World.setCell (World.setCell (World.setCell u6 ⟨db, 0, none⟩ (.int .i64 0)) ⟨db, 1, none⟩ (.int .i64 0)) ⟨db, 2, none⟩ (.int .u16 s.r.pc)) ⟨db, 3, none⟩ (.int .i64 0)) ⟨db, 4, none⟩ (.int .i64 0)) ⟨db, 5, none⟩ (.int .i64 0)) ⟨db, 6, none⟩ (.int .i64 0)) ⟨db, 7, none⟩ (.int .u16 0)) ⟨db, 8, none⟩ (.bool false)) db #[.int .i64 0, .int .i64 0, .int .u16 s.r.pc, .int .i64 0, .int .i64 0, .int .i64 0, .int .i64 0, .int .u16 0, .bool false] from D6.out.put9 (⟨0, 0, s.r.pc, noOp, false⟩ : DidV))
        have P7 := Lib.hid (P6.out.off o1 (fun e => DP.out e.symm))
        have O7 := Lib.hid (O6.out.trans (o1.below (fun k hk e => by have := LD.out; have e' : k = db := e; omega) O6.out.size))
        clear o1
        refine hK.out _ _ ?s175 (fun hNew => ?r175)
        case s175 => exact ⟨(HS.out.below O7.out).2.1, trivial⟩
        clear hK K hHeld
        have hHeld := hNew
        clear hNew
        generalize (World.setCell (World.setCell (World.setCell (World.setCell (World.setCell (World.setCell (World.setCell (World.setCell (World.setCell u6 ⟨db, 0, none⟩ (.int .i64 0)) ⟨db, 1, none⟩ (.int .i64 0)) ⟨db, 2, none⟩ (.int .u16 s.r.pc)) ⟨db, 3, none⟩ (.int .i64 0)) ⟨db, 4, none⟩ (.int .i64 0)) ⟨db, 5, none⟩ (.int .i64 0)) ⟨db, 6, none⟩ (.int .i64 0)) ⟨db, 7, none⟩ (.int .u16 0)) ⟨db, 8, none⟩ (.bool false)) = u7 at hHeld P7 D7 O7 ⊢
        refine wpAnyH_done (by kernel_rfl) ?_ _
        clear hHeld
        exact HQ.out pb db _ _ _ _ _ _ _ _ _ _ ⟨O7.out, P7.out, D7.out, LP.out, LD.out, DP.out.symm⟩
    ·skip
     go_simp
     have q := own1 u3 (.cells #[.int .u8 0, .int .u8 0, .int .u8 0, .int .u8 0, .int .u8 0, .int .u8 0, .int .u8 0, .int .u8 0, .int .u16 0, .int .u16 0, .bool false, .bool false, .bool false, .bool false] 41)
     have O4 := Lib.hid (via O3.out q)
     have D4 := Lib.hid (D3.out.below q)
     have P4 := Lib.hid (Has.new u3 #[.int .u8 0, .int .u8 0, .int .u8 0, .int .u8 0, .int .u8 0, .int .u8 0, .int .u8 0, .int .u8 0, .int .u16 0, .int .u16 0, .bool false, .bool false, .bool false, .bool false] 41)
     have LP := Lib.hid O3.out.size
     have DP := Lib.hid (show db ≠ u3.heap.size by have := D3.out.1; omega)
     clear q
     refine hK.out _ _ ?s176 (fun hNew => ?r176)
     case s176 => exact ⟨(HS.out.below O4.out).2.1, trivial⟩
     clear hK K hHeld
     have hHeld := hNew
     clear hNew
     generalize u3.alloc (.cells #[.int .u8 0, .int .u8 0, .int .u8 0, .int .u8 0, .int .u8 0, .int .u8 0, .int .u8 0, .int .u8 0, .int .u16 0, .int .u16 0, .bool false, .bool false, .bool false, .bool false] 41) = u4 at hHeld O4 D4 P4 ⊢
     generalize u3.heap.size = pb at P4 LP DP ⊢
     refine wpAnyH_ready (rs := [5]) (by kernel_rfl) (by simp) ?_
     refine (ac rfl (fun K hK => ?_) AllReadyH.nil)
     ·skip
      go_simp
      with_reducible refine (Step_nt s _ _).mono ?_
      rintro e u5 ⟨rfl, q⟩
      have O5 := Lib.hid (via O4.out q)
      have P5 := Lib.hid (P4.out.below q)
      have D5 := Lib.hid (D4.out.below q)
      clear q
      refine hK.out _ _ ?s177 (fun hNew => ?r177)
      case s177 => exact ⟨(HS.out.below O5.out).2.1, trivial⟩
      clear hK K hHeld
      have hHeld := hNew
      clear hNew
      refine tk 6 rfl (v := ?v178) ?y178 ?z178
      case y178 => (intro w hSw; (try dsimp only at hSw); go_simp) <;> with_reducible rfl
      try simp only [Act.put, qqA, qqB, qqC]
      refine tk 7 rfl (v := ?v179) ?y179 ?z179
      case y179 => (intro w hSw; (try dsimp only at hSw); go_simp) <;> with_reducible rfl
      try simp only [Act.put, qqA, qqB, qqC]
      refine tk 8 rfl (v := ?v180) ?y180 ?z180
      case y180 => (intro w hSw; (try dsimp only at hSw); go_simp) <;> with_reducible rfl
      try simp only [Act.put, qqA, qqB, qqC]
      refine wpAnyH_ready (rs := [11]) (by kernel_rfl) (by simp) ?_
      refine (ac rfl (fun K hK => ?_) AllReadyH.nil)
      ·skip
       have hcc := P5.out.2.1
       have hfz := P5.out.2.2
       go_simp
       clear hcc hfz
       have o1 : Off (fun k => k = pb) u5 (World.setCell (World.setCell (World.setCell (World.setCell (World.setCell (World.setCell (World.setCell (World.setCell (World.setCell (World.setCell (World.setCell (World.setCell (World.setCell (World.setCell u5 ⟨pb, 0, none⟩ (.int .u8 s.r.a)) ⟨pb, 1, none⟩ (.int .u8 s.r.f)) ⟨pb, 2, none⟩ (.int .u8 s.r.b)) ⟨pb, 3, none⟩ (.int .u8 s.r.c)) ⟨pb, 4, none⟩ (.int .u8 s.r.d)) ⟨pb, 5, none⟩ (.int .u8 s.r.e)) ⟨pb, 6, none⟩ (.int .u8 s.r.h)) ⟨pb, 7, none⟩ (.int .u8 s.r.l)) ⟨pb, 8, none⟩ (.int .u16 s.r.sp)) ⟨pb, 9, none⟩ (.int .u16 s.r.pc)) ⟨pb, 10, none⟩ (.bool s.ime)) ⟨pb, 11, none⟩ (.bool s.soon)) ⟨pb, 12, none⟩ (.bool s.halt)) ⟨pb, 13, none⟩ (.bool s.stop)) := Off.put14 u5 pb s
       have P6 := Lib.hid (show Has (World.setCell (World.setCell (World.setCell (World.setCell (World.setCell (World.setCell (World.setCell (World.setCell (World.setCell (World.setCell (World.setCell (World.setCell (World.setCell (World.setCell u5 ⟨pb, 0, none⟩ (.int .u8 s.r.a)) ⟨pb, 1, none⟩ (.int .u8 s.r.f)) ⟨pb, 2, none⟩ (.int .u8 s.r.b)) ⟨pb, 3, none⟩ (.int .u8 s.r.c)) ⟨pb, 4, none⟩ (.int .u8 s.r.d)) ⟨pb, 5, none⟩ (.int .u8 s.r.e)) ⟨pb, 6, none⟩ (.int .u8 s.r.h)) ⟨pb, 7, none⟩ (.int .u8 s.r.l)) ⟨pb, 8, none⟩ (.int .u16 s.r.sp)) ⟨pb, 9, none⟩ (.int .u16 s.r.pc)) ⟨pb, 10, none⟩ (.bool s.ime)) ⟨pb, 11, none⟩ (.bool s.soon)) ⟨pb, 12, none⟩ (.bool s.halt)) ⟨pb, 13, none⟩ (.bool s.stop)) pb #[.int .u8 s.r.a, .int .u8 s.r.f, .int .u8 s.r.b, .int .u8 s.r.c, .int .u8 s.r.d, .int .u8 s.r.e, .int .u8 s.r.h, .int .u8 s.r.l, .int .u16 s.r.sp, .int .u16 s.r.pc, .bool s.ime, .bool s.soon, .bool s.halt, .bool s.stop] from Has.put14 (s0 := ⟨⟨0, 0, 0, 0, 0, 0, 0, 0, 0, 0⟩, false, false, false, false⟩) P5.out s)
       have D6 := Lib.hid (D5.out.off o1 (fun e => DP.out e))
       have O6 := Lib.hid (O5.out.trans (o1.below (fun k hk e => by have := LP.out; have e' : k = pb := e; omega) O5.out.size))
       clear o1
       refine hK.out _ _ ?s181 (fun hNew => ?r181)
       case s181 => exact ⟨(HS.out.below O6.out).2.1, trivial⟩
       clear hK K hHeld
       have hHeld := hNew
       clear hNew
       generalize (World.setCell (World.setCell (World.setCell (World.setCell (World.setCell (World.setCell (World.setCell (World.setCell (World.setCell (World.setCell (World.setCell (World.setCell (World.setCell (World.setCell u5 ⟨pb, 0, none⟩ (.int .u8 s.r.a)) ⟨pb, 1, none⟩ (.int .u8 s.r.f)) ⟨pb, 2, none⟩ (.int .u8 s.r.b)) ⟨pb, 3, none⟩ (.int .u8 s.r.c)) ⟨pb, 4, none⟩ (.int .u8 s.r.d)) ⟨pb, 5, none⟩ (.int .u8 s.r.e)) ⟨pb, 6, none⟩ (.int .u8 s.r.h)) ⟨pb, 7, none⟩ (.int .u8 s.r.l)) ⟨pb, 8, none⟩ (.int .u16 s.r.sp)) ⟨pb, 9, none⟩ (.int .u16 s.r.pc)) ⟨pb, 10, none⟩ (.bool s.ime)) ⟨pb, 11, none⟩ (.bool s.soon)) ⟨pb, 12, none⟩ (.bool s.halt)) ⟨pb, 13, none⟩ (.bool s.stop)) = u6 at hHeld P6 D6 O6 ⊢
       refine wpAnyH_ready (rs := [12]) (by kernel_rfl) (by simp) ?_
       refine (ac rfl (fun K hK => ?_) AllReadyH.nil)
       ·skip
        have hcc := D6.out.2.1
        have hfz := D6.out.2.2
        go_simp
        clear hcc hfz
        have o1 : Off (fun k => k = db) u6 (World.setCell (World.setCell (World.setCell (World.setCell (World.setCell (World.setCell (World.setCell (World.setCell (World.setCell u6 ⟨db, 0, none⟩ (.int .i64 0)) ⟨db, 1, none⟩ (.int .i64 0)) ⟨db, 2, none⟩ (.int .u16 s.r.pc)) ⟨db, 3, none⟩ (.int .i64 0)) ⟨db, 4, none⟩ (.int .i64 0)) ⟨db, 5, none⟩ (.int .i64 0)) ⟨db, 6, none⟩ (.int .i64 0)) ⟨db, 7, none⟩ (.int .u16 0)) ⟨db, 8, none⟩ (.bool false)) := Off.put9 u6 db (⟨0, 0, s.r.pc, noOp, false⟩ : DidV)
        have D7 := Lib.hid (show Has (World.setCell (World.setCell (World.setCell (World.setCell (World.setCell (World.setCell (World.setCell (World.setCell (World.setCell u6 ⟨db, 0, none⟩ (.int .i64 0)) ⟨db, 1, none⟩ (.int .i64 0)) ⟨db, 2, none⟩ (.int .u16 s.r.pc)) ⟨db, 3, none⟩ (.int .i64 0)) ⟨db, 4, none⟩ (.int .i64 0)) ⟨db, 5, none⟩ (.int .i64 0)) ⟨db, 6, none⟩ (.int .i64 0)) ⟨db, 7, none⟩ (.int .u16 0)) ⟨db, 8, none⟩ (.bool false)) db #[.int .i64 0, .int .i64 0, .int .u16 s.r.pc, .int .i64 0, .int .i64 0, .int .i64 0, .int .i64 0, .int .u16 0, .bool false] from D6.out.put9 (⟨0, 0, s.r.pc, noOp, false⟩ : DidV))
        have P7 := Lib.hid (P6.out.off o1 (fun e => DP.out e.symm))
        have O7 := Lib.hid (O6.out.trans (o1.below (fun k hk e => by have := LD.out; have e' : k = db := e; omega) O6.out.size))
        clear o1
        refine hK.out _ _ ?s182 (fun hNew => ?r182)
        case s182 => exact ⟨(HS.out.below O7.out).2.1, trivial⟩
        clear hK K hHeld
        have hHeld := hNew
        clear hNew
        generalize (World.setCell (World.setCell (World.setCell (World.setCell (World.setCell (World.setCell (World.setCell (World.setCell (World.setCell u6 ⟨db, 0, none⟩ (.int .i64 0)) ⟨db, 1, none⟩ (.int .i64 0)) ⟨db, 2, none⟩ (.int .u16 s.r.pc)) ⟨db, 3, none⟩ (.int .i64 0)) ⟨db, 4, none⟩ (.int .i64 0)) ⟨db, 5, none⟩ (.int .i64 0)) ⟨db, 6, none⟩ (.int .i64 0)) ⟨db, 7, none⟩ (.int .u16 0)) ⟨db, 8, none⟩ (.bool false)) = u7 at hHeld P7 D7 O7 ⊢
        refine wpAnyH_done (by kernel_rfl) ?_ _
        clear hHeld
        exact HQ.out pb db _ _ _ _ _ _ _ _ _ _ ⟨O7.out, P7.out, D7.out, LP.out, LD.out, DP.out.symm⟩
   ·skip
    go_simp
    have q := own1 u2 (.cells #[.int .u8 0, .int .u8 0, .int .u8 0, .int .u8 0, .int .u8 0, .int .u8 0, .int .u8 0, .int .u8 0, .int .u16 0, .int .u16 0, .bool false, .bool false, .bool false, .bool false] 41)
    have O3 := Lib.hid (via O2.out q)
    have D3 := Lib.hid (D2.out.below q)
    have P3 := Lib.hid (Has.new u2 #[.int .u8 0, .int .u8 0, .int .u8 0, .int .u8 0, .int .u8 0, .int .u8 0, .int .u8 0, .int .u8 0, .int .u16 0, .int .u16 0, .bool false, .bool false, .bool false, .bool false] 41)
    have LP := Lib.hid O2.out.size
    have DP := Lib.hid (show db ≠ u2.heap.size by have := D2.out.1; omega)
    clear q
    refine hK.out _ _ ?s183 (fun hNew => ?r183)
    case s183 => exact ⟨(HS.out.below O3.out).2.1, trivial⟩
    clear hK K hHeld
    have hHeld := hNew
    clear hNew
    generalize u2.alloc (.cells #[.int .u8 0, .int .u8 0, .int .u8 0, .int .u8 0, .int .u8 0, .int .u8 0, .int .u8 0, .int .u8 0, .int .u16 0, .int .u16 0, .bool false, .bool false, .bool false, .bool false] 41) = u3 at hHeld O3 D3 P3 ⊢
    generalize u2.heap.size = pb at P3 LP DP ⊢
    refine wpAnyH_ready (rs := [3]) (by kernel_rfl) (by simp) ?_
    refine (ac rfl (fun K hK => ?_) AllReadyH.nil)
    ·skip
     go_simp
     have q := own1 u3 (.cells #[.slice (some ⟨mb, 0, none⟩) 65536 65536, .slice none 0 0] 35)
     have O4 := Lib.hid (via O3.out q)
     have P4 := Lib.hid (P3.out.below q)
     have D4 := Lib.hid (D3.out.below q)
     clear q
     refine hK.out _ _ ?s184 (fun hNew => ?r184)
     case s184 => exact ⟨(HS.out.below O4.out).2.1, trivial⟩
     clear hK K hHeld
     have hHeld := hNew
     clear hNew
     generalize u3.alloc (.cells #[.slice (some ⟨mb, 0, none⟩) 65536 65536, .slice none 0 0] 35) = u4 at hHeld O4 P4 D4 ⊢
     generalize u3.heap.size = rb at ⊢
     refine tk 4 rfl (v := ?v185) ?y185 ?z185
     case y185 => (intro w hSw; (try dsimp only at hSw); go_simp) <;> with_reducible rfl
     try simp only [Act.put, qqA, qqB, qqC]
     refine wpAnyH_ready (rs := [5]) (by kernel_rfl) (by simp) ?_
     refine (ac rfl (fun K hK => ?_) AllReadyH.nil)
     ·skip
      go_simp
      with_reducible refine (Step_nt s _ _).mono ?_
      rintro e u5 ⟨rfl, q⟩
      have O5 := Lib.hid (via O4.out q)
      have P5 := Lib.hid (P4.out.below q)
      have D5 := Lib.hid (D4.out.below q)
      clear q
      refine hK.out _ _ ?s186 (fun hNew => ?r186)
      case s186 => exact ⟨(HS.out.below O5.out).2.1, trivial⟩
      clear hK K hHeld
      have hHeld := hNew
      clear hNew
      refine tk 6 rfl (v := ?v187) ?y187 ?z187
      case y187 => (intro w hSw; (try dsimp only at hSw); go_simp) <;> with_reducible rfl
      try simp only [Act.put, qqA, qqB, qqC]
      refine tk 7 rfl (v := ?v188) ?y188 ?z188
      case y188 => (intro w hSw; (try dsimp only at hSw); go_simp) <;> with_reducible rfl
      try simp only [Act.put, qqA, qqB, qqC]
      refine tk 8 rfl (v := ?v189) ?y189 ?z189
      case y189 => (intro w hSw; (try dsimp only at hSw); go_simp) <;> with_reducible rfl
      try simp only [Act.put, qqA, qqB, qqC]
      refine wpAnyH_ready (rs := [11]) (by kernel_rfl) (by simp) ?_
      refine (ac rfl (fun K hK => ?_) AllReadyH.nil)
      ·skip
       have hcc := P5.out.2.1
       have hfz := P5.out.2.2
       go_simp
       clear hcc hfz
       have o1 : Off (fun k => k = pb) u5 (World.setCell (World.setCell (World.setCell (World.setCell (World.setCell (World.setCell (World.setCell (World.setCell (World.setCell (World.setCell (World.setCell (World.setCell (World.setCell (World.setCell u5 ⟨pb, 0, none⟩ (.int .u8 s.r.a)) ⟨pb, 1, none⟩ (.int .u8 s.r.f)) ⟨pb, 2, none⟩ (.int .u8 s.r.b)) ⟨pb, 3, none⟩ (.int .u8 s.r.c)) ⟨pb, 4, none⟩ (.int .u8 s.r.d)) ⟨pb, 5, none⟩ (.int .u8 s.r.e)) ⟨pb, 6, none⟩ (.int .u8 s.r.h)) ⟨pb, 7, none⟩ (.int .u8 s.r.l)) ⟨pb, 8, none⟩ (.int .u16 s.r.sp)) ⟨pb, 9, none⟩ (.int .u16 s.r.pc)) ⟨pb, 10, none⟩ (.bool s.ime)) ⟨pb, 11, none⟩ (.bool s.soon)) ⟨pb, 12, none⟩ (.bool s.halt)) ⟨pb, 13, none⟩ (.bool s.stop)) := Off.put14 u5 pb s
       have P6 := Lib.hid (show Has (World.setCell (World.setCell (World.setCell (World.setCell (World.setCell (World.setCell (World.setCell (World.setCell (World.setCell (World.setCell (World.setCell (World.setCell (World.setCell (World.setCell u5 ⟨pb, 0, none⟩ (.int .u8 s.r.a)) ⟨pb, 1, none⟩ (.int .u8 s.r.f)) ⟨pb, 2, none⟩ (.int .u8 s.r.b)) ⟨pb, 3, none⟩ (.int .u8 s.r.c)) ⟨pb, 4, none⟩ (.int .u8 s.r.d)) ⟨pb, 5, none⟩ (.int .u8 s.r.e)) ⟨pb, 6, none⟩ (.int .u8 s.r.h)) ⟨pb, 7, none⟩ (.int .u8 s.r.l)) ⟨pb, 8, none⟩ (.int .u16 s.r.sp)) ⟨pb, 9, none⟩ (.int .u16 s.r.pc)) ⟨pb, 10, none⟩ (.bool s.ime)) ⟨pb, 11, none⟩ (.bool s.soon)) ⟨pb, 12, none⟩ (.bool s.halt)) ⟨pb, 13, none⟩ (.bool s.stop)) pb #[.int .u8 s.r.a, .int .u8 s.r.f, .int .u8 s.r.b, .int .u8 s.r.c, .int .u8 s.r.d, .int .u8 s.r.e, .int .u8 s.r.h, .int .u8 s.r.l, .int .u16 s.r.sp, .int .u16 s.r.pc, .bool s.ime, .bool s.soon, .bool s.halt, .bool s.stop] from Has.put14 (s0 := ⟨⟨0, 0, 0, 0, 0, 0, 0, 0, 0, 0⟩, false, false, false, false⟩) P5.out s)
       have D6 := Lib.hid (D5.out.off o1 (fun e => DP.out e))
       have O6 := Lib.hid (O5.out.trans (o1.below (fun k hk e => by have := LP.out; have e' : k = pb := e; omega) O5.out.size))
       clear o1
       refine hK.out _ _ ?s190 (fun hNew => ?r190)
       case s190 => exact ⟨(HS.out.below O6.out).2.1, trivial⟩
       clear hK K hHeld
       have hHeld := hNew
       clear hNew
       generalize (World.setCell (World.setCell (World.setCell (World.setCell (World.setCell (World.setCell (World.setCell (World.setCell (World.setCell (World.setCell (World.setCell (World.setCell (World.setCell (World.setCell u5 ⟨pb, 0, none⟩ (.int .u8 s.r.a)) ⟨pb, 1, none⟩ (.int .u8 s.r.f)) ⟨pb, 2, none⟩ (.int .u8 s.r.b)) ⟨pb, 3, none⟩ (.int .u8 s.r.c)) ⟨pb, 4, none⟩ (.int .u8 s.r.d)) ⟨pb, 5, none⟩ (.int .u8 s.r.e)) ⟨pb, 6, none⟩ (.int .u8 s.r.h)) ⟨pb, 7, none⟩ (.int .u8 s.r.l)) ⟨pb, 8, none⟩ (.int .u16 s.r.sp)) ⟨pb, 9, none⟩ (.int .u16 s.r.pc)) ⟨pb, 10, none⟩ (.bool s.ime)) ⟨pb, 11, none⟩ (.bool s.soon)) ⟨pb, 12, none⟩ (.bool s.halt)) ⟨pb, 13, none⟩ (.bool s.stop)) = u6 at hHeld P6 D6 O6 ⊢
       refine wpAnyH_ready (rs := [12]) (by kernel_rfl) (by simp) ?_
       refine (ac rfl (fun K hK => ?_) AllReadyH.nil)
       ·skip
        have hcc := D6.out.2.1
        have hfz := D6.out.2.2
        go_simp
        clear hcc hfz
        have o1 : Off (fun k => k = db) u6 (World.setCell (World.setCell (World.setCell (World.setCell (World.setCell (World.setCell (World.setCell (World.setCell (World.setCell u6 ⟨db, 0, none⟩ (.int .i64 0)) ⟨db, 1, none⟩ (.int .i64 0)) ⟨db, 2, none⟩ (.int .u16 s.r.pc)) ⟨db, 3, none⟩ (.int .i64 0)) ⟨db, 4, none⟩ (.int .i64 0)) ⟨db, 5, none⟩ (.int .i64 0)) ⟨db, 6, none⟩ (.int .i64 0)) ⟨db, 7, none⟩ (.int .u16 0)) ⟨db, 8, none⟩ (.bool false)) := Off.put9 u6 db (⟨0, 0, s.r.pc, noOp, false⟩ : DidV)
        have D7 := Lib.hid (show Has (World.setCell (World.setCell (World.setCell (World.setCell (World.setCell (World.setCell (World.setCell (World.setCell (World.setCell u6 ⟨db, 0, none⟩ (.int .i64 0)) ⟨db, 1, none⟩ (.int .i64 0)) ⟨db, 2, none⟩ (.int .u16 s.r.pc)) ⟨db, 3, none⟩ (.int .i64 0)) ⟨db, 4, none⟩ (.int .i64 0)) ⟨db, 5, none⟩ (.int .i64 0)) ⟨db, 6, none⟩ (.int .i64 0)) ⟨db, 7, none⟩ (.int .u16 0)) ⟨db, 8, none⟩ (.bool false)) db #[.int .i64 0, .int .i64 0, .int .u16 s.r.pc, .int .i64 0, .int .i64 0, .int .i64 0, .int .i64 0, .int .u16 0, .bool false] from D6.out.put9 (⟨0, 0, s.r.pc, noOp, false⟩ : DidV))
        have P7 := Lib.hid (P6.out.off o1 (fun e => DP.out e.symm))
        have O7 := Lib.hid (O6.out.trans (o1.below (fun k hk e => by have := LD.out; have e' : k = db := e; omega) O6.out.size))
        clear o1
        refine hK.out _ _ ?s191 (fun hNew => ?r191)
        case s191 => exact ⟨(HS.out.below O7.out).2.1, trivial⟩
        clear hK K hHeld
        have hHeld := hNew
        clear hNew
        generalize (World.setCell (World.setCell (World.setCell (World.setCell (World.setCell (World.setCell (World.setCell (World.setCell (World.setCell u6 ⟨db, 0, none⟩ (.int .i64 0)) ⟨db, 1, none⟩ (.int .i64 0)) ⟨db, 2, none⟩ (.int .u16 s.r.pc)) ⟨db, 3, none⟩ (.int .i64 0)) ⟨db, 4, none⟩ (.int .i64 0)) ⟨db, 5, none⟩ (.int .i64 0)) ⟨db, 6, none⟩ (.int .i64 0)) ⟨db, 7, none⟩ (.int .u16 0)) ⟨db, 8, none⟩ (.bool false)) = u7 at hHeld P7 D7 O7 ⊢
        refine wpAnyH_done (by kernel_rfl) ?_ _
        clear hHeld
        exact HQ.out pb db _ _ _ _ _ _ _ _ _ _ ⟨O7.out, P7.out, D7.out, LP.out, LD.out, DP.out.symm⟩
 ·skip
  go_simp
  have q := own1 u0 (.cells #[.int .u8 0, .int .u8 0, .int .u8 0, .int .u8 0, .int .u8 0, .int .u8 0, .int .u8 0, .int .u8 0, .int .u16 0, .int .u16 0, .bool false, .bool false, .bool false, .bool false] 41)
  have O1 := Lib.hid (via O0.out q)
  have P1 := Lib.hid (Has.new u0 #[.int .u8 0, .int .u8 0, .int .u8 0, .int .u8 0, .int .u8 0, .int .u8 0, .int .u8 0, .int .u8 0, .int .u16 0, .int .u16 0, .bool false, .bool false, .bool false, .bool false] 41)
  have LP := Lib.hid O0.out.size
  clear q
  refine hK.out _ _ ?s192 (fun hNew => ?r192)
  case s192 => exact ⟨(HS.out.below O1.out).2.1, trivial⟩
  clear hK K hHeld
  have hHeld := hNew
  clear hNew
  generalize u0.alloc (.cells #[.int .u8 0, .int .u8 0, .int .u8 0, .int .u8 0, .int .u8 0, .int .u8 0, .int .u8 0, .int .u8 0, .int .u16 0, .int .u16 0, .bool false, .bool false, .bool false, .bool false] 41) = u1 at hHeld O1 P1 ⊢
  generalize u0.heap.size = pb at P1 LP ⊢
  refine wpAnyH_ready (rs := [1, 10]) (by kernel_rfl) (by simp) ?_
  refine (ac rfl (fun K hK => ?_) (ac rfl (fun K hK => ?_) AllReadyH.nil))
  ·skip
   have hmk := mk_run
   go_simp
   clear hmk
   have q := own1 u1 (.cells zeroM 5)
   have O2 := Lib.hid (via O1.out q)
   have P2 := Lib.hid (P1.out.below q)
   clear q
   refine hK.out _ _ ?s193 (fun hNew => ?r193)
   case s193 => exact ⟨(HS.out.below O2.out).2.1, trivial⟩
   clear hK K hHeld
   have hHeld := hNew
   clear hNew
   generalize u1.alloc (.cells zeroM 5) = u2 at hHeld O2 P2 ⊢
   generalize u1.heap.size = mb at ⊢
   refine tk 2 rfl (v := ?v194) ?y194 ?z194
   case y194 => (intro w hSw; (try dsimp only at hSw); go_simp) <;> with_reducible rfl
   try simp only [Act.put, qqA, qqB, qqC]
   refine wpAnyH_ready (rs := [3, 10]) (by kernel_rfl) (by simp) ?_
   refine (ac rfl (fun K hK => ?_) (ac rfl (fun K hK => ?_) AllReadyH.nil))
   ·skip
    go_simp
    have q := own1 u2 (.cells #[.slice (some ⟨mb, 0, none⟩) 65536 65536, .slice none 0 0] 35)
    have O3 := Lib.hid (via O2.out q)
    have P3 := Lib.hid (P2.out.below q)
    clear q
    refine hK.out _ _ ?s195 (fun hNew => ?r195)
    case s195 => exact ⟨(HS.out.below O3.out).2.1, trivial⟩
    clear hK K hHeld
    have hHeld := hNew
    clear hNew
    generalize u2.alloc (.cells #[.slice (some ⟨mb, 0, none⟩) 65536 65536, .slice none 0 0] 35) = u3 at hHeld O3 P3 ⊢
    generalize u2.heap.size = rb at ⊢
    refine tk 4 rfl (v := ?v196) ?y196 ?z196
    case y196 => (intro w hSw; (try dsimp only at hSw); go_simp) <;> with_reducible rfl
    try simp only [Act.put, qqA, qqB, qqC]
    refine wpAnyH_ready (rs := [5, 10]) (by kernel_rfl) (by simp) ?_
    refine (ac rfl (fun K hK => ?_) (ac rfl (fun K hK => ?_) AllReadyH.nil))
    ·skip
     go_simp
     with_reducible refine (Step_nt s _ _).mono ?_
     rintro e u4 ⟨rfl, q⟩
     have O4 := Lib.hid (via O3.out q)
     have P4 := Lib.hid (P3.out.below q)
     clear q
     refine hK.out _ _ ?s197 (fun hNew => ?r197)
     case s197 => exact ⟨(HS.out.below O4.out).2.1, trivial⟩
     clear hK K hHeld
     have hHeld := hNew
     clear hNew
     refine tk 6 rfl (v := ?v198) ?y198 ?z198
     case y198 => (intro w hSw; (try dsimp only at hSw); go_simp) <;> with_reducible rfl
     try simp only [Act.put, qqA, qqB, qqC]
     refine tk 7 rfl (v := ?v199) ?y199 ?z199
     case y199 => (intro w hSw; (try dsimp only at hSw); go_simp) <;> with_reducible rfl
     try simp only [Act.put, qqA, qqB, qqC]
     refine tk 8 rfl (v := ?v200) ?y200 ?z200
     case y200 => (intro w hSw; (try dsimp only at hSw); go_simp) <;> with_reducible rfl
     try simp only [Act.put, qqA, qqB, qqC]
     refine wpAnyH_ready (rs := [10]) (by kernel_rfl) (by simp) ?_
     refine (ac rfl (fun K hK => ?_) AllReadyH.nil)
     ·skip
      go_simp
      have q := own1 u4 (.cells #[.int .i64 0, .int .i64 0, .int .u16 0, .int .i64 0, .int .i64 0, .int .i64 0, .int .i64 0, .int .u16 0, .bool false] 46)
      have O5 := Lib.hid (via O4.out q)
      have P5 := Lib.hid (P4.out.below q)
      have D5 := Lib.hid (Has.new u4 #[.int .i64 0, .int .i64 0, .int .u16 0, .int .i64 0, .int .i64 0, .int .i64 0, .int .i64 0, .int .u16 0, .bool false] 46)
      have LD := Lib.hid O4.out.size
      have DP := Lib.hid (show pb ≠ u4.heap.size by have := P4.out.1; omega)
      clear q
      refine hK.out _ _ ?s201 (fun hNew => ?r201)
      case s201 => exact ⟨(HS.out.below O5.out).2.1, trivial⟩
      clear hK K hHeld
      have hHeld := hNew
      clear hNew
      generalize u4.alloc (.cells #[.int .i64 0, .int .i64 0, .int .u16 0, .int .i64 0, .int .i64 0, .int .i64 0, .int .i64 0, .int .u16 0, .bool false] 46) = u5 at hHeld O5 P5 D5 ⊢
      generalize u4.heap.size = db at D5 LD DP ⊢
      refine wpAnyH_ready (rs := [11]) (by kernel_rfl) (by simp) ?_
      refine (ac rfl (fun K hK => ?_) AllReadyH.nil)
      ·skip
       have hcc := P5.out.2.1
       have hfz := P5.out.2.2
       go_simp
       clear hcc hfz
       have o1 : Off (fun k => k = pb) u5 (World.setCell (World.setCell (World.setCell (World.setCell (World.setCell (World.setCell (World.setCell (World.setCell (World.setCell (World.setCell (World.setCell (World.setCell (World.setCell (World.setCell u5 ⟨pb, 0, none⟩ (.int .u8 s.r.a)) ⟨pb, 1, none⟩ (.int .u8 s.r.f)) ⟨pb, 2, none⟩ (.int .u8 s.r.b)) ⟨pb, 3, none⟩ (.int .u8 s.r.c)) ⟨pb, 4, none⟩ (.int .u8 s.r.d)) ⟨pb, 5, none⟩ (.int .u8 s.r.e)) ⟨pb, 6, none⟩ (.int .u8 s.r.h)) ⟨pb, 7, none⟩ (.int .u8 s.r.l)) ⟨pb, 8, none⟩ (.int .u16 s.r.sp)) ⟨pb, 9, none⟩ (.int .u16 s.r.pc)) ⟨pb, 10, none⟩ (.bool s.ime)) ⟨pb, 11, none⟩ (.bool s.soon)) ⟨pb, 12, none⟩ (.bool s.halt)) ⟨pb, 13, none⟩ (.bool s.stop)) := Off.put14 u5 pb s
       have P6 := Lib.hid (show Has (World.setCell (World.setCell (World.setCell (World.setCell (World.setCell (World.setCell (World.setCell (World.setCell (World.setCell (World.setCell (World.setCell (World.setCell (World.setCell (World.setCell u5 ⟨pb, 0, none⟩ (.int .u8 s.r.a)) ⟨pb, 1, none⟩ (.int .u8 s.r.f)) ⟨pb, 2, none⟩ (.int .u8 s.r.b)) ⟨pb, 3, none⟩ (.int .u8 s.r.c)) ⟨pb, 4, none⟩ (.int .u8 s.r.d)) ⟨pb, 5, none⟩ (.int .u8 s.r.e)) ⟨pb, 6, none⟩ (.int .u8 s.r.h)) ⟨pb, 7, none⟩ (.int .u8 s.r.l)) ⟨pb, 8, none⟩ (.int .u16 s.r.sp)) ⟨pb, 9, none⟩ (.int .u16 s.r.pc)) ⟨pb, 10, none⟩ (.bool s.ime)) ⟨pb, 11, none⟩ (.bool s.soon)) ⟨pb, 12, none⟩ (.bool s.halt)) ⟨pb, 13, none⟩ (.bool s.stop)) pb #[.int .u8 s.r.a, .int .u8 s.r.f, .int .u8 s.r.b, .int .u8 s.r.c, .int .u8 s.r.d, .int .u8 s.r.e, .int .u8 s.r.h, .int .u8 s.r.l, .int .u16 s.r.sp, .int .u16 s.r.pc, .bool s.ime, .bool s.soon, .bool s.halt, .bool s.stop] from Has.put14 (s0 := ⟨⟨0, 0, 0, 0, 0, 0, 0, 0, 0, 0⟩, false, false, false, false⟩) P5.out s)
       have D6 := Lib.hid (D5.out.off o1 (fun e => DP.out e.symm))
       have O6 := Lib.hid (O5.out.trans (o1.below (fun k hk e => by have := LP.out; have e' : k = pb := e; omega) O5.out.size))
       clear o1
       refine hK.out _ _ ?s202 (fun hNew => ?r202)
       case s202 => exact ⟨(HS.out.below O6.out).2.1, trivial⟩
       clear hK K hHeld
       have hHeld := hNew
       clear hNew
       generalize (World.setCell (World.setCell (World.setCell (World.setCell (World.setCell (World.setCell (World.setCell (World.setCell (World.setCell (World.setCell (World.setCell (World.setCell (World.setCell (World.setCell u5 ⟨pb, 0, none⟩ (.int .u8 s.r.a)) ⟨pb, 1, none⟩ (.int .u8 s.r.f)) ⟨pb, 2, none⟩ (.int .u8 s.r.b)) ⟨pb, 3, none⟩ (.int .u8 s.r.c)) ⟨pb, 4, none⟩ (.int .u8 s.r.d)) ⟨pb, 5, none⟩ (.int .u8 s.r.e)) ⟨pb, 6, none⟩ (.int .u8 s.r.h)) ⟨pb, 7, none⟩ (.int .u8 s.r.l)) ⟨pb, 8, none⟩ (.int .u16 s.r.sp)) ⟨pb, 9, none⟩ (.int .u16 s.r.pc)) ⟨pb, 10, none⟩ (.bool s.ime)) ⟨pb, 11, none⟩ (.bool s.soon)) ⟨pb, 12, none⟩ (.bool s.halt)) ⟨pb, 13, none⟩ (.bool s.stop)) = u6 at hHeld P6 D6 O6 ⊢
       refine wpAnyH_ready (rs := [12]) (by kernel_rfl) (by simp) ?_
       refine (ac rfl (fun K hK => ?_) AllReadyH.nil)
       ·skip
        have hcc := D6.out.2.1
        have hfz := D6.out.2.2
        go_simp
        clear hcc hfz
        have o1 : Off (fun k => k = db) u6 (World.setCell (World.setCell (World.setCell (World.setCell (World.setCell (World.setCell (World.setCell (World.setCell (World.setCell u6 ⟨db, 0, none⟩ (.int .i64 0)) ⟨db, 1, none⟩ (.int .i64 0)) ⟨db, 2, none⟩ (.int .u16 s.r.pc)) ⟨db, 3, none⟩ (.int .i64 0)) ⟨db, 4, none⟩ (.int .i64 0)) ⟨db, 5, none⟩ (.int .i64 0)) ⟨db, 6, none⟩ (.int .i64 0)) ⟨db, 7, none⟩ (.int .u16 0)) ⟨db, 8, none⟩ (.bool false)) := Off.put9 u6 db (⟨0, 0, s.r.pc, noOp, false⟩ : DidV)
        have D7 := Lib.hid (show Has (World.setCell (World.setCell (World.setCell (World.setCell (World.setCell (World.setCell (World.setCell (World.setCell (World.setCell u6 ⟨db, 0, none⟩ (.int .i64 0)) ⟨db, 1, none⟩ (.int .i64 0)) ⟨db, 2, none⟩ (.int .u16 s.r.pc)) ⟨db, 3, none⟩ (.int .i64 0)) ⟨db, 4, none⟩ (.int .i64 0)) ⟨db, 5, none⟩ (.int .i64 0)) ⟨db, 6, none⟩ (.int .i64 0)) ⟨db, 7, none⟩ (.int .u16 0)) ⟨db, 8, none⟩ (.bool false)) db #[.int .i64 0, .int .i64 0, .int .u16 s.r.pc, .int .i64 0, .int .i64 0, .int .i64 0, .int .i64 0, .int .u16 0, .bool false] from D6.out.put9 (⟨0, 0, s.r.pc, noOp, false⟩ : DidV))
        have P7 := Lib.hid (P6.out.off o1 (fun e => DP.out e))
        have O7 := Lib.hid (O6.out.trans (o1.below (fun k hk e => by have := LD.out; have e' : k = db := e; omega) O6.out.size))
        clear o1
        refine hK.out _ _ ?s203 (fun hNew => ?r203)
        case s203 => exact ⟨(HS.out.below O7.out).2.1, trivial⟩
        clear hK K hHeld
        have hHeld := hNew
        clear hNew
        generalize (World.setCell (World.setCell (World.setCell (World.setCell (World.setCell (World.setCell (World.setCell (World.setCell (World.setCell u6 ⟨db, 0, none⟩ (.int .i64 0)) ⟨db, 1, none⟩ (.int .i64 0)) ⟨db, 2, none⟩ (.int .u16 s.r.pc)) ⟨db, 3, none⟩ (.int .i64 0)) ⟨db, 4, none⟩ (.int .i64 0)) ⟨db, 5, none⟩ (.int .i64 0)) ⟨db, 6, none⟩ (.int .i64 0)) ⟨db, 7, none⟩ (.int .u16 0)) ⟨db, 8, none⟩ (.bool false)) = u7 at hHeld P7 D7 O7 ⊢
        refine wpAnyH_done (by kernel_rfl) ?_ _
        clear hHeld
        exact HQ.out pb db _ _ _ _ _ _ _ _ _ _ ⟨O7.out, P7.out, D7.out, LP.out, LD.out, DP.out⟩
    ·skip
     go_simp
     have q := own1 u3 (.cells #[.int .i64 0, .int .i64 0, .int .u16 0, .int .i64 0, .int .i64 0, .int .i64 0, .int .i64 0, .int .u16 0, .bool false] 46)
     have O4 := Lib.hid (via O3.out q)
     have P4 := Lib.hid (P3.out.below q)
     have D4 := Lib.hid (Has.new u3 #[.int .i64 0, .int .i64 0, .int .u16 0, .int .i64 0, .int .i64 0, .int .i64 0, .int .i64 0, .int .u16 0, .bool false] 46)
     have LD := Lib.hid O3.out.size
     have DP := Lib.hid (show pb ≠ u3.heap.size by have := P3.out.1; omega)
     clear q
     refine hK.out _ _ ?s204 (fun hNew => ?r204)
     case s204 => exact ⟨(HS.out.below O4.out).2.1, trivial⟩
     clear hK K hHeld
     have hHeld := hNew
     clear hNew
     generalize u3.alloc (.cells #[.int .i64 0, .int .i64 0, .int .u16 0, .int .i64 0, .int .i64 0, .int .i64 0, .int .i64 0, .int .u16 0, .bool false] 46) = u4 at hHeld O4 P4 D4 ⊢
     generalize u3.heap.size = db at D4 LD DP ⊢
     refine wpAnyH_ready (rs := [5]) (by kernel_rfl) (by simp) ?_
     refine (ac rfl (fun K hK => ?_) AllReadyH.nil)
     ·skip
      go_simp
      with_reducible refine (Step_nt s _ _).mono ?_
      rintro e u5 ⟨rfl, q⟩
      have O5 := Lib.hid (via O4.out q)
      have P5 := Lib.hid (P4.out.below q)
      have D5 := Lib.hid (D4.out.below q)
      clear q
      refine hK.out _ _ ?s205 (fun hNew => ?r205)
      case s205 => exact ⟨(HS.out.below O5.out).2.1, trivial⟩
      clear hK K hHeld
      have hHeld := hNew
      clear hNew
      refine tk 6 rfl (v := ?v206) ?y206 ?z206
      case y206 => (intro w hSw; (try dsimp only at hSw); go_simp) <;> with_reducible rfl
      try simp only [Act.put, qqA, qqB, qqC]
      refine tk 7 rfl (v := ?v207) ?y207 ?z207
      case y207 => (intro w hSw; (try dsimp only at hSw); go_simp) <;> with_reducible rfl
      try simp only [Act.put, qqA, qqB, qqC]
      refine tk 8 rfl (v := ?v208) ?y208 ?z208
      case y208 => (intro w hSw; (try dsimp only at hSw); go_simp) <;> with_reducible rfl
      try simp only [Act.put, qqA, qqB, qqC]
      refine wpAnyH_ready (rs := [11]) (by kernel_rfl) (by simp) ?_
      refine (ac rfl (fun K hK => ?_) AllReadyH.nil)
      ·skip
       have hcc := P5.out.2.1
       have hfz := P5.out.2.2
       go_simp
       clear hcc hfz
       have o1 : Off (fun k => k = pb) u5 (World.setCell (World.setCell (World.setCell (World.setCell (World.setCell (World.setCell (World.setCell (World.setCell (World.setCell (World.setCell (World.setCell (World.setCell (World.setCell (World.setCell u5 ⟨pb, 0, none⟩ (.int .u8 s.r.a)) ⟨pb, 1, none⟩ (.int .u8 s.r.f)) ⟨pb, 2, none⟩ (.int .u8 s.r.b)) ⟨pb, 3, none⟩ (.int .u8 s.r.c)) ⟨pb, 4, none⟩ (.int .u8 s.r.d)) ⟨pb, 5, none⟩ (.int .u8 s.r.e)) ⟨pb, 6, none⟩ (.int .u8 s.r.h)) ⟨pb, 7, none⟩ (.int .u8 s.r.l)) ⟨pb, 8, none⟩ (.int .u16 s.r.sp)) ⟨pb, 9, none⟩ (.int .u16 s.r.pc)) ⟨pb, 10, none⟩ (.bool s.ime)) ⟨pb, 11, none⟩ (.bool s.soon)) ⟨pb, 12, none⟩ (.bool s.halt)) ⟨pb, 13, none⟩ (.bool s.stop)) := Off.put14 u5 pb s
       have P6 := Lib.hid (show Has (World.setCell (World.setCell (World.setCell (World.setCell (World.setCell (World.setCell (World.setCell (World.setCell (World.setCell (World.setCell (World.setCell (World.setCell (World.setCell (World.setCell u5 ⟨pb, 0, none⟩ (.int .u8 s.r.a)) ⟨pb, 1, none⟩ (.int .u8 s.r.f)) ⟨pb, 2, none⟩ (.int .u8 s.r.b)) ⟨pb, 3, none⟩ (.int .u8 s.r.c)) ⟨pb, 4, none⟩ (.int .u8 s.r.d)) ⟨pb, 5, none⟩ (.int .u8 s.r.e)) ⟨pb, 6, none⟩ (.int .u8 s.r.h)) ⟨pb, 7, none⟩ (.int .u8 s.r.l)) ⟨pb, 8, none⟩ (.int .u16 s.r.sp)) ⟨pb, 9, none⟩ (.int .u16 s.r.pc)) ⟨pb, 10, none⟩ (.bool s.ime)) ⟨pb, 11, none⟩ (.bool s.soon)) ⟨pb, 12, none⟩ (.bool s.halt)) ⟨pb, 13, none⟩ (.bool s.stop)) pb #[.int .u8 s.r.a, .int .u8 s.r.f, .int .u8 s.r.b, .int .u8 s.r.c, .int .u8 s.r.d, .int .u8 s.r.e, .int .u8 s.r.h, .int .u8 s.r.l, .int .u16 s.r.sp, .int .u16 s.r.pc, .bool s.ime, .bool s.soon, .bool s.halt, .bool s.stop] from Has.put14 (s0 := ⟨⟨0, 0, 0, 0, 0, 0, 0, 0, 0, 0⟩, false, false, false, false⟩) P5.out s)
       have D6 := Lib.hid (D5.out.off o1 (fun e => DP.out e.symm))
       have O6 := Lib.hid (O5.out.trans (o1.below (fun k hk e => by have := LP.out; have e' : k = pb := e; omega) O5.out.size))
       clear o1
       refine hK.out _ _ ?s209 (fun hNew => ?r209)
       case s209 => exact ⟨(HS.out.below O6.out).2.1, trivial⟩
       clear hK K hHeld
       have hHeld := hNew
       clear hNew
       generalize (World.setCell (World.setCell (World.setCell (World.setCell (World.setCell (World.setCell (World.setCell (World.setCell (World.setCell (World.setCell (World.setCell (World.setCell (World.setCell (World.setCell u5 ⟨pb, 0, none⟩ (.int .u8 s.r.a)) ⟨pb, 1, none⟩ (.int .u8 s.r.f)) ⟨pb, 2, none⟩ (.int .u8 s.r.b)) ⟨pb, 3, none⟩ (.int .u8 s.r.c)) ⟨pb, 4, none⟩ (.int .u8 s.r.d)) ⟨pb, 5, none⟩ (.int .u8 s.r.e)) ⟨pb, 6, none⟩ (.int .u8 s.r.h)) ⟨pb, 7, none⟩ (.int .u8 s.r.l)) ⟨pb, 8, none⟩ (.int .u16 s.r.sp)) ⟨pb, 9, none⟩ (.int .u16 s.r.pc)) ⟨pb, 10, none⟩ (.bool s.ime)) ⟨pb, 11, none⟩ (.bool s.soon)) ⟨pb, 12, none⟩ (.bool s.halt)) ⟨pb, 13, none⟩ (.bool s.stop)) = u6 at hHeld P6 D6 O6 ⊢
       refine wpAnyH_ready (rs := [12]) (by kernel_rfl) (by simp) ?_
       refine (ac rfl (fun K hK => ?_) AllReadyH.nil)
       ·skip
        have hcc := D6.out.2.1
        have hfz := D6.out.2.2
        go_simp
        clear hcc hfz
        have o1 : Off (fun k => k = db) u6 (World.setCell (World.setCell (World.setCell (World.setCell (World.setCell (World.setCell (World.setCell (World.setCell (World.setCell u6 ⟨db, 0, none⟩ (.int .i64 0)) ⟨db, 1, none⟩ (.int .i64 0)) ⟨db, 2, none⟩ (.int .u16 s.r.pc)) ⟨db, 3, none⟩ (.int .i64 0)) ⟨db, 4, none⟩ (.int .i64 0)) ⟨db, 5, none⟩ (.int .i64 0)) ⟨db, 6, none⟩ (.int .i64 0)) ⟨db, 7, none⟩ (.int .u16 0)) ⟨db, 8, none⟩ (.bool false)) := Off.put9 u6 db (⟨0, 0, s.r.pc, noOp, false⟩ : DidV)
        have D7 := Lib.hid (show Has (World.setCell (World.setCell (World.setCell (World.setCell (World.setCell (World.setCell (World.setCell (World.setCell (World.setCell u6 ⟨db, 0, none⟩ (.int .i64 0)) ⟨db, 1, none⟩ (.int .i64 0)) ⟨db, 2, none⟩ (.int .u16 s.r.pc)) ⟨db, 3, none⟩ (.int .i64 0)) ⟨db, 4, none⟩ (.int .i64 0)) ⟨db, 5, none⟩ (.int .i64 0)) ⟨db, 6, none⟩ (.int .i64 0)) ⟨db, 7, none⟩ (.int .u16 0)) ⟨db, 8, none⟩ (.bool false)) db #[.int .i64 0, .int .i64 0, .int .u16 s.r.pc, .int .i64 0, .int .i64 0, .int .i64 0, .int .i64 0, .int .u16 0, .bool false] from D6.out.put9 (⟨0, 0, s.r.pc, noOp, false⟩ : DidV))
        have P7 := Lib.hid (P6.out.off o1 (fun e => DP.out e))
        have O7 := Lib.hid (O6.out.trans (o1.below (fun k hk e => by have := LD.out; have e' : k = db := e; omega) O6.out.size))
        clear o1
        refine hK.out _ _ ?s210 (fun hNew => ?r210)
        case s210 => exact ⟨(HS.out.below O7.out).2.1, trivial⟩
        clear hK K hHeld
        have hHeld := hNew
        clear hNew
        generalize (World.setCell (World.setCell (World.setCell (World.setCell (World.setCell (World.setCell (World.setCell (World.setCell (World.setCell u6 ⟨db, 0, none⟩ (.int .i64 0)) ⟨db, 1, none⟩ (.int .i64 0)) ⟨db, 2, none⟩ (.int .u16 s.r.pc)) ⟨db, 3, none⟩ (.int .i64 0)) ⟨db, 4, none⟩ (.int .i64 0)) ⟨db, 5, none⟩ (.int .i64 0)) ⟨db, 6, none⟩ (.int .i64 0)) ⟨db, 7, none⟩ (.int .u16 0)) ⟨db, 8, none⟩ (.bool false)) = u7 at hHeld P7 D7 O7 ⊢
        refine wpAnyH_done (by kernel_rfl) ?_ _
        clear hHeld
        exact HQ.out pb db _ _ _ _ _ _ _ _ _ _ ⟨O7.out, P7.out, D7.out, LP.out, LD.out, DP.out⟩
   ·skip
    go_simp
    have q := own1 u2 (.cells #[.int .i64 0, .int .i64 0, .int .u16 0, .int .i64 0, .int .i64 0, .int .i64 0, .int .i64 0, .int .u16 0, .bool false] 46)
    have O3 := Lib.hid (via O2.out q)
    have P3 := Lib.hid (P2.out.below q)
    have D3 := Lib.hid (Has.new u2 #[.int .i64 0, .int .i64 0, .int .u16 0, .int .i64 0, .int .i64 0, .int .i64 0, .int .i64 0, .int .u16 0, .bool false] 46)
    have LD := Lib.hid O2.out.size
    have DP := Lib.hid (show pb ≠ u2.heap.size by have := P2.out.1; omega)
    clear q
    refine hK.out _ _ ?s211 (fun hNew => ?r211)
    case s211 => exact ⟨(HS.out.below O3.out).2.1, trivial⟩
    clear hK K hHeld
    have hHeld := hNew
    clear hNew
    generalize u2.alloc (.cells #[.int .i64 0, .int .i64 0, .int .u16 0, .int .i64 0, .int .i64 0, .int .i64 0, .int .i64 0, .int .u16 0, .bool false] 46) = u3 at hHeld O3 P3 D3 ⊢
    generalize u2.heap.size = db at D3 LD DP ⊢
    refine wpAnyH_ready (rs := [3]) (by kernel_rfl) (by simp) ?_
    refine (ac rfl (fun K hK => ?_) AllReadyH.nil)
    ·skip
     go_simp
     have q := own1 u3 (.cells #[.slice (some ⟨mb, 0, none⟩) 65536 65536, .slice none 0 0] 35)
     have O4 := Lib.hid (via O3.out q)
     have P4 := Lib.hid (P3.out.below q)
     have D4 := Lib.hid (D3.out.below q)
     clear q
     refine hK.out _ _ ?s212 (fun hNew => ?r212)
     case s212 => exact ⟨(HS.out.below O4.out).2.1, trivial⟩
     clear hK K hHeld
     have hHeld := hNew
     clear hNew
     generalize u3.alloc (.cells #[.slice (some ⟨mb, 0, none⟩) 65536 65536, .slice none 0 0] 35) = u4 at hHeld O4 P4 D4 ⊢
     generalize u3.heap.size = rb at ⊢
     refine tk 4 rfl (v := ?v213) ?y213 ?z213
     case y213 => (intro w hSw; (try dsimp only at hSw); go_simp) <;> with_reducible rfl
     try simp only [Act.put, qqA, qqB, qqC]
     refine wpAnyH_ready (rs := [5]) (by kernel_rfl) (by simp) ?_
     refine (ac rfl (fun K hK => ?_) AllReadyH.nil)
     ·skip
      go_simp
      with_reducible refine (Step_nt s _ _).mono ?_
      rintro e u5 ⟨rfl, q⟩
      have O5 := Lib.hid (via O4.out q)
      have P5 := Lib.hid (P4.out.below q)
      have D5 := Lib.hid (D4.out.below q)
      clear q
      refine hK.out _ _ ?s214 (fun hNew => ?r214)
      case s214 => exact ⟨(HS.out.below O5.out).2.1, trivial⟩
      clear hK K hHeld
      have hHeld := hNew
      clear hNew
      refine tk 6 rfl (v := ?v215) ?y215 ?z215
      case y215 => (intro w hSw; (try dsimp only at hSw); go_simp) <;> with_reducible rfl
      try simp only [Act.put, qqA, qqB, qqC]
      refine tk 7 rfl (v := ?v216) ?y216 ?z216
      case y216 => (intro w hSw; (try dsimp only at hSw); go_simp) <;> with_reducible rfl
      try simp only [Act.put, qqA, qqB, qqC]
      refine tk 8 rfl (v := ?v217) ?y217 ?z217
      case y217 => (intro w hSw; (try dsimp only at hSw); go_simp) <;> with_reducible rfl
      try simp only [Act.put, qqA, qqB, qqC]
      refine wpAnyH_ready (rs := [11]) (by kernel_rfl) (by simp) ?_
      refine (ac rfl (fun K hK => ?_) AllReadyH.nil)
      ·skip
       have hcc := P5.out.2.1
       have hfz := P5.out.2.2
       go_simp
       clear hcc hfz
       have o1 : Off (fun k => k = pb) u5 (World.setCell (World.setCell (World.setCell (World.setCell (World.setCell (World.setCell (World.setCell (World.setCell (World.setCell (World.setCell (World.setCell (World.setCell (World.setCell (World.setCell u5 ⟨pb, 0, none⟩ (.int .u8 s.r.a)) ⟨pb, 1, none⟩ (.int .u8 s.r.f)) ⟨pb, 2, none⟩ (.int .u8 s.r.b)) ⟨pb, 3, none⟩ (.int .u8 s.r.c)) ⟨pb, 4, none⟩ (.int .u8 s.r.d)) ⟨pb, 5, none⟩ (.int .u8 s.r.e)) ⟨pb, 6, none⟩ (.int .u8 s.r.h)) ⟨pb, 7, none⟩ (.int .u8 s.r.l)) ⟨pb, 8, none⟩ (.int .u16 s.r.sp)) ⟨pb, 9, none⟩ (.int .u16 s.r.pc)) ⟨pb, 10, none⟩ (.bool s.ime)) ⟨pb, 11, none⟩ (.bool s.soon)) ⟨pb, 12, none⟩ (.bool s.halt)) ⟨pb, 13, none⟩ (.bool s.stop)) := Off.put14 u5 pb s
       have P6 := Lib.hid (show Has (World.setCell (World.setCell (World.setCell (World.setCell (World.setCell (World.setCell (World.setCell (World.setCell (World.setCell (World.setCell (World.setCell (World.setCell (World.setCell (World.setCell u5 ⟨pb, 0, none⟩ (.int .u8 s.r.a)) ⟨pb, 1, none⟩ (.int .u8 s.r.f)) ⟨pb, 2, none⟩ (.int .u8 s.r.b)) ⟨pb, 3, none⟩ (.int .u8 s.r.c)) ⟨pb, 4, none⟩ (.int .u8 s.r.d)) ⟨pb, 5, none⟩ (.int .u8 s.r.e)) ⟨pb, 6, none⟩ (.int .u8 s.r.h)) ⟨pb, 7, none⟩ (.int .u8 s.r.l)) ⟨pb, 8, none⟩ (.int .u16 s.r.sp)) ⟨pb, 9, none⟩ (.int .u16 s.r.pc)) ⟨pb, 10, none⟩ (.bool s.ime)) ⟨pb, 11, none⟩ (.bool s.soon)) ⟨pb, 12, none⟩ (.bool s.halt)) ⟨pb, 13, none⟩ (.bool s.stop)) pb #[.int .u8 s.r.a, .int .u8 s.r.f, .int .u8 s.r.b, .int .u8 s.r.c, .int .u8 s.r.d, .int .u8 s.r.e, .int .u8 s.r.h, .int .u8 s.r.l, .int .u16 s.r.sp, .int .u16 s.r.pc, .bool s.ime, .bool s.soon, .bool s.halt, .bool s.stop] from Has.put14 (s0 := ⟨⟨0, 0, 0, 0, 0, 0, 0, 0, 0, 0⟩, false, false, false, false⟩) P5.out s)
       have D6 := Lib.hid (D5.out.off o1 (fun e => DP.out e.symm))
       have O6 := Lib.hid (O5.out.trans (o1.below (fun k hk e => by have := LP.out; have e' : k = pb := e; omega) O5.out.size))
       clear o1
       refine hK.out _ _ ?s218 (fun hNew => ?r218)
       case s218 => exact ⟨(HS.out.below O6.out).2.1, trivial⟩
       clear hK K hHeld
       have hHeld := hNew
       clear hNew
       generalize (World.setCell (World.setCell (World.setCell (World.setCell (World.setCell (World.setCell (World.setCell (World.setCell (World.setCell (World.setCell (World.setCell (World.setCell (World.setCell (World.setCell u5 ⟨pb, 0, none⟩ (.int .u8 s.r.a)) ⟨pb, 1, none⟩ (.int .u8 s.r.f)) ⟨pb, 2, none⟩ (.int .u8 s.r.b)) ⟨pb, 3, none⟩ (.int .u8 s.r.c)) ⟨pb, 4, none⟩ (.int .u8 s.r.d)) ⟨pb, 5, none⟩ (.int .u8 s.r.e)) ⟨pb, 6, none⟩ (.int .u8 s.r.h)) ⟨pb, 7, none⟩ (.int .u8 s.r.l)) ⟨pb, 8, none⟩ (.int .u16 s.r.sp)) ⟨pb, 9, none⟩ (.int .u16 s.r.pc)) ⟨pb, 10, none⟩ (.bool s.ime)) ⟨pb, 11, none⟩ (.bool s.soon)) ⟨pb, 12, none⟩ (.bool s.halt)) ⟨pb, 13, none⟩ (.bool s.stop)) = u6 at hHeld P6 D6 O6 ⊢
       refine wpAnyH_ready (rs := [12]) (by kernel_rfl) (by simp) ?_
       refine (ac rfl (fun K hK => ?_) AllReadyH.nil)
       ·skip
        have hcc := D6.out.2.1
        have hfz := D6.out.2.2
        go_simp
        clear hcc hfz
        have o1 : Off (fun k => k = db) u6 (World.setCell (World.setCell (World.setCell (World.setCell (World.setCell (World.setCell (World.setCell (World.setCell (World.setCell u6 ⟨db, 0, none⟩ (.int .i64 0)) ⟨db, 1, none⟩ (.int .i64 0)) ⟨db, 2, none⟩ (.int .u16 s.r.pc)) ⟨db, 3, none⟩ (.int .i64 0)) ⟨db, 4, none⟩ (.int .i64 0)) ⟨db, 5, none⟩ (.int .i64 0)) ⟨db, 6, none⟩ (.int .i64 0)) ⟨db, 7, none⟩ (.int .u16 0)) ⟨db, 8, none⟩ (.bool false)) := Off.put9 u6 db (⟨0, 0, s.r.pc, noOp, false⟩ : DidV)
        have D7 := Lib.hid (show Has (World.setCell (World.setCell (World.setCell (World.setCell (World.setCell (World.setCell (World.setCell (World.setCell (World.setCell u6 ⟨db, 0, none⟩ (.int .i64 0)) ⟨db, 1, none⟩ (.int .i64 0)) ⟨db, 2, none⟩ (.int .u16 s.r.pc)) ⟨db, 3, none⟩ (.int .i64 0)) ⟨db, 4, none⟩ (.int .i64 0)) ⟨db, 5, none⟩ (.int .i64 0)) ⟨db, 6, none⟩ (.int .i64 0)) ⟨db, 7, none⟩ (.int .u16 0)) ⟨db, 8, none⟩ (.bool false)) db #[.int .i64 0, .int .i64 0, .int .u16 s.r.pc, .int .i64 0, .int .i64 0, .int .i64 0, .int .i64 0, .int .u16 0, .bool false] from D6.out.put9 (⟨0, 0, s.r.pc, noOp, false⟩ : DidV))
        have P7 := Lib.hid (P6.out.off o1 (fun e => DP.out e))
        have O7 := Lib.hid (O6.out.trans (o1.below (fun k hk e => by have := LD.out; have e' : k = db := e; omega) O6.out.size))
        clear o1
        refine hK.out _ _ ?s219 (fun hNew => ?r219)
        case s219 => exact ⟨(HS.out.below O7.out).2.1, trivial⟩
        clear hK K hHeld
        have hHeld := hNew
        clear hNew
        generalize (World.setCell (World.setCell (World.setCell (World.setCell (World.setCell (World.setCell (World.setCell (World.setCell (World.setCell u6 ⟨db, 0, none⟩ (.int .i64 0)) ⟨db, 1, none⟩ (.int .i64 0)) ⟨db, 2, none⟩ (.int .u16 s.r.pc)) ⟨db, 3, none⟩ (.int .i64 0)) ⟨db, 4, none⟩ (.int .i64 0)) ⟨db, 5, none⟩ (.int .i64 0)) ⟨db, 6, none⟩ (.int .i64 0)) ⟨db, 7, none⟩ (.int .u16 0)) ⟨db, 8, none⟩ (.bool false)) = u7 at hHeld P7 D7 O7 ⊢
        refine wpAnyH_done (by kernel_rfl) ?_ _
        clear hHeld
        exact HQ.out pb db _ _ _ _ _ _ _ _ _ _ ⟨O7.out, P7.out, D7.out, LP.out, LD.out, DP.out⟩
  ·skip
   go_simp
   have q := own1 u1 (.cells #[.int .i64 0, .int .i64 0, .int .u16 0, .int .i64 0, .int .i64 0, .int .i64 0, .int .i64 0, .int .u16 0, .bool false] 46)
   have O2 := Lib.hid (via O1.out q)
   have P2 := Lib.hid (P1.out.below q)
   have D2 := Lib.hid (Has.new u1 #[.int .i64 0, .int .i64 0, .int .u16 0, .int .i64 0, .int .i64 0, .int .i64 0, .int .i64 0, .int .u16 0, .bool false] 46)
   have LD := Lib.hid O1.out.size
   have DP := Lib.hid (show pb ≠ u1.heap.size by have := P1.out.1; omega)
   clear q
   refine hK.out _ _ ?s220 (fun hNew => ?r220)
   case s220 => exact ⟨(HS.out.below O2.out).2.1, trivial⟩
   clear hK K hHeld
   have hHeld := hNew
   clear hNew
   generalize u1.alloc (.cells #[.int .i64 0, .int .i64 0, .int .u16 0, .int .i64 0, .int .i64 0, .int .i64 0, .int .i64 0, .int .u16 0, .bool false] 46) = u2 at hHeld O2 P2 D2 ⊢
   generalize u1.heap.size = db at D2 LD DP ⊢
   refine wpAnyH_ready (rs := [1]) (by kernel_rfl) (by simp) ?_
   refine (ac rfl (fun K hK => ?_) AllReadyH.nil)
   ·skip
    have hmk := mk_run
    go_simp
    clear hmk
    have q := own1 u2 (.cells zeroM 5)
    have O3 := Lib.hid (via O2.out q)
    have P3 := Lib.hid (P2.out.below q)
    have D3 := Lib.hid (D2.out.below q)
    clear q
    refine hK.out _ _ ?s221 (fun hNew => ?r221)
    case s221 => exact ⟨(HS.out.below O3.out).2.1, trivial⟩
    clear hK K hHeld
    have hHeld := hNew
    clear hNew
    generalize u2.alloc (.cells zeroM 5) = u3 at hHeld O3 P3 D3 ⊢
    generalize u2.heap.size = mb at ⊢
    refine tk 2 rfl (v := ?v222) ?y222 ?z222
    case y222 => (intro w hSw; (try dsimp only at hSw); go_simp) <;> with_reducible rfl
    try simp only [Act.put, qqA, qqB, qqC]
    refine wpAnyH_ready (rs := [3]) (by kernel_rfl) (by simp) ?_
    refine (ac rfl (fun K hK => ?_) AllReadyH.nil)
    ·skip
     go_simp
     have q := own1 u3 (.cells #[.slice (some ⟨mb, 0, none⟩) 65536 65536, .slice none 0 0] 35)
     have O4 := Lib.hid (via O3.out q)
     have P4 := Lib.hid (P3.out.below q)
     have D4 := Lib.hid (D3.out.below q)
     clear q
     refine hK.out _ _ ?s223 (fun hNew => ?r223)
     case s223 => exact ⟨(HS.out.below O4.out).2.1, trivial⟩
     clear hK K hHeld
     have hHeld := hNew
     clear hNew
     generalize u3.alloc (.cells #[.slice (some ⟨mb, 0, none⟩) 65536 65536, .slice none 0 0] 35) = u4 at hHeld O4 P4 D4 ⊢
     generalize u3.heap.size = rb at ⊢
     refine tk 4 rfl (v := ?v224) ?y224 ?z224
     case y224 => (intro w hSw; (try dsimp only at hSw); go_simp) <;> with_reducible rfl
     try simp only [Act.put, qqA, qqB, qqC]
     refine wpAnyH_ready (rs := [5]) (by kernel_rfl) (by simp) ?_
     refine (ac rfl (fun K hK => ?_) AllReadyH.nil)
     ·skip
      go_simp
      with_reducible refine (Step_nt s _ _).mono ?_
      rintro e u5 ⟨rfl, q⟩
      have O5 := Lib.hid (via O4.out q)
      have P5 := Lib.hid (P4.out.below q)
      have D5 := Lib.hid (D4.out.below q)
      clear q
      refine hK.out _ _ ?s225 (fun hNew => ?r225)
      case s225 => exact ⟨(HS.out.below O5.out).2.1, trivial⟩
      clear hK K hHeld
      have hHeld := hNew
      clear hNew
      refine tk 6 rfl (v := ?v226) ?y226 ?z226
      case y226 => (intro w hSw; (try dsimp only at hSw); go_simp) <;> with_reducible rfl
      try simp only [Act.put, qqA, qqB, qqC]
      refine tk 7 rfl (v := ?v227) ?y227 ?z227
      case y227 => (intro w hSw; (try dsimp only at hSw); go_simp) <;> with_reducible rfl
      try simp only [Act.put, qqA, qqB, qqC]
      refine tk 8 rfl (v := ?v228) ?y228 ?z228
      case y228 => (intro w hSw; (try dsimp only at hSw); go_simp) <;> with_reducible rfl
      try simp only [Act.put, qqA, qqB, qqC]
      refine wpAnyH_ready (rs := [11]) (by kernel_rfl) (by simp) ?_
      refine (ac rfl (fun K hK => ?_) AllReadyH.nil)
      ·skip
       have hcc := P5.out.2.1
       have hfz := P5.out.2.2
       go_simp
       clear hcc hfz
       have o1 : Off (fun k => k = pb) u5 (World.setCell (World.setCell (World.setCell (World.setCell (World.setCell (World.setCell (World.setCell (World.setCell (World.setCell (World.setCell (World.setCell (World.setCell (World.setCell (World.setCell u5 ⟨pb, 0, none⟩ (.int .u8 s.r.a)) ⟨pb, 1, none⟩ (.int .u8 s.r.f)) ⟨pb, 2, none⟩ (.int .u8 s.r.b)) ⟨pb, 3, none⟩ (.int .u8 s.r.c)) ⟨pb, 4, none⟩ (.int .u8 s.r.d)) ⟨pb, 5, none⟩ (.int .u8 s.r.e)) ⟨pb, 6, none⟩ (.int .u8 s.r.h)) ⟨pb, 7, none⟩ (.int .u8 s.r.l)) ⟨pb, 8, none⟩ (.int .u16 s.r.sp)) ⟨pb, 9, none⟩ (.int .u16 s.r.pc)) ⟨pb, 10, none⟩ (.bool s.ime)) ⟨pb, 11, none⟩ (.bool s.soon)) ⟨pb, 12, none⟩ (.bool s.halt)) ⟨pb, 13, none⟩ (.bool s.stop)) := Off.put14 u5 pb s
       have P6 := Lib.hid (show Has (World.setCell (World.setCell (World.setCell (World.setCell (World.setCell (World.setCell (World.setCell (World.setCell (World.setCell (World.setCell (World.setCell (World.setCell (World.setCell (World.setCell u5 ⟨pb, 0, none⟩ (.int .u8 s.r.a)) ⟨pb, 1, none⟩ (.int .u8 s.r.f)) ⟨pb, 2, none⟩ (.int .u8 s.r.b)) ⟨pb, 3, none⟩ (.int .u8 s.r.c)) ⟨pb, 4, none⟩ (.int .u8 s.r.d)) ⟨pb, 5, none⟩ (.int .u8 s.r.e)) ⟨pb, 6, none⟩ (.int .u8 s.r.h)) ⟨pb, 7, none⟩ (.int .u8 s.r.l)) ⟨pb, 8, none⟩ (.int .u16 s.r.sp)) ⟨pb, 9, none⟩ (.int .u16 s.r.pc)) ⟨pb, 10, none⟩ (.bool s.ime)) ⟨pb, 11, none⟩ (.bool s.soon)) ⟨pb, 12, none⟩ (.bool s.halt)) ⟨pb, 13, none⟩ (.bool s.stop)) pb #[.int .u8 s.r.a, .int .u8 s.r.f, .int .u8 s.r.b, .int .u8 s.r.c, .int .u8 s.r.d, .int .u8 s.r.e, .int .u8 s.r.h, .int .u8 s.r.l, .int .u16 s.r.sp, .int .u16 s.r.pc, .bool s.ime, .bool s.soon, .bool s.halt, .bool s.stop] from Has.put14 (s0 := ⟨⟨0, 0, 0, 0, 0, 0, 0, 0, 0, 0⟩, false, false, false, false⟩) P5.out s)
       have D6 := Lib.hid (D5.out.off o1 (fun e => DP.out e.symm))
       have O6 := Lib.hid (O5.out.trans (o1.below (fun k hk e => by have := LP.out; have e' : k = pb := e; omega) O5.out.size))
       clear o1
       refine hK.out _ _ ?s229 (fun hNew => ?r229)
       case s229 => exact ⟨(HS.out.below O6.out).2.1, trivial⟩
       clear hK K hHeld
       have hHeld := hNew
       clear hNew
       generalize (World.setCell (World.setCell (World.setCell (World.setCell (World.setCell (World.setCell (World.setCell (World.setCell (World.setCell (World.setCell (World.setCell (World.setCell (World.setCell (World.setCell u5 ⟨pb, 0, none⟩ (.int .u8 s.r.a)) ⟨pb, 1, none⟩ (.int .u8 s.r.f)) ⟨pb, 2, none⟩ (.int .u8 s.r.b)) ⟨pb, 3, none⟩ (.int .u8 s.r.c)) ⟨pb, 4, none⟩ (.int .u8 s.r.d)) ⟨pb, 5, none⟩ (.int .u8 s.r.e)) ⟨pb, 6, none⟩ (.int .u8 s.r.h)) ⟨pb, 7, none⟩ (.int .u8 s.r.l)) ⟨pb, 8, none⟩ (.int .u16 s.r.sp)) ⟨pb, 9, none⟩ (.int .u16 s.r.pc)) ⟨pb, 10, none⟩ (.bool s.ime)) ⟨pb, 11, none⟩ (.bool s.soon)) ⟨pb, 12, none⟩ (.bool s.halt)) ⟨pb, 13, none⟩ (.bool s.stop)) = u6 at hHeld P6 D6 O6 ⊢
       refine wpAnyH_ready (rs := [12]) (by kernel_rfl) (by simp) ?_
       refine (ac rfl (fun K hK => ?_) AllReadyH.nil)
       ·skip
        have hcc := D6.out.2.1
        have hfz := D6.out.2.2
        go_simp
        clear hcc hfz
        have o1 : Off (fun k => k = db) u6 (World.setCell (World.setCell (World.setCell (World.setCell (World.setCell (World.setCell (World.setCell (World.setCell (World.setCell u6 ⟨db, 0, none⟩ (.int .i64 0)) ⟨db, 1, none⟩ (.int .i64 0)) ⟨db, 2, none⟩ (.int .u16 s.r.pc)) ⟨db, 3, none⟩ (.int .i64 0)) ⟨db, 4, none⟩ (.int .i64 0)) ⟨db, 5, none⟩ (.int .i64 0)) ⟨db, 6, none⟩ (.int .i64 0)) ⟨db, 7, none⟩ (.int .u16 0)) ⟨db, 8, none⟩ (.bool false)) := Off.put9 u6 db (⟨0, 0, s.r.pc, noOp, false⟩ : DidV)
        have D7 := Lib.hid (show Has (World.setCell (World.setCell (World.setCell (World.setCell (World.setCell (World.setCell (World.setCell (World.setCell (World.setCell u6 ⟨db, 0, none⟩ (.int .i64 0)) ⟨db, 1, none⟩ (.int .i64 0)) ⟨db, 2, none⟩ (.int .u16 s.r.pc)) ⟨db, 3, none⟩ (.int .i64 0)) ⟨db, 4, none⟩ (.int .i64 0)) ⟨db, 5, none⟩ (.int .i64 0)) ⟨db, 6, none⟩ (.int .i64 0)) ⟨db, 7, none⟩ (.int .u16 0)) ⟨db, 8, none⟩ (.bool false)) db #[.int .i64 0, .int .i64 0, .int .u16 s.r.pc, .int .i64 0, .int .i64 0, .int .i64 0, .int .i64 0, .int .u16 0, .bool false] from D6.out.put9 (⟨0, 0, s.r.pc, noOp, false⟩ : DidV))
        have P7 := Lib.hid (P6.out.off o1 (fun e => DP.out e))
        have O7 := Lib.hid (O6.out.trans (o1.below (fun k hk e => by have := LD.out; have e' : k = db := e; omega) O6.out.size))
        clear o1
        refine hK.out _ _ ?s230 (fun hNew => ?r230)
        case s230 => exact ⟨(HS.out.below O7.out).2.1, trivial⟩
        clear hK K hHeld
        have hHeld := hNew
        clear hNew
        generalize (World.setCell (World.setCell (World.setCell (World.setCell (World.setCell (World.setCell (World.setCell (World.setCell (World.setCell u6 ⟨db, 0, none⟩ (.int .i64 0)) ⟨db, 1, none⟩ (.int .i64 0)) ⟨db, 2, none⟩ (.int .u16 s.r.pc)) ⟨db, 3, none⟩ (.int .i64 0)) ⟨db, 4, none⟩ (.int .i64 0)) ⟨db, 5, none⟩ (.int .i64 0)) ⟨db, 6, none⟩ (.int .i64 0)) ⟨db, 7, none⟩ (.int .u16 0)) ⟨db, 8, none⟩ (.bool false)) = u7 at hHeld P7 D7 O7 ⊢
        refine wpAnyH_done (by kernel_rfl) ?_ _
        clear hHeld
        exact HQ.out pb db _ _ _ _ _ _ _ _ _ _ ⟨O7.out, P7.out, D7.out, LP.out, LD.out, DP.out⟩
 ·skip
  go_simp
  have q := own1 u0 (.cells #[.int .i64 0, .int .i64 0, .int .u16 0, .int .i64 0, .int .i64 0, .int .i64 0, .int .i64 0, .int .u16 0, .bool false] 46)
  have O1 := Lib.hid (via O0.out q)
  have D1 := Lib.hid (Has.new u0 #[.int .i64 0, .int .i64 0, .int .u16 0, .int .i64 0, .int .i64 0, .int .i64 0, .int .i64 0, .int .u16 0, .bool false] 46)
  have LD := Lib.hid O0.out.size
  clear q
  refine hK.out _ _ ?s231 (fun hNew => ?r231)
  case s231 => exact ⟨(HS.out.below O1.out).2.1, trivial⟩
  clear hK K hHeld
  have hHeld := hNew
  clear hNew
  generalize u0.alloc (.cells #[.int .i64 0, .int .i64 0, .int .u16 0, .int .i64 0, .int .i64 0, .int .i64 0, .int .i64 0, .int .u16 0, .bool false] 46) = u1 at hHeld O1 D1 ⊢
  generalize u0.heap.size = db at D1 LD ⊢
  refine wpAnyH_ready (rs := [1, 9]) (by kernel_rfl) (by simp) ?_
  refine (ac rfl (fun K hK => ?_) (ac rfl (fun K hK => ?_) AllReadyH.nil))
  ·skip
   have hmk := mk_run
   go_simp
   clear hmk
   have q := own1 u1 (.cells zeroM 5)
   have O2 := Lib.hid (via O1.out q)
   have D2 := Lib.hid (D1.out.below q)
   clear q
   refine hK.out _ _ ?s232 (fun hNew => ?r232)
   case s232 => exact ⟨(HS.out.below O2.out).2.1, trivial⟩
   clear hK K hHeld
   have hHeld := hNew
   clear hNew
   generalize u1.alloc (.cells zeroM 5) = u2 at hHeld O2 D2 ⊢
   generalize u1.heap.size = mb at ⊢
   refine tk 2 rfl (v := ?v233) ?y233 ?z233
   case y233 => (intro w hSw; (try dsimp only at hSw); go_simp) <;> with_reducible rfl
   try simp only [Act.put, qqA, qqB, qqC]
   refine wpAnyH_ready (rs := [3, 9]) (by kernel_rfl) (by simp) ?_
   refine (ac rfl (fun K hK => ?_) (ac rfl (fun K hK => ?_) AllReadyH.nil))
   ·skip
    go_simp
    have q := own1 u2 (.cells #[.slice (some ⟨mb, 0, none⟩) 65536 65536, .slice none 0 0] 35)
    have O3 := Lib.hid (via O2.out q)
    have D3 := Lib.hid (D2.out.below q)
    clear q
    refine hK.out _ _ ?s234 (fun hNew => ?r234)
    case s234 => exact ⟨(HS.out.below O3.out).2.1, trivial⟩
    clear hK K hHeld
    have hHeld := hNew
    clear hNew
    generalize u2.alloc (.cells #[.slice (some ⟨mb, 0, none⟩) 65536 65536, .slice none 0 0] 35) = u3 at hHeld O3 D3 ⊢
    generalize u2.heap.size = rb at ⊢
    refine tk 4 rfl (v := ?v235) ?y235 ?z235
    case y235 => (intro w hSw; (try dsimp only at hSw); go_simp) <;> with_reducible rfl
    try simp only [Act.put, qqA, qqB, qqC]
    refine wpAnyH_ready (rs := [5, 9]) (by kernel_rfl) (by simp) ?_
    refine (ac rfl (fun K hK => ?_) (ac rfl (fun K hK => ?_) AllReadyH.nil))
    ·skip
     go_simp
     with_reducible refine (Step_nt s _ _).mono ?_
     rintro e u4 ⟨rfl, q⟩
     have O4 := Lib.hid (via O3.out q)
     have D4 := Lib.hid (D3.out.below q)
     clear q
     refine hK.out _ _ ?s236 (fun hNew => ?r236)
     case s236 => exact ⟨(HS.out.below O4.out).2.1, trivial⟩
     clear hK K hHeld
     have hHeld := hNew
     clear hNew
     refine tk 6 rfl (v := ?v237) ?y237 ?z237
     case y237 => (intro w hSw; (try dsimp only at hSw); go_simp) <;> with_reducible rfl
     try simp only [Act.put, qqA, qqB, qqC]
     refine tk 7 rfl (v := ?v238) ?y238 ?z238
     case y238 => (intro w hSw; (try dsimp only at hSw); go_simp) <;> with_reducible rfl
     try simp only [Act.put, qqA, qqB, qqC]
     refine tk 8 rfl (v := ?v239) ?y239 ?z239
     case y239 => (intro w hSw; (try dsimp only at hSw); go_simp) <;> with_reducible rfl
     try simp only [Act.put, qqA, qqB, qqC]
     refine wpAnyH_ready (rs := [9]) (by kernel_rfl) (by simp) ?_
     refine (ac rfl (fun K hK => ?_) AllReadyH.nil)
     ·skip
      go_simp
      have q := own1 u4 (.cells #[.int .u8 0, .int .u8 0, .int .u8 0, .int .u8 0, .int .u8 0, .int .u8 0, .int .u8 0, .int .u8 0, .int .u16 0, .int .u16 0, .bool false, .bool false, .bool false, .bool false] 41)
      have O5 := Lib.hid (via O4.out q)
      have D5 := Lib.hid (D4.out.below q)
      have P5 := Lib.hid (Has.new u4 #[.int .u8 0, .int .u8 0, .int .u8 0, .int .u8 0, .int .u8 0, .int .u8 0, .int .u8 0, .int .u8 0, .int .u16 0, .int .u16 0, .bool false, .bool false, .bool false, .bool false] 41)
      have LP := Lib.hid O4.out.size
      have DP := Lib.hid (show db ≠ u4.heap.size by have := D4.out.1; omega)
      clear q
      refine hK.out _ _ ?s240 (fun hNew => ?r240)
      case s240 => exact ⟨(HS.out.below O5.out).2.1, trivial⟩
      clear hK K hHeld
      have hHeld := hNew
      clear hNew
      generalize u4.alloc (.cells #[.int .u8 0, .int .u8 0, .int .u8 0, .int .u8 0, .int .u8 0, .int .u8 0, .int .u8 0, .int .u8 0, .int .u16 0, .int .u16 0, .bool false, .bool false, .bool false, .bool false] 41) = u5 at hHeld O5 D5 P5 ⊢
      generalize u4.heap.size = pb at P5 LP DP ⊢
      refine wpAnyH_ready (rs := [11]) (by kernel_rfl) (by simp) ?_
      refine (ac rfl (fun K hK => ?_) AllReadyH.nil)
      ·skip
       have hcc := P5.out.2.1
       have hfz := P5.out.2.2
       go_simp
       clear hcc hfz
       have o1 : Off (fun k => k = pb) u5 (World.setCell (World.setCell (World.setCell (World.setCell (World.setCell (World.setCell (World.setCell (World.setCell (World.setCell (World.setCell (World.setCell (World.setCell (World.setCell (World.setCell u5 ⟨pb, 0, none⟩ (.int .u8 s.r.a)) ⟨pb, 1, none⟩ (.int .u8 s.r.f)) ⟨pb, 2, none⟩ (.int .u8 s.r.b)) ⟨pb, 3, none⟩ (.int .u8 s.r.c)) ⟨pb, 4, none⟩ (.int .u8 s.r.d)) ⟨pb, 5, none⟩ (.int .u8 s.r.e)) ⟨pb, 6, none⟩ (.int .u8 s.r.h)) ⟨pb, 7, none⟩ (.int .u8 s.r.l)) ⟨pb, 8, none⟩ (.int .u16 s.r.sp)) ⟨pb, 9, none⟩ (.int .u16 s.r.pc)) ⟨pb, 10, none⟩ (.bool s.ime)) ⟨pb, 11, none⟩ (.bool s.soon)) ⟨pb, 12, none⟩ (.bool s.halt)) ⟨pb, 13, none⟩ (.bool s.stop)) := Off.put14 u5 pb s
       have P6 := Lib.hid (show Has (World.setCell (World.setCell (World.setCell (World.setCell (World.setCell (World.setCell (World.setCell (World.setCell (World.setCell (World.setCell (World.setCell (World.setCell (World.setCell (World.setCell u5 ⟨pb, 0, none⟩ (.int .u8 s.r.a)) ⟨pb, 1, none⟩ (.int .u8 s.r.f)) ⟨pb, 2, none⟩ (.int .u8 s.r.b)) ⟨pb, 3, none⟩ (.int .u8 s.r.c)) ⟨pb, 4, none⟩ (.int .u8 s.r.d)) ⟨pb, 5, none⟩ (.int .u8 s.r.e)) ⟨pb, 6, none⟩ (.int .u8 s.r.h)) ⟨pb, 7, none⟩ (.int .u8 s.r.l)) ⟨pb, 8, none⟩ (.int .u16 s.r.sp)) ⟨pb, 9, none⟩ (.int .u16 s.r.pc)) ⟨pb, 10, none⟩ (.bool s.ime)) ⟨pb, 11, none⟩ (.bool s.soon)) ⟨pb, 12, none⟩ (.bool s.halt)) ⟨pb, 13, none⟩ (.bool s.stop)) pb #[.int .u8 s.r.a, .int .u8 s.r.f, .int .u8 s.r.b, .int .u8 s.r.c, .int .u8 s.r.d, .int .u8 s.r.e, .int .u8 s.r.h, .int .u8 s.r.l, .int .u16 s.r.sp, .int .u16 s.r.pc, .bool s.ime, .bool s.soon, .bool s.halt, .bool s.stop] from Has.put14 (s0 := ⟨⟨0, 0, 0, 0, 0, 0, 0, 0, 0, 0⟩, false, false, false, false⟩) P5.out s)
       have D6 := Lib.hid (D5.out.off o1 (fun e => DP.out e))
       have O6 := Lib.hid (O5.out.trans (o1.below (fun k hk e => by have := LP.out; have e' : k = pb := e; omega) O5.out.size))
       clear o1
       refine hK.out _ _ ?s241 (fun hNew => ?r241)
       case s241 => exact ⟨(HS.out.below O6.out).2.1, trivial⟩
       clear hK K hHeld
       have hHeld := hNew
       clear hNew
       generalize (World.setCell (World.setCell (World.setCell (World.setCell (World.setCell (World.setCell (World.setCell (World.setCell (World.setCell (World.setCell (World.setCell (World.setCell (World.setCell (World.setCell u5 ⟨pb, 0, none⟩ (.int .u8 s.r.a)) ⟨pb, 1, none⟩ (.int .u8 s.r.f)) ⟨pb, 2, none⟩ (.int .u8 s.r.b)) ⟨pb, 3, none⟩ (.int .u8 s.r.c)) ⟨pb, 4, none⟩ (.int .u8 s.r.d)) ⟨pb, 5, none⟩ (.int .u8 s.r.e)) ⟨pb, 6, none⟩ (.int .u8 s.r.h)) ⟨pb, 7, none⟩ (.int .u8 s.r.l)) ⟨pb, 8, none⟩ (.int .u16 s.r.sp)) ⟨pb, 9, none⟩ (.int .u16 s.r.pc)) ⟨pb, 10, none⟩ (.bool s.ime)) ⟨pb, 11, none⟩ (.bool s.soon)) ⟨pb, 12, none⟩ (.bool s.halt)) ⟨pb, 13, none⟩ (.bool s.stop)) = u6 at hHeld P6 D6 O6 ⊢
       refine wpAnyH_ready (rs := [12]) (by kernel_rfl) (by simp) ?_
       refine (ac rfl (fun K hK => ?_) AllReadyH.nil)
       ·skip
        have hcc := D6.out.2.1
        have hfz := D6.out.2.2
        go_simp
        clear hcc hfz
        have o1 : Off (fun k => k = db) u6 (World.setCell (World.setCell (World.setCell (World.setCell (World.setCell (World.setCell (World.setCell (World.setCell (World.setCell u6 ⟨db, 0, none⟩ (.int .i64 0)) ⟨db, 1, none⟩ (.int .i64 0)) ⟨db, 2, none⟩ (.int .u16 s.r.pc)) ⟨db, 3, none⟩ (.int .i64 0)) ⟨db, 4, none⟩ (.int .i64 0)) ⟨db, 5, none⟩ (.int .i64 0)) ⟨db, 6, none⟩ (.int .i64 0)) ⟨db, 7, none⟩ (.int .u16 0)) ⟨db, 8, none⟩ (.bool false)) := Off.put9 u6 db (⟨0, 0, s.r.pc, noOp, false⟩ : DidV)
        have D7 := Lib.hid (show Has (World.setCell (World.setCell (World.setCell (World.setCell (World.setCell (World.setCell (World.setCell (World.setCell (World.setCell u6 ⟨db, 0, none⟩ (.int .i64 0)) ⟨db, 1, none⟩ (.int .i64 0)) ⟨db, 2, none⟩ (.int .u16 s.r.pc)) ⟨db, 3, none⟩ (.int .i64 0)) ⟨db, 4, none⟩ (.int .i64 0)) ⟨db, 5, none⟩ (.int .i64 0)) ⟨db, 6, none⟩ (.int .i64 0)) ⟨db, 7, none⟩ (.int .u16 0)) ⟨db, 8, none⟩ (.bool false)) db #[.int .i64 0, .int .i64 0, .int .u16 s.r.pc, .int .i64 0, .int .i64 0, .int .i64 0, .int .i64 0, .int .u16 0, .bool false] from D6.out.put9 (⟨0, 0, s.r.pc, noOp, false⟩ : DidV))
        have P7 := Lib.hid (P6.out.off o1 (fun e => DP.out e.symm))
        have O7 := Lib.hid (O6.out.trans (o1.below (fun k hk e => by have := LD.out; have e' : k = db := e; omega) O6.out.size))
        clear o1
        refine hK.out _ _ ?s242 (fun hNew => ?r242)
        case s242 => exact ⟨(HS.out.below O7.out).2.1, trivial⟩
        clear hK K hHeld
        have hHeld := hNew
        clear hNew
        generalize (World.setCell (World.setCell (World.setCell (World.setCell (World.setCell (World.setCell (World.setCell (World.setCell (World.setCell u6 ⟨db, 0, none⟩ (.int .i64 0)) ⟨db, 1, none⟩ (.int .i64 0)) ⟨db, 2, none⟩ (.int .u16 s.r.pc)) ⟨db, 3, none⟩ (.int .i64 0)) ⟨db, 4, none⟩ (.int .i64 0)) ⟨db, 5, none⟩ (.int .i64 0)) ⟨db, 6, none⟩ (.int .i64 0)) ⟨db, 7, none⟩ (.int .u16 0)) ⟨db, 8, none⟩ (.bool false)) = u7 at hHeld P7 D7 O7 ⊢
        refine wpAnyH_done (by kernel_rfl) ?_ _
        clear hHeld
        exact HQ.out pb db _ _ _ _ _ _ _ _ _ _ ⟨O7.out, P7.out, D7.out, LP.out, LD.out, DP.out.symm⟩
    ·skip
     go_simp
     have q := own1 u3 (.cells #[.int .u8 0, .int .u8 0, .int .u8 0, .int .u8 0, .int .u8 0, .int .u8 0, .int .u8 0, .int .u8 0, .int .u16 0, .int .u16 0, .bool false, .bool false, .bool false, .bool false] 41)
     have O4 := Lib.hid (via O3.out q)
     have D4 := Lib.hid (D3.out.below q)
     have P4 := Lib.hid (Has.new u3 #[.int .u8 0, .int .u8 0, .int .u8 0, .int .u8 0, .int .u8 0, .int .u8 0, .int .u8 0, .int .u8 0, .int .u16 0, .int .u16 0, .bool false, .bool false, .bool false, .bool false] 41)
     have LP := Lib.hid O3.out.size
     have DP := Lib.hid (show db ≠ u3.heap.size by have := D3.out.1; omega)
     clear q
     refine hK.out _ _ ?s243 (fun hNew => ?r243)
     case s243 => exact ⟨(HS.out.below O4.out).2.1, trivial⟩
     clear hK K hHeld
     have hHeld := hNew
     clear hNew
     generalize u3.alloc (.cells #[.int .u8 0, .int .u8 0, .int .u8 0, .int .u8 0, .int .u8 0, .int .u8 0, .int .u8 0, .int .u8 0, .int .u16 0, .int .u16 0, .bool false, .bool false, .bool false, .bool false] 41) = u4 at hHeld O4 D4 P4 ⊢
     generalize u3.heap.size = pb at P4 LP DP ⊢
     refine wpAnyH_ready (rs := [5]) (by kernel_rfl) (by simp) ?_
     refine (ac rfl (fun K hK => ?_) AllReadyH.nil)
     ·skip
      go_simp
      with_reducible refine (Step_nt s _ _).mono ?_
      rintro e u5 ⟨rfl, q⟩
      have O5 := Lib.hid (via O4.out q)
      have P5 := Lib.hid (P4.out.below q)
      have D5 := Lib.hid (D4.out.below q)
      clear q
      refine hK.out _ _ ?s244 (fun hNew => ?r244)
      case s244 => exact ⟨(HS.out.below O5.out).2.1, trivial⟩
      clear hK K hHeld
      have hHeld := hNew
      clear hNew
      refine tk 6 rfl (v := ?v245) ?y245 ?z245
      case y245 => (intro w hSw; (try dsimp only at hSw); go_simp) <;> with_reducible rfl
      try simp only [Act.put, qqA, qqB, qqC]
      refine tk 7 rfl (v := ?v246) ?y246 ?z246
      case y246 => (intro w hSw; (try dsimp only at hSw); go_simp) <;> with_reducible rfl
      try simp only [Act.put, qqA, qqB, qqC]
      refine tk 8 rfl (v := ?v247) ?y247 ?z247
      case y247 => (intro w hSw; (try dsimp only at hSw); go_simp) <;> with_reducible rfl
      try simp only [Act.put, qqA, qqB, qqC]
      refine wpAnyH_ready (rs := [11]) (by kernel_rfl) (by simp) ?_
      refine (ac rfl (fun K hK => ?_) AllReadyH.nil)
      ·skip
       have hcc := P5.out.2.1
       have hfz := P5.out.2.2
       go_simp
       clear hcc hfz
       have o1 : Off (fun k => k = pb) u5 (World.setCell (World.setCell (World.setCell (World.setCell (World.setCell (World.setCell (World.setCell (World.setCell (World.setCell (World.setCell (World.setCell (World.setCell (World.setCell (World.setCell u5 ⟨pb, 0, none⟩ (.int .u8 s.r.a)) ⟨pb, 1, none⟩ (.int .u8 s.r.f)) ⟨pb, 2, none⟩ (.int .u8 s.r.b)) ⟨pb, 3, none⟩ (.int .u8 s.r.c)) ⟨pb, 4, none⟩ (.int .u8 s.r.d)) ⟨pb, 5, none⟩ (.int .u8 s.r.e)) ⟨pb, 6, none⟩ (.int .u8 s.r.h)) ⟨pb, 7, none⟩ (.int .u8 s.r.l)) ⟨pb, 8, none⟩ (.int .u16 s.r.sp)) ⟨pb, 9, none⟩ (.int .u16 s.r.pc)) ⟨pb, 10, none⟩ (.bool s.ime)) ⟨pb, 11, none⟩ (.bool s.soon)) ⟨pb, 12, none⟩ (.bool s.halt)) ⟨pb, 13, none⟩ (.bool s.stop)) := Off.put14 u5 pb s
       have P6 := Lib.hid (show Has (World.setCell (World.setCell (World.setCell (World.setCell (World.setCell (World.setCell (World.setCell (World.setCell (World.setCell (World.setCell (World.setCell (World.setCell (World.setCell (World.setCell u5 ⟨pb, 0, none⟩ (.int .u8 s.r.a)) ⟨pb, 1, none⟩ (.int .u8 s.r.f)) ⟨pb, 2, none⟩ (.int .u8 s.r.b)) ⟨pb, 3, none⟩ (.int .u8 s.r.c)) ⟨pb, 4, none⟩ (.int .u8 s.r.d)) ⟨pb, 5, none⟩ (.int .u8 s.r.e)) ⟨pb, 6, none⟩ (.int .u8 s.r.h)) ⟨pb, 7, none⟩ (.int .u8 s.r.l)) ⟨pb, 8, none⟩ (.int .u16 s.r.sp)) ⟨pb, 9, none⟩ (.int .u16 s.r.pc)) ⟨pb, 10, none⟩ (.bool s.ime)) ⟨pb, 11, none⟩ (.bool s.soon)) ⟨pb, 12, none⟩ (.bool s.halt)) ⟨pb, 13, none⟩ (.bool s.stop)) pb #[.int .u8 s.r.a, .int .u8 s.r.f, .int .u8 s.r.b, .int .u8 s.r.c, .int .u8 s.r.d, .int .u8 s.r.e, .int .u8 s.r.h, .int .u8 s.r.l, .int .u16 s.r.sp, .int .u16 s.r.pc, .bool s.ime, .bool s.soon, .bool s.halt, .bool s.stop] from Has.put14 (s0 := ⟨⟨0, 0, 0, 0, 0, 0, 0, 0, 0, 0⟩, false, false, false, false⟩) P5.out s)
       have D6 := Lib.hid (D5.out.off o1 (fun e => DP.out e))
       have O6 := Lib.hid (O5.out.trans (o1.below (fun k hk e => by have := LP.out; have e' : k = pb := e; omega) O5.out.size))
       clear o1
       refine hK.out _ _ ?s248 (fun hNew => ?r248)
       case s248 => exact ⟨(HS.out.below O6.out).2.1, trivial⟩
       clear hK K hHeld
       have hHeld := hNew
       clear hNew
       generalize (World.setCell (World.setCell (World.setCell (World.setCell (World.setCell (World.setCell (World.setCell (World.setCell (World.setCell (World.setCell (World.setCell (World.setCell (World.setCell (World.setCell u5 ⟨pb, 0, none⟩ (.int .u8 s.r.a)) ⟨pb, 1, none⟩ (.int .u8 s.r.f)) ⟨pb, 2, none⟩ (.int .u8 s.r.b)) ⟨pb, 3, none⟩ (.int .u8 s.r.c)) ⟨pb, 4, none⟩ (.int .u8 s.r.d)) ⟨pb, 5, none⟩ (.int .u8 s.r.e)) ⟨pb, 6, none⟩ (.int .u8 s.r.h)) ⟨pb, 7, none⟩ (.int .u8 s.r.l)) ⟨pb, 8, none⟩ (.int .u16 s.r.sp)) ⟨pb, 9, none⟩ (.int .u16 s.r.pc)) ⟨pb, 10, none⟩ (.bool s.ime)) ⟨pb, 11, none⟩ (.bool s.soon)) ⟨pb, 12, none⟩ (.bool s.halt)) ⟨pb, 13, none⟩ (.bool s.stop)) = u6 at hHeld P6 D6 O6 ⊢
       refine wpAnyH_ready (rs := [12]) (by kernel_rfl) (by simp) ?_
       refine (ac rfl (fun K hK => ?_) AllReadyH.nil)
       ·skip
        have hcc := D6.out.2.1
        have hfz := D6.out.2.2
        go_simp
        clear hcc hfz
        have o1 : Off (fun k => k = db) u6 (World.setCell (World.setCell (World.setCell (World.setCell (World.setCell (World.setCell (World.setCell (World.setCell (World.setCell u6 ⟨db, 0, none⟩ (.int .i64 0)) ⟨db, 1, none⟩ (.int .i64 0)) ⟨db, 2, none⟩ (.int .u16 s.r.pc)) ⟨db, 3, none⟩ (.int .i64 0)) ⟨db, 4, none⟩ (.int .i64 0)) ⟨db, 5, none⟩ (.int .i64 0)) ⟨db, 6, none⟩ (.int .i64 0)) ⟨db, 7, none⟩ (.int .u16 0)) ⟨db, 8, none⟩ (.bool false)) := Off.put9 u6 db (⟨0, 0, s.r.pc, noOp, false⟩ : DidV)
        have D7 := Lib.hid (show Has (World.setCell (World.setCell (World.setCell (World.setCell (World.setCell (World.setCell (World.setCell (World.setCell (World.setCell u6 ⟨db, 0, none⟩ (.int .i64 0)) ⟨db, 1, none⟩ (.int .i64 0)) ⟨db, 2, none⟩ (.int .u16 s.r.pc)) ⟨db, 3, none⟩ (.int .i64 0)) ⟨db, 4, none⟩ (.int .i64 0)) ⟨db, 5, none⟩ (.int .i64 0)) ⟨db, 6, none⟩ (.int .i64 0)) ⟨db, 7, none⟩ (.int .u16 0)) ⟨db, 8, none⟩ (.bool false)) db #[.int .i64 0, .int .i64 0, .int .u16 s.r.pc, .int .i64 0, .int .i64 0, .int .i64 0, .int .i64 0, .int .u16 0, .bool false] from D6.out.put9 (⟨0, 0, s.r.pc, noOp, false⟩ : DidV))
        have P7 := Lib.hid (P6.out.off o1 (fun e => DP.out e.symm))
        have O7 := Lib.hid (O6.out.trans (o1.below (fun k hk e => by have := LD.out; have e' : k = db := e; omega) O6.out.size))
        clear o1
        refine hK.out _ _ ?s249 (fun hNew => ?r249)
        case s249 => exact ⟨(HS.out.below O7.out).2.1, trivial⟩
        clear hK K hHeld
        have hHeld := hNew
        clear hNew
        generalize (World.setCell (World.setCell (World.setCell (World.setCell (World.setCell (World.setCell (World.setCell (World.setCell (World.setCell u6 ⟨db, 0, none⟩ (.int .i64 0)) ⟨db, 1, none⟩ (.int .i64 0)) ⟨db, 2, none⟩ (.int .u16 s.r.pc)) ⟨db, 3, none⟩ (.int .i64 0)) ⟨db, 4, none⟩ (.int .i64 0)) ⟨db, 5, none⟩ (.int .i64 0)) ⟨db, 6, none⟩ (.int .i64 0)) ⟨db, 7, none⟩ (.int .u16 0)) ⟨db, 8, none⟩ (.bool false)) = u7 at hHeld P7 D7 O7 ⊢
        refine wpAnyH_done (by kernel_rfl) ?_ _
        clear hHeld
        exact HQ.out pb db _ _ _ _ _ _ _ _ _ _ ⟨O7.out, P7.out, D7.out, LP.out, LD.out, DP.out.symm⟩
   ·skip
    go_simp
    have q := own1 u2 (.cells #[.int .u8 0, .int .u8 0, .int .u8 0, .int .u8 0, .int .u8 0, .int .u8 0, .int .u8 0, .int .u8 0, .int .u16 0, .int .u16 0, .bool false, .bool false, .bool false, .bool false] 41)
    have O3 := Lib.hid (via O2.out q)
    have D3 := Lib.hid (D2.out.below q)
    have P3 := Lib.hid (Has.new u2 #[.int .u8 0, .int .u8 0, .int .u8 0, .int .u8 0, .int .u8 0, .int .u8 0, .int .u8 0, .int .u8 0, .int .u16 0, .int .u16 0, .bool false, .bool false, .bool false, .bool false] 41)
    have LP := Lib.hid O2.out.size
    have DP := Lib.hid (show db ≠ u2.heap.size by have := D2.out.1; omega)
    clear q
    refine hK.out _ _ ?s250 (fun hNew => ?r250)
    case s250 => exact ⟨(HS.out.below O3.out).2.1, trivial⟩
    clear hK K hHeld
    have hHeld := hNew
    clear hNew
    generalize u2.alloc (.cells #[.int .u8 0, .int .u8 0, .int .u8 0, .int .u8 0, .int .u8 0, .int .u8 0, .int .u8 0, .int .u8 0, .int .u16 0, .int .u16 0, .bool false, .bool false, .bool false, .bool false] 41) = u3 at hHeld O3 D3 P3 ⊢
    generalize u2.heap.size = pb at P3 LP DP ⊢
    refine wpAnyH_ready (rs := [3]) (by kernel_rfl) (by simp) ?_
    refine (ac rfl (fun K hK => ?_) AllReadyH.nil)
    ·skip
     go_simp
     have q := own1 u3 (.cells #[.slice (some ⟨mb, 0, none⟩) 65536 65536, .slice none 0 0] 35)
     have O4 := Lib.hid (via O3.out q)
     have P4 := Lib.hid (P3.out.below q)
     have D4 := Lib.hid (D3.out.below q)
     clear q
     refine hK.out _ _ ?s251 (fun hNew => ?r251)
     case s251 => exact ⟨(HS.out.below O4.out).2.1, trivial⟩
     clear hK K hHeld
     have hHeld := hNew
     clear hNew
     generalize u3.alloc (.cells #[.slice (some ⟨mb, 0, none⟩) 65536 65536, .slice none 0 0] 35) = u4 at hHeld O4 P4 D4 ⊢
     generalize u3.heap.size = rb at ⊢
     refine tk 4 rfl (v := ?v252) ?y252 ?z252
     case y252 => (intro w hSw; (try dsimp only at hSw); go_simp) <;> with_reducible rfl
     try simp only [Act.put, qqA, qqB, qqC]
     refine wpAnyH_ready (rs := [5]) (by kernel_rfl) (by simp) ?_
     refine (ac rfl (fun K hK => ?_) AllReadyH.nil)
     ·skip
      go_simp
      with_reducible refine (Step_nt s _ _).mono ?_
      rintro e u5 ⟨rfl, q⟩
      have O5 := Lib.hid (via O4.out q)
      have P5 := Lib.hid (P4.out.below q)
      have D5 := Lib.hid (D4.out.below q)
      clear q
      refine hK.out _ _ ?s253 (fun hNew => ?r253)
      case s253 => exact ⟨(HS.out.below O5.out).2.1, trivial⟩
      clear hK K hHeld
      have hHeld := hNew
      clear hNew
      refine tk 6 rfl (v := ?v254) ?y254 ?z254
      case y254 => (intro w hSw; (try dsimp only at hSw); go_simp) <;> with_reducible rfl
      try simp only [Act.put, qqA, qqB, qqC]
      refine tk 7 rfl (v := ?v255) ?y255 ?z255
      case y255 => (intro w hSw; (try dsimp only at hSw); go_simp) <;> with_reducible rfl
      try simp only [Act.put, qqA, qqB, qqC]
      refine tk 8 rfl (v := ?v256) ?y256 ?z256
      case y256 => (intro w hSw; (try dsimp only at hSw); go_simp) <;> with_reducible rfl
      try simp only [Act.put, qqA, qqB, qqC]
      refine wpAnyH_ready (rs := [11]) (by kernel_rfl) (by simp) ?_
      refine (ac rfl (fun K hK => ?_) AllReadyH.nil)
      ·skip
       have hcc := P5.out.2.1
       have hfz := P5.out.2.2
       go_simp
       clear hcc hfz
       have o1 : Off (fun k => k = pb) u5 (World.setCell (World.setCell (World.setCell (World.setCell (World.setCell (World.setCell (World.setCell (World.setCell (World.setCell (World.setCell (World.setCell (World.setCell (World.setCell (World.setCell u5 ⟨pb, 0, none⟩ (.int .u8 s.r.a)) ⟨pb, 1, none⟩ (.int .u8 s.r.f)) ⟨pb, 2, none⟩ (.int .u8 s.r.b)) ⟨pb, 3, none⟩ (.int .u8 s.r.c)) ⟨pb, 4, none⟩ (.int .u8 s.r.d)) ⟨pb, 5, none⟩ (.int .u8 s.r.e)) ⟨pb, 6, none⟩ (.int .u8 s.r.h)) ⟨pb, 7, none⟩ (.int .u8 s.r.l)) ⟨pb, 8, none⟩ (.int .u16 s.r.sp)) ⟨pb, 9, none⟩ (.int .u16 s.r.pc)) ⟨pb, 10, none⟩ (.bool s.ime)) ⟨pb, 11, none⟩ (.bool s.soon)) ⟨pb, 12, none⟩ (.bool s.halt)) ⟨pb, 13, none⟩ (.bool s.stop)) := Off.put14 u5 pb s
       have P6 := Lib.hid (show Has (World.setCell (World.setCell (World.setCell (World.setCell (World.setCell (World.setCell (World.setCell (World.setCell (World.setCell (World.setCell (World.setCell (World.setCell (World.setCell (World.setCell u5 ⟨pb, 0, none⟩ (.int .u8 s.r.a)) ⟨pb, 1, none⟩ (.int .u8 s.r.f)) ⟨pb, 2, none⟩ (.int .u8 s.r.b)) ⟨pb, 3, none⟩ (.int .u8 s.r.c)) ⟨pb, 4, none⟩ (.int .u8 s.r.d)) ⟨pb, 5, none⟩ (.int .u8 s.r.e)) ⟨pb, 6, none⟩ (.int .u8 s.r.h)) ⟨pb, 7, none⟩ (.int .u8 s.r.l)) ⟨pb, 8, none⟩ (.int .u16 s.r.sp)) ⟨pb, 9, none⟩ (.int .u16 s.r.pc)) ⟨pb, 10, none⟩ (.bool s.ime)) ⟨pb, 11, none⟩ (.bool s.soon)) ⟨pb, 12, none⟩ (.bool s.halt)) ⟨pb, 13, none⟩ (.bool s.stop)) pb #[.int .u8 s.r.a, .int .u8 s.r.f, .int .u8 s.r.b, .int .u8 s.r.c, .int .u8 s.r.d, .int .u8 s.r.e, .int .u8 s.r.h, .int .u8 s.r.l, .int .u16 s.r.sp, .int .u16 s.r.pc, .bool s.ime, .bool s.soon, .bool s.halt, .bool s.stop] from Has.put14 (s0 := ⟨⟨0, 0, 0, 0, 0, 0, 0, 0, 0, 0⟩, false, false, false, false⟩) P5.out s)
       have D6 := Lib.hid (D5.out.off o1 (fun e => DP.out e))
       have O6 := Lib.hid (O5.out.trans (o1.below (fun k hk e => by have := LP.out; have e' : k = pb := e; omega) O5.out.size))
       clear o1
       refine hK.out _ _ ?s257 (fun hNew => ?r257)
       case s257 => exact ⟨(HS.out.below O6.out).2.1, trivial⟩
       clear hK K hHeld
       have hHeld := hNew
       clear hNew
       generalize (World.setCell (World.setCell (World.setCell (World.setCell (World.setCell (World.setCell (World.setCell (World.setCell (World.setCell (World.setCell (World.setCell (World.setCell (World.setCell (World.setCell u5 ⟨pb, 0, none⟩ (.int .u8 s.r.a)) ⟨pb, 1, none⟩ (.int .u8 s.r.f)) ⟨pb, 2, none⟩ (.int .u8 s.r.b)) ⟨pb, 3, none⟩ (.int .u8 s.r.c)) ⟨pb, 4, none⟩ (.int .u8 s.r.d)) ⟨pb, 5, none⟩ (.int .u8 s.r.e)) ⟨pb, 6, none⟩ (.int .u8 s.r.h)) ⟨pb, 7, none⟩ (.int .u8 s.r.l)) ⟨pb, 8, none⟩ (.int .u16 s.r.sp)) ⟨pb, 9, none⟩ (.int .u16 s.r.pc)) ⟨pb, 10, none⟩ (.bool s.ime)) ⟨pb, 11, none⟩ (.bool s.soon)) ⟨pb, 12, none⟩ (.bool s.halt)) ⟨pb, 13, none⟩ (.bool s.stop)) = u6 at hHeld P6 D6 O6 ⊢
       refine wpAnyH_ready (rs := [12]) (by kernel_rfl) (by simp) ?_
       refine (ac rfl (fun K hK => ?_) AllReadyH.nil)
       ·skip
        have hcc := D6.out.2.1
        have hfz := D6.out.2.2
        go_simp
        clear hcc hfz
        have o1 : Off (fun k => k = db) u6 (World.setCell (World.setCell (World.setCell (World.setCell (World.setCell (World.setCell (World.setCell (World.setCell (World.setCell u6 ⟨db, 0, none⟩ (.int .i64 0)) ⟨db, 1, none⟩ (.int .i64 0)) ⟨db, 2, none⟩ (.int .u16 s.r.pc)) ⟨db, 3, none⟩ (.int .i64 0)) ⟨db, 4, none⟩ (.int .i64 0)) ⟨db, 5, none⟩ (.int .i64 0)) ⟨db, 6, none⟩ (.int .i64 0)) ⟨db, 7, none⟩ (.int .u16 0)) ⟨db, 8, none⟩ (.bool false)) := Off.put9 u6 db (⟨0, 0, s.r.pc, noOp, false⟩ : DidV)
        have D7 := Lib.hid (show Has (World.setCell (World.setCell (World.setCell (World.setCell (World.setCell (World.setCell (World.setCell (World.setCell (World.setCell u6 ⟨db, 0, none⟩ (.int .i64 0)) ⟨db, 1, none⟩ (.int .i64 0)) ⟨db, 2, none⟩ (.int .u16 s.r.pc)) ⟨db, 3, none⟩ (.int .i64 0)) ⟨db, 4, none⟩ (.int .i64 0)) ⟨db, 5, none⟩ (.int .i64 0)) ⟨db, 6, none⟩ (.int .i64 0)) ⟨db, 7, none⟩ (.int .u16 0)) ⟨db, 8, none⟩ (.bool false)) db #[.int .i64 0, .int .i64 0, .int .u16 s.r.pc, .int .i64 0, .int .i64 0, .int .i64 0, .int .i64 0, .int .u16 0, .bool false] from D6.out.put9 (⟨0, 0, s.r.pc, noOp, false⟩ : DidV))
        have P7 := Lib.hid (P6.out.off o1 (fun e => DP.out e.symm))
        have O7 := Lib.hid (O6.out.trans (o1.below (fun k hk e => by have := LD.out; have e' : k = db := e; omega) O6.out.size))
        clear o1
        refine hK.out _ _ ?s258 (fun hNew => ?r258)
        case s258 => exact ⟨(HS.out.below O7.out).2.1, trivial⟩
        clear hK K hHeld
        have hHeld := hNew
        clear hNew
        generalize (World.setCell (World.setCell (World.setCell (World.setCell (World.setCell (World.setCell (World.setCell (World.setCell (World.setCell u6 ⟨db, 0, none⟩ (.int .i64 0)) ⟨db, 1, none⟩ (.int .i64 0)) ⟨db, 2, none⟩ (.int .u16 s.r.pc)) ⟨db, 3, none⟩ (.int .i64 0)) ⟨db, 4, none⟩ (.int .i64 0)) ⟨db, 5, none⟩ (.int .i64 0)) ⟨db, 6, none⟩ (.int .i64 0)) ⟨db, 7, none⟩ (.int .u16 0)) ⟨db, 8, none⟩ (.bool false)) = u7 at hHeld P7 D7 O7 ⊢
        refine wpAnyH_done (by kernel_rfl) ?_ _
        clear hHeld
        exact HQ.out pb db _ _ _ _ _ _ _ _ _ _ ⟨O7.out, P7.out, D7.out, LP.out, LD.out, DP.out.symm⟩
  ·skip
   go_simp
   have q := own1 u1 (.cells #[.int .u8 0, .int .u8 0, .int .u8 0, .int .u8 0, .int .u8 0, .int .u8 0, .int .u8 0, .int .u8 0, .int .u16 0, .int .u16 0, .bool false, .bool false, .bool false, .bool false] 41)
   have O2 := Lib.hid (via O1.out q)
   have D2 := Lib.hid (D1.out.below q)
   have P2 := Lib.hid (Has.new u1 #[.int .u8 0, .int .u8 0, .int .u8 0, .int .u8 0, .int .u8 0, .int .u8 0, .int .u8 0, .int .u8 0, .int .u16 0, .int .u16 0, .bool false, .bool false, .bool false, .bool false] 41)
   have LP := Lib.hid O1.out.size
   have DP := Lib.hid (show db ≠ u1.heap.size by have := D1.out.1; omega)
   clear q
   refine hK.out _ _ ?s259 (fun hNew => ?r259)
   case s259 => exact ⟨(HS.out.below O2.out).2.1, trivial⟩
   clear hK K hHeld
   have hHeld := hNew
   clear hNew
   generalize u1.alloc (.cells #[.int .u8 0, .int .u8 0, .int .u8 0, .int .u8 0, .int .u8 0, .int .u8 0, .int .u8 0, .int .u8 0, .int .u16 0, .int .u16 0, .bool false, .bool false, .bool false, .bool false] 41) = u2 at hHeld O2 D2 P2 ⊢
   generalize u1.heap.size = pb at P2 LP DP ⊢
   refine wpAnyH_ready (rs := [1]) (by kernel_rfl) (by simp) ?_
   refine (ac rfl (fun K hK => ?_) AllReadyH.nil)
   ·skip
    have hmk := mk_run
    go_simp
    clear hmk
    have q := own1 u2 (.cells zeroM 5)
    have O3 := Lib.hid (via O2.out q)
    have P3 := Lib.hid (P2.out.below q)
    have D3 := Lib.hid (D2.out.below q)
    clear q
    refine hK.out _ _ ?s260 (fun hNew => ?r260)
    case s260 => exact ⟨(HS.out.below O3.out).2.1, trivial⟩
    clear hK K hHeld
    have hHeld := hNew
    clear hNew
    generalize u2.alloc (.cells zeroM 5) = u3 at hHeld O3 P3 D3 ⊢
    generalize u2.heap.size = mb at ⊢
    refine tk 2 rfl (v := ?v261) ?y261 ?z261
    case y261 => (intro w hSw; (try dsimp only at hSw); go_simp) <;> with_reducible rfl
    try simp only [Act.put, qqA, qqB, qqC]
    refine wpAnyH_ready (rs := [3]) (by kernel_rfl) (by simp) ?_
    refine (ac rfl (fun K hK => ?_) AllReadyH.nil)
    ·skip
     go_simp
     have q := own1 u3 (.cells #[.slice (some ⟨mb, 0, none⟩) 65536 65536, .slice none 0 0] 35)
     have O4 := Lib.hid (via O3.out q)
     have P4 := Lib.hid (P3.out.below q)
     have D4 := Lib.hid (D3.out.below q)
     clear q
     refine hK.out _ _ ?s262 (fun hNew => ?r262)
     case s262 => exact ⟨(HS.out.below O4.out).2.1, trivial⟩
     clear hK K hHeld
     have hHeld := hNew
     clear hNew
     generalize u3.alloc (.cells #[.slice (some ⟨mb, 0, none⟩) 65536 65536, .slice none 0 0] 35) = u4 at hHeld O4 P4 D4 ⊢
     generalize u3.heap.size = rb at ⊢
     refine tk 4 rfl (v := ?v263) ?y263 ?z263
     case y263 => (intro w hSw; (try dsimp only at hSw); go_simp) <;> with_reducible rfl
     try simp only [Act.put, qqA, qqB, qqC]
     refine wpAnyH_ready (rs := [5]) (by kernel_rfl) (by simp) ?_
     refine (ac rfl (fun K hK => ?_) AllReadyH.nil)
     ·skip
      go_simp
      with_reducible refine (Step_nt s _ _).mono ?_
      rintro e u5 ⟨rfl, q⟩
      have O5 := Lib.hid (via O4.out q)
      have P5 := Lib.hid (P4.out.below q)
      have D5 := Lib.hid (D4.out.below q)
      clear q
      refine hK.out _ _ ?s264 (fun hNew => ?r264)
      case s264 => exact ⟨(HS.out.below O5.out).2.1, trivial⟩
      clear hK K hHeld
      have hHeld := hNew
      clear hNew
      refine tk 6 rfl (v := ?v265) ?y265 ?z265
      case y265 => (intro w hSw; (try dsimp only at hSw); go_simp) <;> with_reducible rfl
      try simp only [Act.put, qqA, qqB, qqC]
      refine tk 7 rfl (v := ?v266) ?y266 ?z266
      case y266 => (intro w hSw; (try dsimp only at hSw); go_simp) <;> with_reducible rfl
      try simp only [Act.put, qqA, qqB, qqC]
      refine tk 8 rfl (v := ?v267) ?y267 ?z267
      case y267 => (intro w hSw; (try dsimp only at hSw); go_simp) <;> with_reducible rfl
      try simp only [Act.put, qqA, qqB, qqC]
      refine wpAnyH_ready (rs := [11]) (by kernel_rfl) (by simp) ?_
      refine (ac rfl (fun K hK => ?_) AllReadyH.nil)
      ·skip
       have hcc := P5.out.2.1
       have hfz := P5.out.2.2
       go_simp
       clear hcc hfz
       have o1 : Off (fun k => k = pb) u5 (World.setCell (World.setCell (World.setCell (World.setCell (World.setCell (World.setCell (World.setCell (World.setCell (World.setCell (World.setCell (World.setCell (World.setCell (World.setCell (World.setCell u5 ⟨pb, 0, none⟩ (.int .u8 s.r.a)) ⟨pb, 1, none⟩ (.int .u8 s.r.f)) ⟨pb, 2, none⟩ (.int .u8 s.r.b)) ⟨pb, 3, none⟩ (.int .u8 s.r.c)) ⟨pb, 4, none⟩ (.int .u8 s.r.d)) ⟨pb, 5, none⟩ (.int .u8 s.r.e)) ⟨pb, 6, none⟩ (.int .u8 s.r.h)) ⟨pb, 7, none⟩ (.int .u8 s.r.l)) ⟨pb, 8, none⟩ (.int .u16 s.r.sp)) ⟨pb, 9, none⟩ (.int .u16 s.r.pc)) ⟨pb, 10, none⟩ (.bool s.ime)) ⟨pb, 11, none⟩ (.bool s.soon)) ⟨pb, 12, none⟩ (.bool s.halt)) ⟨pb, 13, none⟩ (.bool s.stop)) := Off.put14 u5 pb s
       have P6 := Lib.hid (show Has (World.setCell (World.setCell (World.setCell (World.setCell (World.setCell (World.setCell (World.setCell (World.setCell (World.setCell (World.setCell (World.setCell (World.setCell (World.setCell (World.setCell u5 ⟨pb, 0, none⟩ (.int .u8 s.r.a)) ⟨pb, 1, none⟩ (.int .u8 s.r.f)) ⟨pb, 2, none⟩ (.int .u8 s.r.b)) ⟨pb, 3, none⟩ (.int .u8 s.r.c)) ⟨pb, 4, none⟩ (.int .u8 s.r.d)) ⟨pb, 5, none⟩ (.int .u8 s.r.e)) ⟨pb, 6, none⟩ (.int .u8 s.r.h)) ⟨pb, 7, none⟩ (.int .u8 s.r.l)) ⟨pb, 8, none⟩ (.int .u16 s.r.sp)) ⟨pb, 9, none⟩ (.int .u16 s.r.pc)) ⟨pb, 10, none⟩ (.bool s.ime)) ⟨pb, 11, none⟩ (.bool s.soon)) ⟨pb, 12, none⟩ (.bool s.halt)) ⟨pb, 13, none⟩ (.bool s.stop)) pb #[.int .u8 s.r.a, .int .u8 s.r.f, .int .u8 s.r.b, .int .u8 s.r.c, .int .u8 s.r.d, .int .u8 s.r.e, .int .u8 s.r.h, .int .u8 s.r.l, .int .u16 s.r.sp, .int .u16 s.r.pc, .bool s.ime, .bool s.soon, .bool s.halt, .bool s.stop] from Has.put14 (s0 := ⟨⟨0, 0, 0, 0, 0, 0, 0, 0, 0, 0⟩, false, false, false, false⟩) P5.out s)
       have D6 := Lib.hid (D5.out.off o1 (fun e => DP.out e))
       have O6 := Lib.hid (O5.out.trans (o1.below (fun k hk e => by have := LP.out; have e' : k = pb := e; omega) O5.out.size))
       clear o1
       refine hK.out _ _ ?s268 (fun hNew => ?r268)
       case s268 => exact ⟨(HS.out.below O6.out).2.1, trivial⟩
       clear hK K hHeld
       have hHeld := hNew
       clear hNew
       generalize (World.setCell (World.setCell (World.setCell (World.setCell (World.setCell (World.setCell (World.setCell (World.setCell (World.setCell (World.setCell (World.setCell (World.setCell (World.setCell (World.setCell u5 ⟨pb, 0, none⟩ (.int .u8 s.r.a)) ⟨pb, 1, none⟩ (.int .u8 s.r.f)) ⟨pb, 2, none⟩ (.int .u8 s.r.b)) ⟨pb, 3, none⟩ (.int .u8 s.r.c)) ⟨pb, 4, none⟩ (.int .u8 s.r.d)) ⟨pb, 5, none⟩ (.int .u8 s.r.e)) ⟨pb, 6, none⟩ (.int .u8 s.r.h)) ⟨pb, 7, none⟩ (.int .u8 s.r.l)) ⟨pb, 8, none⟩ (.int .u16 s.r.sp)) ⟨pb, 9, none⟩ (.int .u16 s.r.pc)) ⟨pb, 10, none⟩ (.bool s.ime)) ⟨pb, 11, none⟩ (.bool s.soon)) ⟨pb, 12, none⟩ (.bool s.halt)) ⟨pb, 13, none⟩ (.bool s.stop)) = u6 at hHeld P6 D6 O6 ⊢
       refine wpAnyH_ready (rs := [12]) (by kernel_rfl) (by simp) ?_
       refine (ac rfl (fun K hK => ?_) AllReadyH.nil)
       ·skip
        have hcc := D6.out.2.1
        have hfz := D6.out.2.2
        go_simp
        clear hcc hfz
        have o1 : Off (fun k => k = db) u6 (World.setCell (World.setCell (World.setCell (World.setCell (World.setCell (World.setCell (World.setCell (World.setCell (World.setCell u6 ⟨db, 0, none⟩ (.int .i64 0)) ⟨db, 1, none⟩ (.int .i64 0)) ⟨db, 2, none⟩ (.int .u16 s.r.pc)) ⟨db, 3, none⟩ (.int .i64 0)) ⟨db, 4, none⟩ (.int .i64 0)) ⟨db, 5, none⟩ (.int .i64 0)) ⟨db, 6, none⟩ (.int .i64 0)) ⟨db, 7, none⟩ (.int .u16 0)) ⟨db, 8, none⟩ (.bool false)) := Off.put9 u6 db (⟨0, 0, s.r.pc, noOp, false⟩ : DidV)
        have D7 := Lib.hid (show Has (World.setCell (World.setCell (World.setCell (World.setCell (World.setCell (World.setCell (World.setCell (World.setCell (World.setCell u6 ⟨db, 0, none⟩ (.int .i64 0)) ⟨db, 1, none⟩ (.int .i64 0)) ⟨db, 2, none⟩ (.int .u16 s.r.pc)) ⟨db, 3, none⟩ (.int .i64 0)) ⟨db, 4, none⟩ (.int .i64 0)) ⟨db, 5, none⟩ (.int .i64 0)) ⟨db, 6, none⟩ (.int .i64 0)) ⟨db, 7, none⟩ (.int .u16 0)) ⟨db, 8, none⟩ (.bool false)) db #[.int .i64 0, .int .i64 0, .int .u16 s.r.pc, .int .i64 0, .int .i64 0, .int .i64 0, .int .i64 0, .int .u16 0, .bool false] from D6.out.put9 (⟨0, 0, s.r.pc, noOp, false⟩ : DidV))
        have P7 := Lib.hid (P6.out.off o1 (fun e => DP.out e.symm))
        have O7 := Lib.hid (O6.out.trans (o1.below (fun k hk e => by have := LD.out; have e' : k = db := e; omega) O6.out.size))
        clear o1
        refine hK.out _ _ ?s269 (fun hNew => ?r269)
        case s269 => exact ⟨(HS.out.below O7.out).2.1, trivial⟩
        clear hK K hHeld
        have hHeld := hNew
        clear hNew
        generalize (World.setCell (World.setCell (World.setCell (World.setCell (World.setCell (World.setCell (World.setCell (World.setCell (World.setCell u6 ⟨db, 0, none⟩ (.int .i64 0)) ⟨db, 1, none⟩ (.int .i64 0)) ⟨db, 2, none⟩ (.int .u16 s.r.pc)) ⟨db, 3, none⟩ (.int .i64 0)) ⟨db, 4, none⟩ (.int .i64 0)) ⟨db, 5, none⟩ (.int .i64 0)) ⟨db, 6, none⟩ (.int .i64 0)) ⟨db, 7, none⟩ (.int .u16 0)) ⟨db, 8, none⟩ (.bool false)) = u7 at hHeld P7 D7 O7 ⊢
        refine wpAnyH_done (by kernel_rfl) ?_ _
        clear hHeld
        exact HQ.out pb db _ _ _ _ _ _ _ _ _ _ ⟨O7.out, P7.out, D7.out, LP.out, LD.out, DP.out.symm⟩
end Go.Proofs.YtngdogldgcgnjaaGreat
