/-
  What Step does without a table, or without a bus: for every world; no condition.
-/
import Derived.Test.YtngdogldgcgnjaaGreatRegs2
import Derived.Test.YtngdogldgcgnjaaGreatPure
namespace Go.Proofs.YtngdogldgcgnjaaGreat
open Go.ChangeShapes Go.WideShapes Go.ChangeAt Go.RowKit
open Reg
set_option linter.unusedVariables false
set_option maxRecDepth 100000
section
variable {w : World} {R M tb n : Nat} {v : Value} {m : Int → Int} {acc : List Ac}
theorem nilN (w : World) : (binOp .eql 83 .nilIface .nilIface).run Tryz.prog w = .ok (.bool true) w := rfl
theorem Step_nt (s : St) (x : Value) (w : World) : Calls Tryz.prog 14 #[.pointer none, .agg #[.int .u8 s.r.a, .int .u8 s.r.f, .int .u8 s.r.b, .int .u8 s.r.c, .int .u8 s.r.d, .int .u8 s.r.e, .int .u8 s.r.h, .int .u8 s.r.l, .int .u16 s.r.sp, .int .u16 s.r.pc, .bool s.ime, .bool s.soon, .bool s.halt, .bool s.stop], x] w fun e w' => e = .returned (.tuple #[.agg #[.int .u8 s.r.a, .int .u8 s.r.f, .int .u8 s.r.b, .int .u8 s.r.c, .int .u8 s.r.d, .int .u8 s.r.e, .int .u8 s.r.h, .int .u8 s.r.l, .int .u16 s.r.sp, .int .u16 s.r.pc, .bool s.ime, .bool s.soon, .bool s.halt, .bool s.stop], .agg #[.int .i64 0, .int .i64 0, .int .u16 s.r.pc, .int .i64 0, .int .i64 0, .int .i64 0, .int .i64 0, .int .u16 0, .bool false]]) ∧ Below w.heap.size w w' := by
 go_enter Tryz.func14, Tryz.ntmps14
 go_wp2
 exact bodyPost_ret (v := .tuple #[.agg #[.int .u8 s.r.a, .int .u8 s.r.f, .int .u8 s.r.b, .int .u8 s.r.c, .int .u8 s.r.d, .int .u8 s.r.e, .int .u8 s.r.h, .int .u8 s.r.l, .int .u16 s.r.sp, .int .u16 s.r.pc, .bool s.ime, .bool s.soon, .bool s.halt, .bool s.stop], .agg #[.int .i64 0, .int .i64 0, .int .u16 s.r.pc, .int .i64 0, .int .i64 0, .int .i64 0, .int .i64 0, .int .u16 0, .bool false]]) (by simp [results, Tryz.results14, go_sem]) rfl ⟨rfl, own3 _ _ _ _⟩
theorem Step_nb (s : St) (b : Addr) (w : World) : Calls Tryz.prog 14 #[.pointer (some b), .agg #[.int .u8 s.r.a, .int .u8 s.r.f, .int .u8 s.r.b, .int .u8 s.r.c, .int .u8 s.r.d, .int .u8 s.r.e, .int .u8 s.r.h, .int .u8 s.r.l, .int .u16 s.r.sp, .int .u16 s.r.pc, .bool s.ime, .bool s.soon, .bool s.halt, .bool s.stop], .nilIface] w fun e w' => e = .returned (.tuple #[.agg #[.int .u8 s.r.a, .int .u8 s.r.f, .int .u8 s.r.b, .int .u8 s.r.c, .int .u8 s.r.d, .int .u8 s.r.e, .int .u8 s.r.h, .int .u8 s.r.l, .int .u16 s.r.sp, .int .u16 s.r.pc, .bool s.ime, .bool s.soon, .bool s.halt, .bool s.stop], .agg #[.int .i64 0, .int .i64 0, .int .u16 s.r.pc, .int .i64 0, .int .i64 0, .int .i64 0, .int .i64 0, .int .u16 0, .bool false]]) ∧ Below w.heap.size w w' := by
 have hq := nilN
 go_enter Tryz.func14, Tryz.ntmps14
 go_wp2
 exact bodyPost_ret (v := .tuple #[.agg #[.int .u8 s.r.a, .int .u8 s.r.f, .int .u8 s.r.b, .int .u8 s.r.c, .int .u8 s.r.d, .int .u8 s.r.e, .int .u8 s.r.h, .int .u8 s.r.l, .int .u16 s.r.sp, .int .u16 s.r.pc, .bool s.ime, .bool s.soon, .bool s.halt, .bool s.stop], .agg #[.int .i64 0, .int .i64 0, .int .u16 s.r.pc, .int .i64 0, .int .i64 0, .int .i64 0, .int .i64 0, .int .u16 0, .bool false]]) (by simp [results, Tryz.results14, go_sem]) rfl ⟨rfl, own3 _ _ _ _⟩
end
end Go.Proofs.YtngdogldgcgnjaaGreat
