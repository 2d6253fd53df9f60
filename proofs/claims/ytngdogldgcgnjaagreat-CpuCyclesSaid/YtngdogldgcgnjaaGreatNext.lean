/-
  What (*processor).next, and the stack's calls do: for every world; the processor is there.
-/
import Derived.Test.YtngdogldgcgnjaaGreatSys
namespace Go.Proofs.YtngdogldgcgnjaaGreat
open Go.ChangeShapes Go.WideShapes Go.ChangeAt Go.RowKit
open Reg
set_option linter.unusedVariables false
set_option maxRecDepth 100000
def procD (R : Nat) : Array Value := #[.iface 31 (.pointer (some ⟨R, 0, none⟩))]
theorem mF (a : Addr) (w : World) : (method 298 31 (.pointer (some a)) "Fetch").run Tryz.prog w = .ok (173, .pointer (some a)) w := by kernel_rfl
theorem mR (a : Addr) (w : World) : (method 298 31 (.pointer (some a)) "Read").run Tryz.prog w = .ok (176, .pointer (some a)) w := by kernel_rfl
theorem mW (a : Addr) (w : World) : (method 298 31 (.pointer (some a)) "Write").run Tryz.prog w = .ok (177, .pointer (some a)) w := by kernel_rfl
theorem mI (a : Addr) (w : World) : (method 298 31 (.pointer (some a)) "Idle").run Tryz.prog w = .ok (174, .pointer (some a)) w := by kernel_rfl
theorem mP (a : Addr) (w : World) : (method 298 31 (.pointer (some a)) "Pending").run Tryz.prog w = .ok (175, .pointer (some a)) w := by kernel_rfl
theorem mA (a : Addr) (w : World) : (method 298 31 (.pointer (some a)) "Ack").run Tryz.prog w = .ok (172, .pointer (some a)) w := by kernel_rfl
section
variable {w : World} {P R M tb n : Nat} {v : Value} {y : Sy}
theorem Sys.cp (h : Sys procD ramC w P R M tb v y n) : (∀ o, w.cell? ⟨P, o, none⟩ = #[.int .u8 y.s.r.a, .int .u8 y.s.r.f, .int .u8 y.s.r.b, .int .u8 y.s.r.c, .int .u8 y.s.r.d, .int .u8 y.s.r.e, .int .u8 y.s.r.h, .int .u8 y.s.r.l, .int .u16 y.s.r.sp, .int .u16 y.s.r.pc, .bool y.s.ime, .bool y.s.soon, .bool y.s.halt, .bool y.s.stop, .iface 31 (.pointer (some ⟨R, 0, none⟩))][o]?) ∧ (∀ o, w.frozen? ⟨P, o, none⟩ = false) := ⟨h.reg.2.1, h.reg.2.2⟩
theorem Sys.drew {D : Nat → Array Value} {C : Nat → Int → Value → Array Value} (h : Sys D C w P R M tb v y n) : Sys D C w.drew P R M tb v y n := h.below (Below.refl _ _).drew
theorem PM.drew (P R M tb : Nat) (v : Value) (w : World) : PM P R M tb v w v w.drew := PM.of (Below.refl _ _).drew
theorem Sys.pcb {D : Nat → Array Value} {C : Nat → Int → Value → Array Value} (h : Sys D C w P R M tb v y n) : 0 ≤ y.s.r.pc ∧ y.s.r.pc < 65536 := h.ok.2.2.2.2.2.2.2.2.2
theorem Sys.spb {D : Nat → Array Value} {C : Nat → Int → Value → Array Value} (h : Sys D C w P R M tb v y n) : 0 ≤ y.s.r.sp ∧ y.s.r.sp < 65536 := h.ok.2.2.2.2.2.2.2.2.1
theorem wr16 (x : Int) : 0 ≤ IntKind.u16.wrap x ∧ IntKind.u16.wrap x < 65536 := by rw [IntKind.wrap_u16]; omega

set_option maxHeartbeats 1000000 in
theorem next_c (h0 : Sys procD ramC w P R M tb v y n) (hn : n < 900000) :
    Calls Tryz.prog 70 #[.pointer (some ⟨P, 0, none⟩)] w (PE procD ramC P R M tb v w (.int .u8 (y.m y.s.r.pc)) (fetch1 y) (n + 1)) := by
  obtain ⟨hc, hf⟩ := h0.drew.cp
  have hm := mF ⟨R, 0, none⟩
  have S0 := Lib.hid h0.drew
  have M0 := Lib.hid (PM.drew P R M tb v w)
  clear h0
  go_enter Tryz.func70, Tryz.ntmps70
  go_wp2
  go_still_tail 12, (by kernel_rfl)
  change wpList _ _ _ _ _ w.drew
  generalize w.drew = w0 at hc hf S0 M0 ⊢
  go_wp2_with fail
  with_reducible refine (fetch_b S0.out.bus (by omega) _ S0.out.pcb.1 S0.out.pcb.2).mono ?_
  rintro e V1 ⟨rfl, v1, b1, m1⟩
  obtain ⟨s1, n1⟩ := S0.out.setBus b1 m1
  have M1 := Lib.hid (M0.out.trans n1)
  have S1 := Lib.hid s1
  clear hc hf
  obtain ⟨hc, hf⟩ := s1.cp
  have S2 := Lib.hid (s1.stPC (IntKind.u16.wrap (y.s.r.pc + 1)) (wr16 _).1 (wr16 _).2)
  clear s1 n1 b1 m1 M0 S0
  go_wp2
  go_ret
  refine ⟨rfl, v1, ?_, M1.out.trans S2.out.2⟩
  have e : fetch1 y = setPC (IntKind.u16.wrap (y.s.r.pc + 1)) { y with m := y.m, acc := y.acc ++ [⟨3, y.s.r.pc, y.m y.s.r.pc⟩] } := by rw [IntKind.wrap_u16]; rfl
  rw [e]
  exact S2.out.1
end
end Go.Proofs.YtngdogldgcgnjaaGreat
