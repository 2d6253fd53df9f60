/-
  What the processor's smallest calls do: for every world; the processor is there.
-/
import Derived.Test.YtngdogldgcgnjaaGreatNext
namespace Go.Proofs.YtngdogldgcgnjaaGreat
open Go.ChangeShapes Go.WideShapes Go.ChangeAt Go.RowKit
open Reg
set_option linter.unusedVariables false
set_option maxRecDepth 100000
section
variable {w : World} {P R M tb n : Nat} {v : Value} {y : Sy}
theorem read_p (h : Sys procD ramC w P R M tb v y n) (hn : n < 999999) (a : Int) (a0 : 0 ≤ a) (a1 : a < 65536) : Calls Tryz.prog 176 #[.pointer (some ⟨R, 0, none⟩), .int .u16 a] w (PE procD ramC P R M tb v w (.int .u8 (y.m a)) (rd 1 a y) (n + 1)) :=
  (read_b h.bus (by omega) a a0 a1).mono fun e w' ⟨he, v', b, m⟩ => ⟨he, v', (h.setBus b m).1, (h.setBus b m).2⟩
theorem write_p (h : Sys procD ramC w P R M tb v y n) (hn : n < 999999) (a x : Int) (a0 : 0 ≤ a) (a1 : a < 65536) (x0 : 0 ≤ x) (x1 : x < 256) : Calls Tryz.prog 177 #[.pointer (some ⟨R, 0, none⟩), .int .u16 a, .int .u8 x] w (PE procD ramC P R M tb v w (.tuple #[]) (wr a x y) (n + 1)) :=
  (write_b h.bus (by omega) a x a0 a1 x0 x1).mono fun e w' ⟨he, v', b, m⟩ => ⟨he, v', (h.setBus b m).1, (h.setBus b m).2⟩
theorem idle_p (h : Sys procD ramC w P R M tb v y n) (hn : n < 999999) : Calls Tryz.prog 174 #[.pointer (some ⟨R, 0, none⟩)] w (PE procD ramC P R M tb v w (.tuple #[]) (idle y) (n + 1)) :=
  (idle_b h.bus (by omega)).mono fun e w' ⟨he, v', b, m⟩ => ⟨he, v', (h.setBus b m).1, (h.setBus b m).2⟩
theorem ack_p (h : Sys procD ramC w P R M tb v y n) (k : Nat) (hk : k < 5) : Calls Tryz.prog 172 #[.pointer (some ⟨R, 0, none⟩), .int .i64 k] w (PE procD ramC P R M tb v w (.tuple #[]) (setM (ackM k y.m) y) n) :=
  (ack_b h.bus k hk).mono fun e w' ⟨he, v', b, m⟩ => ⟨he, v', (h.setBus b m).1, (h.setBus b m).2⟩
theorem pend_p (h : Sys procD ramC w P R M tb v y n) : Calls Tryz.prog 175 #[.pointer (some ⟨R, 0, none⟩)] w (PE procD ramC P R M tb v w (.int .u8 (pend y.m)) y n) :=
  (pend_b h.bus).mono fun e w' ⟨he, hw⟩ => ⟨he, v, hw ▸ h.drew, hw ▸ PM.drew P R M tb v w⟩
theorem dn_w (x : Int) : IntKind.u16.wrap (x - 1) = dn x := IntKind.wrap_u16 _
theorem up_w (x : Int) : IntKind.u16.wrap (x + 1) = up x := IntKind.wrap_u16 _
theorem dn_b (x : Int) : 0 ≤ dn x ∧ dn x < 65536 := by unfold dn; omega
theorem up_b (x : Int) : 0 ≤ up x ∧ up x < 65536 := by unfold up; omega
theorem pairV_b {r : RR} (h : r.ok) (k : Int) : 0 ≤ pairV r k ∧ pairV r k < 65536 := by
  obtain ⟨a, f, b, c, d, e, hh, l, s, p⟩ := h
  unfold pairV
  repeat (first | omega | split)
theorem getV_b {r : RR} (h : r.ok) (k : Int) : 0 ≤ getV r k ∧ getV r k < 256 := by
  obtain ⟨a, f, b, c, d, e, hh, l, s, p⟩ := h
  unfold getV
  repeat (first | omega | split)
theorem setP_ok {r : RR} (h : r.ok) (k x : Int) (x0 : 0 ≤ x) (x1 : x < 65536) : (setP r k x).ok := by
  obtain ⟨a, f, b, c, d, e, hh, l, s, p⟩ := h
  unfold setP
  repeat (first | (refine ⟨?_, ?_, ?_, ?_, ?_, ?_, ?_, ?_, ?_, ?_⟩ <;> simp only [noR] <;> omega) | split)
theorem setR_ok {r : RR} (h : r.ok) (k x : Int) (x0 : 0 ≤ x) (x1 : x < 256) : (setR r k x).ok := by
  obtain ⟨a, f, b, c, d, e, hh, l, s, p⟩ := h
  unfold setR
  repeat (first | (refine ⟨?_, ?_, ?_, ?_, ?_, ?_, ?_, ?_, ?_, ?_⟩ <;> simp only [noR] <;> omega) | split)
theorem Sys.okm {D : Nat → Array Value} {C : Nat → Int → Value → Array Value} (h : Sys D C w P R M tb v y n) (a : Int) : 0 ≤ y.m a ∧ y.m a < 256 := h.bus.okm a
theorem Sys.getb {D : Nat → Array Value} {C : Nat → Int → Value → Array Value} (h : Sys D C w P R M tb v y n) (k : Int) : 0 ≤ getY k y ∧ getY k y < 256 := by
  unfold getY; split
  · exact h.okm _
  · exact getV_b h.ok k
theorem Sys.hlb {D : Nat → Array Value} {C : Nat → Int → Value → Array Value} (h : Sys D C w P R M tb v y n) : 0 ≤ hlV y ∧ hlV y < 65536 := pairV_b h.ok 2
set_option maxHeartbeats 2000000 in
theorem pair_p (h0 : Sys procD ramC w P R M tb v y n) (hn : n < 999999) (k : Int) : Calls Tryz.prog 76 #[.pointer (some ⟨P, 0, none⟩), .int .i64 k] w (PE procD ramC P R M tb v w (.int .u16 (pairV y.s.r k)) (y) (n + 0)) := by
  have S0 := Lib.hid h0
  have M0 := Lib.hid (PM.refl P R M tb v w)
  obtain ⟨hc, hf⟩ := h0.cp
  clear h0
  go_enter Tryz.func76, Tryz.ntmps76
  go_wp2_with fail
  with_reducible refine (pair_c y.s.r k S0.out.ok _).mono ?_
  rintro e w1 ⟨rfl, hb⟩
  have HB := Lib.hid hb
  clear hb
  go_wp2
  go_ret
  exact ⟨rfl, v, S0.out.below HB.out, M0.out.trans (PM.of HB.out)⟩
set_option maxHeartbeats 2000000 in
theorem kept_p (h0 : Sys procD ramC w P R M tb v y n) (hn : n < 999999) (k : Int) : Calls Tryz.prog 99 #[.pointer (some ⟨P, 0, none⟩), .int .u8 k] w (PE procD ramC P R M tb v w (.int .u8 (bits .and .u8 y.s.r.f k)) (y) (n + 0)) := by
  have S0 := Lib.hid h0
  have M0 := Lib.hid (PM.refl P R M tb v w)
  obtain ⟨hc, hf⟩ := h0.cp
  clear h0
  go_enter Tryz.func99, Tryz.ntmps99
  go_wp2
  go_ret
  exact ⟨rfl, v, S0.out, M0.out⟩
set_option maxHeartbeats 2000000 in
theorem setPair_p (h0 : Sys procD ramC w P R M tb v y n) (hn : n < 999999) (k x : Int) (x0 : 0 ≤ x) (x1 : x < 65536) : Calls Tryz.prog 78 #[.pointer (some ⟨P, 0, none⟩), .int .i64 k, .int .u16 x] w (PE procD ramC P R M tb v w (.tuple #[]) (pairS k x y) (n + 0)) := by
  have S0 := Lib.hid h0
  have M0 := Lib.hid (PM.refl P R M tb v w)
  obtain ⟨hc, hf⟩ := h0.cp
  clear h0
  go_enter Tryz.func78, Tryz.ntmps78
  go_wp2_with fail
  with_reducible refine (setPair_c y.s.r k x x0 x1 _).mono ?_
  rintro e w1 ⟨rfl, hb⟩
  have s1 := S0.out.below hb
  clear hc hf
  obtain ⟨hc, hf⟩ := s1.cp
  have Q := Lib.hid (s1.stR (setP y.s.r k x) (setP_ok S0.out.ok k x x0 x1))
  have HB := Lib.hid hb
  clear hb s1
  go_wp2
  go_end0
  exact ⟨rfl, v, Q.out.1, (M0.out.trans (PM.of HB.out)).trans Q.out.2⟩
end
end Go.Proofs.YtngdogldgcgnjaaGreat
