/-
  What (*processor).next, and the stack's calls do: for every world; the processor is there. (Some texts in one.)
  (Some texts in one.)
-/
import Derived.Test.YtngdogldgcgnjaaGreatZ09
set_option maxRecDepth 100000
set_option maxHeartbeats 8000000
namespace Go.Proofs.YtngdogldgcgnjaaGreat
open Go.ChangeShapes Go.WideShapes Go.ChangeAt Go.RowKit
open Reg
set_option linter.unusedVariables false
def procD (R : Nat) : Array Value := #[.iface 31 (.pointer (some ⟨R, 0, none⟩))]
theorem mF (a : Addr) (w : World) : (method 298 31 (.pointer (some a)) "Fetch").run Tryz.prog w = .ok (173, .pointer (some a)) w := by kernel_rfl
theorem mR (a : Addr) (w : World) : (method 298 31 (.pointer (some a)) "Read").run Tryz.prog w = .ok (176, .pointer (some a)) w := by kernel_rfl
theorem mW (a : Addr) (w : World) : (method 298 31 (.pointer (some a)) "Write").run Tryz.prog w = .ok (177, .pointer (some a)) w := by kernel_rfl
theorem mI (a : Addr) (w : World) : (method 298 31 (.pointer (some a)) "Idle").run Tryz.prog w = .ok (174, .pointer (some a)) w := by kernel_rfl
theorem mP (a : Addr) (w : World) : (method 298 31 (.pointer (some a)) "Pending").run Tryz.prog w = .ok (175, .pointer (some a)) w := by kernel_rfl
theorem mA (a : Addr) (w : World) : (method 298 31 (.pointer (some a)) "Ack").run Tryz.prog w = .ok (172, .pointer (some a)) w := by kernel_rfl
section
variable {w : World} {P R M tb n : Nat} {v : Value} {y : Sy}
theorem Sys.cp (h : Sys procD ramC w P R M tb v y n) : (∀ o, w.cell? ⟨P, o, none⟩ = #[.int .u8 y.s.r.a, .int .u8 y.s.r.f, .int .u8 y.s.r.b, .int .u8 y.s.r.c, .int .u8 y.s.r.d, .int .u8 y.s.r.e, .int .u8 y.s.r.h, .int .u8 y.s.r.l, .int .u16 y.s.r.sp, .int .u16 y.s.r.pc, .bool y.s.ime, .bool y.s.soon, .bool y.s.halt, .bool y.s.stop, .iface 31 (.pointer (some ⟨R, 0, none⟩))][o]?) ∧ (∀ o, w.frozen? ⟨P, o, none⟩ = false) := ⟨h.reg.2.1, h.reg.2.2⟩
theorem Sys.drew {D : Nat → Array Value} {C : Nat → Int → Value → Array Value} (h : Sys D C w P R M tb v y n) : Sys D C w.drew P R M tb v y n := h.below (Below.refl _ _).drew
theorem PM.drew (P R M tb : Nat) (v : Value) (w : World) : PM P R M tb v w v w.drew := PM.of (Below.refl _ _).drew
theorem Sys.pcb {D : Nat → Array Value} {C : Nat → Int → Value → Array Value} (h : Sys D C w P R M tb v y n) : 0 ≤ y.s.r.pc ∧ y.s.r.pc < 65536 := h.ok.2.2.2.2.2.2.2.2.2
theorem Sys.spb {D : Nat → Array Value} {C : Nat → Int → Value → Array Value} (h : Sys D C w P R M tb v y n) : 0 ≤ y.s.r.sp ∧ y.s.r.sp < 65536 := h.ok.2.2.2.2.2.2.2.2.1
theorem wr16 (x : Int) : 0 ≤ IntKind.u16.wrap x ∧ IntKind.u16.wrap x < 65536 := by rw [IntKind.wrap_u16]; omega
theorem next_c (h0 : Sys procD ramC w P R M tb v y n) (hn : n < 900000) :
  Calls Tryz.prog 70 #[.pointer (some ⟨P, 0, none⟩)] w (PE procD ramC P R M tb v w (.int .u8 (y.m y.s.r.pc)) (fetch1 y) (n + 1)) := by
 obtain ⟨hc, hf⟩ := h0.drew.cp; have hm := mF ⟨R, 0, none⟩; have S0 := Lib.hid h0.drew; have M0 := Lib.hid (PM.drew P R M tb v w); clear h0; go_enter Tryz.func70, Tryz.ntmps70; go_wp2
 go_still_tail 12, (by kernel_rfl)
 change wpList _ _ _ _ _ w.drew
 generalize w.drew = w0 at hc hf S0 M0 ⊢; go_wp2_with fail
 with_reducible refine (fetch_b S0.out.bus (by omega) _ S0.out.pcb.1 S0.out.pcb.2).mono ?_
 rintro e V1 ⟨rfl, v1, b1, m1⟩; obtain ⟨s1, n1⟩ := S0.out.setBus b1 m1; have M1 := Lib.hid (M0.out.trans n1); have S1 := Lib.hid s1; clear hc hf; obtain ⟨hc, hf⟩ := s1.cp; have S2 := Lib.hid (s1.stPC (IntKind.u16.wrap (y.s.r.pc + 1)) (wr16 _).1 (wr16 _).2); clear s1 n1 b1 m1 M0 S0; go_wp2; go_ret
 refine ⟨rfl, v1, ?_, M1.out.trans S2.out.2⟩
 have e : fetch1 y = setPC (IntKind.u16.wrap (y.s.r.pc + 1)) { y with m := y.m, acc := y.acc ++ [⟨3, y.s.r.pc, y.m y.s.r.pc⟩] } := by rw [IntKind.wrap_u16]; rfl
 rw [e]
 exact S2.out.1
end
end Go.Proofs.YtngdogldgcgnjaaGreat
namespace Go.Proofs.YtngdogldgcgnjaaGreat
open Go.ChangeShapes Go.WideShapes Go.ChangeAt Go.RowKit
open Reg
set_option linter.unusedVariables false
section
variable {w : World} {P R M tb n : Nat} {v : Value} {y : Sy}
theorem read_p (h : Sys procD ramC w P R M tb v y n) (hn : n < 999999) (a : Int) (a0 : 0 ≤ a) (a1 : a < 65536) : Calls Tryz.prog 176 #[.pointer (some ⟨R, 0, none⟩), .int .u16 a] w (PE procD ramC P R M tb v w (.int .u8 (y.m a)) (rd 1 a y) (n + 1)) :=
 (read_b h.bus (by omega) a a0 a1).mono fun e w' ⟨he, v', b, m⟩ => ⟨he, v', (h.setBus b m).1, (h.setBus b m).2⟩
theorem write_p (h : Sys procD ramC w P R M tb v y n) (hn : n < 999999) (a x : Int) (a0 : 0 ≤ a) (a1 : a < 65536) (x0 : 0 ≤ x) (x1 : x < 256) : Calls Tryz.prog 177 #[.pointer (some ⟨R, 0, none⟩), .int .u16 a, .int .u8 x] w (PE procD ramC P R M tb v w (.tuple #[]) (wr a x y) (n + 1)) :=
 (write_b h.bus (by omega) a x a0 a1 x0 x1).mono fun e w' ⟨he, v', b, m⟩ => ⟨he, v', (h.setBus b m).1, (h.setBus b m).2⟩
theorem idle_p (h : Sys procD ramC w P R M tb v y n) (hn : n < 999999) : Calls Tryz.prog 174 #[.pointer (some ⟨R, 0, none⟩)] w (PE procD ramC P R M tb v w (.tuple #[]) (idle y) (n + 1)) :=
 (idle_b h.bus (by omega)).mono fun e w' ⟨he, v', b, m⟩ => ⟨he, v', (h.setBus b m).1, (h.setBus b m).2⟩
theorem ack_p (h : Sys procD ramC w P R M tb v y n) (k : Nat) (hk : k < 5) : Calls Tryz.prog 172 #[.pointer (some ⟨R, 0, none⟩), .int .i64 k] w (PE procD ramC P R M tb v w (.tuple #[]) (setM (ackM k y.m) y) n) :=
 (ack_b h.bus k hk).mono fun e w' ⟨he, v', b, m⟩ => ⟨he, v', (h.setBus b m).1, (h.setBus b m).2⟩
theorem pend_p (h : Sys procD ramC w P R M tb v y n) : Calls Tryz.prog 175 #[.pointer (some ⟨R, 0, none⟩)] w (PE procD ramC P R M tb v w (.int .u8 (pend y.m)) y n) :=
 (pend_b h.bus).mono fun e w' ⟨he, hw⟩ => ⟨he, v, hw ▸ h.drew, hw ▸ PM.drew P R M tb v w⟩
theorem dn_w (x : Int) : IntKind.u16.wrap (x - 1) = dn x := IntKind.wrap_u16 _
theorem up_w (x : Int) : IntKind.u16.wrap (x + 1) = up x := IntKind.wrap_u16 _
theorem dn_b (x : Int) : 0 ≤ dn x ∧ dn x < 65536 := by unfold dn; omega
theorem up_b (x : Int) : 0 ≤ up x ∧ up x < 65536 := by unfold up; omega
theorem pairV_b {r : RR} (h : r.ok) (k : Int) : 0 ≤ pairV r k ∧ pairV r k < 65536 := by
 obtain ⟨a, f, b, c, d, e, hh, l, s, p⟩ := h
 unfold pairV
 repeat (first | omega | split)
theorem getV_b {r : RR} (h : r.ok) (k : Int) : 0 ≤ getV r k ∧ getV r k < 256 := by
 obtain ⟨a, f, b, c, d, e, hh, l, s, p⟩ := h
 unfold getV
 repeat (first | omega | split)
theorem setP_ok {r : RR} (h : r.ok) (k x : Int) (x0 : 0 ≤ x) (x1 : x < 65536) : (setP r k x).ok := by
 obtain ⟨a, f, b, c, d, e, hh, l, s, p⟩ := h
 unfold setP
 repeat (first | (refine ⟨?_, ?_, ?_, ?_, ?_, ?_, ?_, ?_, ?_, ?_⟩ <;> simp only [noR] <;> omega) | split)
theorem setR_ok {r : RR} (h : r.ok) (k x : Int) (x0 : 0 ≤ x) (x1 : x < 256) : (setR r k x).ok := by
 obtain ⟨a, f, b, c, d, e, hh, l, s, p⟩ := h
 unfold setR
 repeat (first | (refine ⟨?_, ?_, ?_, ?_, ?_, ?_, ?_, ?_, ?_, ?_⟩ <;> simp only [noR] <;> omega) | split)
theorem Sys.okm {D : Nat → Array Value} {C : Nat → Int → Value → Array Value} (h : Sys D C w P R M tb v y n) (a : Int) : 0 ≤ y.m a ∧ y.m a < 256 := h.bus.okm a
theorem Sys.getb {D : Nat → Array Value} {C : Nat → Int → Value → Array Value} (h : Sys D C w P R M tb v y n) (k : Int) : 0 ≤ getY k y ∧ getY k y < 256 := by
 unfold getY; split
 ·exact h.okm _
 ·exact getV_b h.ok k
theorem Sys.hlb {D : Nat → Array Value} {C : Nat → Int → Value → Array Value} (h : Sys D C w P R M tb v y n) : 0 ≤ hlV y ∧ hlV y < 65536 := pairV_b h.ok 2
theorem pair_p (h0 : Sys procD ramC w P R M tb v y n) (hn : n < 999999) (k : Int) : Calls Tryz.prog 76 #[.pointer (some ⟨P, 0, none⟩), .int .i64 k] w (PE procD ramC P R M tb v w (.int .u16 (pairV y.s.r k)) (y) (n + 0)) := by
 have S0 := Lib.hid h0; have M0 := Lib.hid (PM.refl P R M tb v w); obtain ⟨hc, hf⟩ := h0.cp; clear h0; go_enter Tryz.func76, Tryz.ntmps76; go_wp2_with fail
 with_reducible refine (pair_c y.s.r k S0.out.ok _).mono ?_
 rintro e w1 ⟨rfl, hb⟩; have HB := Lib.hid hb; clear hb; go_wp2; go_ret
 exact ⟨rfl, v, S0.out.below HB.out, M0.out.trans (PM.of HB.out)⟩
theorem kept_p (h0 : Sys procD ramC w P R M tb v y n) (hn : n < 999999) (k : Int) : Calls Tryz.prog 99 #[.pointer (some ⟨P, 0, none⟩), .int .u8 k] w (PE procD ramC P R M tb v w (.int .u8 (bits .and .u8 y.s.r.f k)) (y) (n + 0)) := by
 have S0 := Lib.hid h0; have M0 := Lib.hid (PM.refl P R M tb v w); obtain ⟨hc, hf⟩ := h0.cp; clear h0; go_enter Tryz.func99, Tryz.ntmps99; go_wp2; go_ret
 exact ⟨rfl, v, S0.out, M0.out⟩
theorem setPair_p (h0 : Sys procD ramC w P R M tb v y n) (hn : n < 999999) (k x : Int) (x0 : 0 ≤ x) (x1 : x < 65536) : Calls Tryz.prog 78 #[.pointer (some ⟨P, 0, none⟩), .int .i64 k, .int .u16 x] w (PE procD ramC P R M tb v w (.tuple #[]) (pairS k x y) (n + 0)) := by
 have S0 := Lib.hid h0; have M0 := Lib.hid (PM.refl P R M tb v w); obtain ⟨hc, hf⟩ := h0.cp; clear h0; go_enter Tryz.func78, Tryz.ntmps78; go_wp2_with fail
 with_reducible refine (setPair_c y.s.r k x x0 x1 _).mono ?_
 rintro e w1 ⟨rfl, hb⟩; have s1 := S0.out.below hb; clear hc hf; obtain ⟨hc, hf⟩ := s1.cp; have Q := Lib.hid (s1.stR (setP y.s.r k x) (setP_ok S0.out.ok k x x0 x1)); have HB := Lib.hid hb; clear hb s1; go_wp2
 go_end0
 exact ⟨rfl, v, Q.out.1, (M0.out.trans (PM.of HB.out)).trans Q.out.2⟩
end
end Go.Proofs.YtngdogldgcgnjaaGreat
namespace Go.Proofs.YtngdogldgcgnjaaGreat
open Go.ChangeShapes Go.WideShapes Go.ChangeAt Go.RowKit
open Reg
set_option linter.unusedVariables false
section
variable {w : World} {P R M tb n : Nat} {v : Value} {y : Sy}
theorem or16n (h l : Int) (h1 : 0 ≤ h) (h2 : h < 256) (h3 : 0 ≤ l) (h4 : l < 256) : bits .or .u16 (h * 256) l = h * 256 + l := Reg.or16 h l h1 h2 h3 h4
theorem store_p (h0 : Sys procD ramC w P R M tb v y n) (hn : n < 990000) (x : Int) (x0 : 0 ≤ x) (x1 : x < 65536) : Calls Tryz.prog 52 #[.pointer (some ⟨P, 0, none⟩), .int .u16 x] w (PE procD ramC P R M tb v w (.tuple #[]) (storeS x y) (n + 2)) := by
 have hw := dn_w y.s.r.sp; have hm := mW ⟨R, 0, none⟩; have S0 := Lib.hid h0; have M0 := Lib.hid (PM.refl P R M tb v w); obtain ⟨hc, hf⟩ := h0.cp; clear h0; go_enter Tryz.func52, Tryz.ntmps52; go_wp2; clear hw; have q := S0.out.stSP (dn y.s.r.sp) (dn_b _).1 (dn_b _).2; have s' := q.1; have m' := q.2; clear q; generalize (World.setCell w ⟨P, 8, none⟩ (.int .u16 (dn y.s.r.sp))) = w1 at s' m' ⊢; have M1 := M0.tr m'; obtain ⟨y1, hy⟩ : ∃ q_, q_ = setSP (dn y.s.r.sp) y := ⟨_, rfl⟩; rw [← hy] at s'; have Y1 := Lib.hid hy; clear hc hf; obtain ⟨hc, hf⟩ := s'.cp; have S1 := Lib.hid s'; clear s' m' hy
 have hs1 : y1.s.r.sp = dn y.s.r.sp := by rw [Y1.out]; rfl
 have HS1 := Lib.hid hs1; clear hs1; have S1' := Lib.hid S1.out.drew; have M1' := Lib.hid (M1.out.trans (PM.drew P R M tb v w1)); clear hc hf; obtain ⟨hc, hf⟩ := S1'.out.cp
 go_still_tail 15, (by kernel_rfl)
 change wpList _ _ _ _ _ (World.drew w1)
 generalize World.drew w1 = u1 at hc hf S1' M1' ⊢; clear S1 M1; have S1 := S1'; have M1 := M1'; clear S1' M1'; go_wp2_with fail
 with_reducible refine (write_p S1.out (by omega) y1.s.r.sp (x / 256) S1.out.spb.1 S1.out.spb.2 (by omega) (by omega)).mono ?_
 rintro e w2 ⟨rfl, v2, s', m'⟩; have M2 := M1.tr m'; obtain ⟨y2, hy⟩ : ∃ q_, q_ = wr y1.s.r.sp (x / 256) y1 := ⟨_, rfl⟩; rw [← hy] at s'; have Y2 := Lib.hid hy; clear hc hf; obtain ⟨hc, hf⟩ := s'.cp; have S2 := Lib.hid s'; clear s' m' hy; have hw := dn_w y2.s.r.sp; go_wp2; clear hw; have q := S2.out.stSP (dn y2.s.r.sp) (dn_b _).1 (dn_b _).2; have s' := q.1; have m' := q.2; clear q; generalize (World.setCell w2 ⟨P, 8, none⟩ (.int .u16 (dn y2.s.r.sp))) = w3 at s' m' ⊢; have M3 := M2.tr m'; obtain ⟨y3, hy⟩ : ∃ q_, q_ = setSP (dn y2.s.r.sp) y2 := ⟨_, rfl⟩; rw [← hy] at s'; have Y3 := Lib.hid hy; clear hc hf; obtain ⟨hc, hf⟩ := s'.cp; have S3 := Lib.hid s'; clear s' m' hy; have S3' := Lib.hid S3.out.drew; have M3' := Lib.hid (M3.out.trans (PM.drew P R M tb v2 w3)); clear hc hf; obtain ⟨hc, hf⟩ := S3'.out.cp
 go_still_tail 14, (by kernel_rfl)
 change wpList _ _ _ _ _ (World.drew w3)
 generalize World.drew w3 = u3 at hc hf S3' M3' ⊢; clear S3 M3; have S3 := S3'; have M3 := M3'; clear S3' M3'; go_wp2_with fail
 with_reducible refine (write_p S3.out (by omega) y3.s.r.sp (x % 256) S3.out.spb.1 S3.out.spb.2 (by omega) (by omega)).mono ?_
 rintro e w4 ⟨rfl, v4, s', m'⟩; have M4 := M3.tr m'; obtain ⟨y4, hy⟩ : ∃ q_, q_ = wr y3.s.r.sp (x % 256) y3 := ⟨_, rfl⟩; rw [← hy] at s'; have Y4 := Lib.hid hy; clear hc hf; obtain ⟨hc, hf⟩ := s'.cp; have S4 := Lib.hid s'; clear s' m' hy; go_wp2
 go_end0
 refine ⟨rfl, v4, ?_, M4.out⟩
 have q := S4.out; have e := Y4.out.symm; subst e; have e := Y3.out.symm; subst e; have e := Y2.out.symm; subst e; have e := Y1.out.symm; subst e
 exact q.mo
theorem push_p (h0 : Sys procD ramC w P R M tb v y n) (hn : n < 980000) (x : Int) (x0 : 0 ≤ x) (x1 : x < 65536) : Calls Tryz.prog 77 #[.pointer (some ⟨P, 0, none⟩), .int .u16 x] w (PE procD ramC P R M tb v w (.tuple #[]) (pushS x y) (n + 3)) := by
 have hm := mI ⟨R, 0, none⟩; have S0 := Lib.hid h0; have M0 := Lib.hid (PM.refl P R M tb v w); obtain ⟨hc, hf⟩ := h0.cp; clear h0; go_enter Tryz.func77, Tryz.ntmps77; go_wp2_with fail
 with_reducible refine (idle_p S0.out (by omega)).mono ?_
 rintro e w1 ⟨rfl, v1, s', m'⟩; have M1 := M0.tr m'; obtain ⟨y1, hy⟩ : ∃ q_, q_ = idle y := ⟨_, rfl⟩; rw [← hy] at s'; have Y1 := Lib.hid hy; clear hc hf; obtain ⟨hc, hf⟩ := s'.cp; have S1 := Lib.hid s'; clear s' m' hy; go_wp2_with fail
 with_reducible refine (store_p S1.out (by omega) x x0 x1).mono ?_
 rintro e w2 ⟨rfl, v2, s', m'⟩; have M2 := M1.tr m'; obtain ⟨y2, hy⟩ : ∃ q_, q_ = storeS x y1 := ⟨_, rfl⟩; rw [← hy] at s'; have Y2 := Lib.hid hy; clear hc hf; obtain ⟨hc, hf⟩ := s'.cp; have S2 := Lib.hid s'; clear s' m' hy; go_wp2
 go_end0
 refine ⟨rfl, v2, ?_, M2.out⟩
 have q := S2.out; have e := Y2.out.symm; subst e; have e := Y1.out.symm; subst e
 exact q.mo
theorem pop_p (h0 : Sys procD ramC w P R M tb v y n) (hn : n < 990000) : Calls Tryz.prog 79 #[.pointer (some ⟨P, 0, none⟩)] w (PE procD ramC P R M tb v w (.int .u16 (popV y)) (popS y) (n + 2)) := by
 have hm := mR ⟨R, 0, none⟩; have S0 := Lib.hid h0; have M0 := Lib.hid (PM.refl P R M tb v w); obtain ⟨hc, hf⟩ := h0.cp; clear h0; go_enter Tryz.func79, Tryz.ntmps79; go_wp2; have S0' := Lib.hid S0.out.drew; have M0' := Lib.hid (M0.out.trans (PM.drew P R M tb v w)); clear hc hf; obtain ⟨hc, hf⟩ := S0'.out.cp
 go_still_tail 12, (by kernel_rfl)
 change wpList _ _ _ _ _ (World.drew w)
 generalize World.drew w = u0 at hc hf S0' M0' ⊢; clear S0 M0; have S0 := S0'; have M0 := M0'; clear S0' M0'; go_wp2_with fail
 with_reducible refine (read_p S0.out (by omega) y.s.r.sp S0.out.spb.1 S0.out.spb.2).mono ?_
 rintro e w1 ⟨rfl, v1, s', m'⟩; have M1 := M0.tr m'; obtain ⟨y1, hy⟩ : ∃ q_, q_ = rd 1 y.s.r.sp y := ⟨_, rfl⟩; rw [← hy] at s'; have Y1 := Lib.hid hy; clear hc hf; obtain ⟨hc, hf⟩ := s'.cp; have S1 := Lib.hid s'; clear s' m' hy; have hw := up_w y1.s.r.sp; go_wp2; clear hw; have q := S1.out.stSP (up y1.s.r.sp) (up_b _).1 (up_b _).2; have s' := q.1; have m' := q.2; clear q; generalize (World.setCell w1 ⟨P, 8, none⟩ (.int .u16 (up y1.s.r.sp))) = w2 at s' m' ⊢; have M2 := M1.tr m'; obtain ⟨y2, hy⟩ : ∃ q_, q_ = setSP (up y1.s.r.sp) y1 := ⟨_, rfl⟩; rw [← hy] at s'; have Y2 := Lib.hid hy; clear hc hf; obtain ⟨hc, hf⟩ := s'.cp; have S2 := Lib.hid s'; clear s' m' hy; have S2' := Lib.hid S2.out.drew; have M2' := Lib.hid (M2.out.trans (PM.drew P R M tb v1 w2)); clear hc hf; obtain ⟨hc, hf⟩ := S2'.out.cp
 go_still_tail 12, (by kernel_rfl)
 change wpList _ _ _ _ _ (World.drew w2)
 generalize World.drew w2 = u2 at hc hf S2' M2' ⊢; clear S2 M2; have S2 := S2'; have M2 := M2'; clear S2' M2'; go_wp2_with fail
 with_reducible refine (read_p S2.out (by omega) y2.s.r.sp S2.out.spb.1 S2.out.spb.2).mono ?_
 rintro e w3 ⟨rfl, v3, s', m'⟩; have M3 := M2.tr m'; obtain ⟨y3, hy⟩ : ∃ q_, q_ = rd 1 y2.s.r.sp y2 := ⟨_, rfl⟩; rw [← hy] at s'; have Y3 := Lib.hid hy; clear hc hf; obtain ⟨hc, hf⟩ := s'.cp; have S3 := Lib.hid s'; clear s' m' hy; have hb := S2.out.okm y2.s.r.sp; have hl := S0.out.okm y.s.r.sp; have ho := or16n _ _ hb.1 hb.2 hl.1 hl.2; have OR := Lib.hid ho; clear ho; have hw := up_w y3.s.r.sp; have Q := Lib.hid (S3.out.stSP (up y3.s.r.sp) (up_b _).1 (up_b _).2); go_wp2; go_ret
 refine ⟨?_, v3, ?_, M3.out.trans Q.out.2⟩
 ·have q2 : y2.m y2.s.r.sp = y.m (up y.s.r.sp) := by rw [Y2.out, Y1.out]; rfl
  have q3 := OR.out; rw [q2] at q3
  unfold popV
  rw [← q3]; rw [q2]
  rfl
 ·have q := Q.out.1
  have e := Y3.out; subst e; have e := Y2.out; subst e; have e := Y1.out; subst e
  exact q.mo
end
end Go.Proofs.YtngdogldgcgnjaaGreat
namespace Go.Proofs.YtngdogldgcgnjaaGreat
open Go.ChangeShapes Go.WideShapes Go.ChangeAt Go.RowKit
open Reg
set_option linter.unusedVariables false
section
variable {w : World} {P R M tb n : Nat} {v : Value} {y : Sy}
theorem getS_s (k : Int) (y : Sy) : (getS k y).s = y.s := by unfold getS; split <;> rfl
theorem getS_m (k : Int) (y : Sy) : (getS k y).m = y.m := by unfold getS; split <;> rfl
theorem enter_p (h0 : Sys procD ramC w P R M tb v y n) (hn : n < 970000) (x : Int) (x0 : 0 ≤ x) (x1 : x < 65536) : Calls Tryz.prog 75 #[.pointer (some ⟨P, 0, none⟩), .int .u16 x] w (PE procD ramC P R M tb v w (.tuple #[]) (enterS x y) (n + 3)) := by
 have S0 := Lib.hid h0; have M0 := Lib.hid (PM.refl P R M tb v w); obtain ⟨hc, hf⟩ := h0.cp; clear h0; go_enter Tryz.func75, Tryz.ntmps75; go_wp2_with fail
 with_reducible refine (push_p S0.out (by omega) y.s.r.pc S0.out.pcb.1 S0.out.pcb.2).mono ?_
 rintro e w1 ⟨rfl, v1, s', m'⟩; have M1 := M0.tr m'; obtain ⟨y1, hy⟩ : ∃ q_, q_ = pushS y.s.r.pc y := ⟨_, rfl⟩; rw [← hy] at s'; have Y1 := Lib.hid hy; clear hc hf; obtain ⟨hc, hf⟩ := s'.cp; have S1 := Lib.hid s'; clear s' m' hy; go_wp2; have Q := Lib.hid (S1.out.stPC x x0 x1)
 go_end0
 refine ⟨rfl, v1, ?_, M1.out.trans Q.out.2⟩
 have q := Q.out.1; have e := Y1.out.symm; subst e
 exact q.mo
theorem Sys.popb {D : Nat → Array Value} {C : Nat → Int → Value → Array Value} (h : Sys D C w P R M tb v y n) : 0 ≤ popV y ∧ popV y < 65536 := by
 have a := h.okm (up y.s.r.sp); have b := h.okm y.s.r.sp
 unfold popV
 omega
theorem leave_p (h0 : Sys procD ramC w P R M tb v y n) (hn : n < 980000) : Calls Tryz.prog 74 #[.pointer (some ⟨P, 0, none⟩)] w (PE procD ramC P R M tb v w (.tuple #[]) (leaveS y) (n + 3)) := by
 have hm := mI ⟨R, 0, none⟩; have S0 := Lib.hid h0; have M0 := Lib.hid (PM.refl P R M tb v w); obtain ⟨hc, hf⟩ := h0.cp; clear h0; go_enter Tryz.func74, Tryz.ntmps74; go_wp2_with fail
 with_reducible refine (pop_p S0.out (by omega)).mono ?_
 rintro e w1 ⟨rfl, v1, s', m'⟩; have M1 := M0.tr m'; obtain ⟨y1, hy⟩ : ∃ q_, q_ = popS y := ⟨_, rfl⟩; rw [← hy] at s'; have Y1 := Lib.hid hy; clear hc hf; obtain ⟨hc, hf⟩ := s'.cp; have S1 := Lib.hid s'; clear s' m' hy; go_wp2_with fail; have q := S1.out.stPC (popV y) S0.out.popb.1 S0.out.popb.2; have s' := q.1; have m' := q.2; clear q; generalize (World.setCell w1 ⟨P, 9, none⟩ (.int .u16 (popV y))) = w2 at s' m' ⊢; have M2 := M1.tr m'; obtain ⟨y2, hy⟩ : ∃ q_, q_ = setPC (popV y) y1 := ⟨_, rfl⟩; rw [← hy] at s'; have Y2 := Lib.hid hy; clear hc hf; obtain ⟨hc, hf⟩ := s'.cp; have S2 := Lib.hid s'; clear s' m' hy
 with_reducible refine (idle_p S2.out (by omega)).mono ?_
 rintro e w3 ⟨rfl, v3, s', m'⟩; have M3 := M2.tr m'; obtain ⟨y3, hy⟩ : ∃ q_, q_ = idle y2 := ⟨_, rfl⟩; rw [← hy] at s'; have Y3 := Lib.hid hy; clear hc hf; obtain ⟨hc, hf⟩ := s'.cp; have S3 := Lib.hid s'; clear s' m' hy; go_wp2
 go_end0
 refine ⟨rfl, v3, ?_, M3.out⟩
 have q := S3.out; have e := Y3.out.symm; subst e; have e := Y2.out.symm; subst e; have e := Y1.out.symm; subst e
 exact q.mo
theorem get_6 (h0 : Sys procD ramC w P R M tb v y n) (hn : n < 990000) : Calls Tryz.prog 89 #[.pointer (some ⟨P, 0, none⟩), .int .i64 6] w (PE procD ramC P R M tb v w (.int .u8 (y.m (hlV y))) (rd 1 (hlV y) y) (n + 1)) := by
 have hm := mR ⟨R, 0, none⟩; have S0 := Lib.hid h0; have M0 := Lib.hid (PM.refl P R M tb v w); obtain ⟨hc, hf⟩ := h0.cp; clear h0; go_enter Tryz.func89, Tryz.ntmps89; go_wp2; have S0' := Lib.hid S0.out.drew; have M0' := Lib.hid (M0.out.trans (PM.drew P R M tb v w)); clear hc hf
 refine wp_region_held_drew (S := (fun w' => (w'.cell? ⟨P, 14, none⟩ = some (.iface 31 (.pointer (some ⟨R, 0, none⟩)))) ∧ True)) (by kernel_rfl) ⟨S0'.out.cp.1 14, trivial⟩ (fun hHeld => ?_)
 generalize World.drew w = u0 at hHeld S0' M0' ⊢; clear S0 M0; have S0 := S0'; have M0 := M0'; clear S0' M0'; refine tz 0 ?_; refine tz 1 ?_; refine tz 2 ?_; refine tz 3 ?_; refine tz 4 ?_; refine tz 6 ?_; refine tz 7 ?_
 refine re1 5 (fun K hK => ?_)
 go_simp
 go_wp2_with (go_at_call 76; (with_reducible refine (pair_p S0.out (by omega) 2).mono ?_); rintro e w1 ⟨rfl, v1, s', m'⟩)
 refine hK.out _ _ ⟨s'.cp.1 14, trivial⟩ (fun hNew => ?_); clear hK K hHeld; have hHeld := hNew; clear hNew
 have M1 := M0.tr m'; obtain ⟨y1, hy⟩ : ∃ q_, q_ = y := ⟨_, rfl⟩; rw [← hy] at s'; have Y1 := Lib.hid hy; have S1 := Lib.hid s'; clear s' m' hy
 refine re1 8 (fun K hK => ?_)
 go_simp
 go_wp2_with (go_at_call 176; (with_reducible refine (read_p S1.out (by omega) _ (pairV_b S0.out.ok 2).1 (pairV_b S0.out.ok 2).2).mono ?_); rintro e w2 ⟨rfl, v2, s', m'⟩)
 refine hK.out _ _ ⟨s'.cp.1 14, trivial⟩ (fun hNew => ?_); clear hK K hHeld; have hHeld := hNew; clear hNew
 have M2 := M1.tr m'; obtain ⟨y2, hy⟩ : ∃ q_, q_ = rd 1 (pairV y.s.r 2) y1 := ⟨_, rfl⟩; rw [← hy] at s'; have Y2 := Lib.hid hy; have S2 := Lib.hid s'; clear s' m' hy; refine tz 9 ?_
 refine wpAnyH_done (by kernel_rfl) ?_ _
 obtain ⟨hc, hf⟩ := S2.out.cp; go_wp2; go_ret
 refine ⟨?_, v2, ?_, M2.out⟩
 ·rw [Y1.out]
  rfl
 ·have q := S2.out
  rw [Y2.out, Y1.out] at q
  exact q.mo
theorem get_n (h0 : Sys procD ramC w P R M tb v y n) (hn : n < 990000) (k : Int) (hk : k ≠ 6) : Calls Tryz.prog 89 #[.pointer (some ⟨P, 0, none⟩), .int .i64 k] w (PE procD ramC P R M tb v w (.int .u8 (getV y.s.r k)) (y) (n + 0)) := by
 have hk6 : (k == 6) = false := by simpa using hk
 have S0 := Lib.hid h0; have M0 := Lib.hid (PM.refl P R M tb v w); obtain ⟨hc, hf⟩ := h0.cp; clear h0; go_enter Tryz.func89, Tryz.ntmps89; go_wp2_with fail
 with_reducible refine (get_c y.s.r k _).mono ?_
 rintro e w1 ⟨rfl, hb⟩; have HB := Lib.hid hb; clear hb; go_wp2; go_ret
 exact ⟨rfl, v, S0.out.below HB.out, M0.out.trans (PM.of HB.out)⟩
theorem get_p (h0 : Sys procD ramC w P R M tb v y n) (hn : n < 990000) (k : Int) : Calls Tryz.prog 89 #[.pointer (some ⟨P, 0, none⟩), .int .i64 k] w (PE procD ramC P R M tb v w (.int .u8 (getY k y)) (getS k y) (n + 1)) := by
 unfold getY getS
 by_cases hk : k = 6
 ·subst hk
  rw [if_pos rfl, if_pos rfl]
  exact get_6 h0 hn
 ·rw [if_neg hk, if_neg hk]
  exact (get_n h0 hn k hk).mono fun e w' ⟨he, v', s, m⟩ => ⟨he, v', s.mono (by omega), m⟩
theorem set_6 (h0 : Sys procD ramC w P R M tb v y n) (hn : n < 990000) (x : Int) (x0 : 0 ≤ x) (x1 : x < 256) : Calls Tryz.prog 88 #[.pointer (some ⟨P, 0, none⟩), .int .i64 6, .int .u8 x] w (PE procD ramC P R M tb v w (.tuple #[]) (wr (hlV y) x y) (n + 1)) := by
 have hm := mW ⟨R, 0, none⟩; have S0 := Lib.hid h0; have M0 := Lib.hid (PM.refl P R M tb v w); obtain ⟨hc, hf⟩ := h0.cp; clear h0; go_enter Tryz.func88, Tryz.ntmps88; go_wp2; have S0' := Lib.hid S0.out.drew; have M0' := Lib.hid (M0.out.trans (PM.drew P R M tb v w)); clear hc hf
 refine wp_region_held_drew (S := (fun w' => (w'.cell? ⟨P, 14, none⟩ = some (.iface 31 (.pointer (some ⟨R, 0, none⟩)))) ∧ True)) (by kernel_rfl) ⟨S0'.out.cp.1 14, trivial⟩ (fun hHeld => ?_)
 generalize World.drew w = u0 at hHeld S0' M0' ⊢; clear S0 M0; have S0 := S0'; have M0 := M0'; clear S0' M0'; refine tz 0 ?_; refine tz 1 ?_; refine tz 2 ?_; refine tz 3 ?_; refine tz 4 ?_; refine tz 6 ?_; refine tz 7 ?_; refine tz 8 ?_
 refine re1 5 (fun K hK => ?_)
 go_simp
 go_wp2_with (go_at_call 76; (with_reducible refine (pair_p S0.out (by omega) 2).mono ?_); rintro e w1 ⟨rfl, v1, s', m'⟩)
 refine hK.out _ _ ⟨s'.cp.1 14, trivial⟩ (fun hNew => ?_); clear hK K hHeld; have hHeld := hNew; clear hNew
 have M1 := M0.tr m'; obtain ⟨y1, hy⟩ : ∃ q_, q_ = y := ⟨_, rfl⟩; rw [← hy] at s'; have Y1 := Lib.hid hy; have S1 := Lib.hid s'; clear s' m' hy
 refine re1 9 (fun K hK => ?_)
 go_simp
 go_wp2_with (go_at_call 177; (with_reducible refine (write_p S1.out (by omega) _ x (pairV_b S0.out.ok 2).1 (pairV_b S0.out.ok 2).2 x0 x1).mono ?_); rintro e w2 ⟨rfl, v2, s', m'⟩)
 refine hK.out _ _ ⟨s'.cp.1 14, trivial⟩ (fun hNew => ?_); clear hK K hHeld; have hHeld := hNew; clear hNew
 have M2 := M1.tr m'; obtain ⟨y2, hy⟩ : ∃ q_, q_ = wr (pairV y.s.r 2) x y1 := ⟨_, rfl⟩; rw [← hy] at s'; have Y2 := Lib.hid hy; have S2 := Lib.hid s'; clear s' m' hy
 refine wpAnyH_done (by kernel_rfl) ?_ _
 obtain ⟨hc, hf⟩ := S2.out.cp; go_wp2
 first | go_end0 | refine bodyPost_ret (results_none rfl _ _ _) rfl ?_
 refine ⟨rfl, v2, ?_, M2.out⟩
 have q := S2.out; rw [Y2.out, Y1.out] at q
 exact q.mo
theorem set_n (h0 : Sys procD ramC w P R M tb v y n) (hn : n < 990000) (k x : Int) (hk : k ≠ 6) (x0 : 0 ≤ x) (x1 : x < 256) : Calls Tryz.prog 88 #[.pointer (some ⟨P, 0, none⟩), .int .i64 k, .int .u8 x] w (PE procD ramC P R M tb v w (.tuple #[]) (setRR (setR y.s.r k x) y) (n + 0)) := by
 have hk6 : (k == 6) = false := by simpa using hk
 have S0 := Lib.hid h0; have M0 := Lib.hid (PM.refl P R M tb v w); obtain ⟨hc, hf⟩ := h0.cp; clear h0; go_enter Tryz.func88, Tryz.ntmps88; go_wp2_with fail
 with_reducible refine (set_c y.s.r k x _).mono ?_
 rintro e w1 ⟨rfl, hb⟩; have s1 := S0.out.below hb; clear hc hf; obtain ⟨hc, hf⟩ := s1.cp; have Q := Lib.hid (s1.stR (setR y.s.r k x) (setR_ok S0.out.ok k x x0 x1)); have HB := Lib.hid hb; clear hb s1; go_wp2
 go_end0
 exact ⟨rfl, v, Q.out.1, (M0.out.trans (PM.of HB.out)).trans Q.out.2⟩
theorem set_p (h0 : Sys procD ramC w P R M tb v y n) (hn : n < 990000) (k x : Int) (x0 : 0 ≤ x) (x1 : x < 256) : Calls Tryz.prog 88 #[.pointer (some ⟨P, 0, none⟩), .int .i64 k, .int .u8 x] w (PE procD ramC P R M tb v w (.tuple #[]) (putS k x y) (n + 1)) := by
 unfold putS
 by_cases hk : k = 6
 ·subst hk
  rw [if_pos rfl]
  exact set_6 h0 hn x x0 x1
 ·rw [if_neg hk]
  exact (set_n h0 hn k x hk x0 x1).mono fun e w' ⟨he, v', s, m⟩ => ⟨he, v', s.mono (by omega), m⟩
end
end Go.Proofs.YtngdogldgcgnjaaGreat
