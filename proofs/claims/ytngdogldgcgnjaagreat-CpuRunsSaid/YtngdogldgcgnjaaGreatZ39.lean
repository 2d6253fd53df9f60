/-
  What an order does on the document's own processor: for every world; the processor is there.
-/
import Derived.Test.YtngdogldgcgnjaaGreatZ34
import Derived.Test.YtngdogldgcgnjaaGreatZ35
import Derived.Test.YtngdogldgcgnjaaGreatZ36
import Derived.Test.YtngdogldgcgnjaaGreatZ37
import Derived.Test.YtngdogldgcgnjaaGreatZ38
import Derived.Test.YtngdogldgcgnjaaGreatZ19
set_option maxRecDepth 100000
set_option maxHeartbeats 8000000
namespace Go.Proofs.YtngdogldgcgnjaaGreat
open Go.ChangeShapes Go.WideShapes Go.ChangeAt Go.RowKit
open Reg
set_option linter.unusedVariables false
section
variable {w : World} {P R M tb n : Nat} {v : Value} {y : Sy}
theorem turn_comm (k a x : Int) (z : Sy) (k0 : 0 ≤ k) (k1 : k < 8) : setF a (putS k x z) = putS k x (setF a z) := by
 rcases (by omega : k = 0 ∨ k = 1 ∨ k = 2 ∨ k = 3 ∨ k = 4 ∨ k = 5 ∨ k = 6 ∨ k = 7) with rfl | rfl | rfl | rfl | rfl | rfl | rfl | rfl <;> kernel_rfl
theorem cf_FL (z n h c : Bool) : Alu.cf (Alu.FL z n h c) = c := by cases z <;> cases n <;> cases h <;> cases c <;> decide +kernel
theorem fl16 (c : Bool) : Alu.FL false false false c = Alu.fl 16 c := by cases c <;> decide +kernel
theorem isV4 (r : RR) : isV r 4 = true := by kernel_rfl
theorem mdone_p (h0 : Sys noD memC w P R M tb v y n) (hn : n < 900000) (o : OpV) (g : Good o) (at_ : Int) (hat : o.k = 4 → at_ = dn y.s.r.pc) : Calls Tryz.prog 26 #[.pointer (some ⟨P, 0, none⟩), .pointer (some ⟨R, 0, none⟩), .agg #[.int .i64 o.k, .int .i64 o.x, .int .i64 o.y, .int .i64 o.s, .int .u16 o.n], .int .u16 at_] w (PE noD memC P R M tb v w (.bool (takenV o y)) (doneS o (takenV o y) y) (n + 4)) := by
 obtain ⟨k, x, z, s, nn⟩ := o; have k0 : 1 ≤ k := g.k0; have k1 : k ≤ 46 := g.k1; have n0 : 0 ≤ nn := g.n0; have n1 : nn < 65536 := g.n1
 dsimp only at hat ⊢
 rcases (by omega : k = 1 ∨ k = 2 ∨ k = 3 ∨ k = 4 ∨ k = 5 ∨ k = 6 ∨ k = 7 ∨ k = 8 ∨ k = 9 ∨ k = 10 ∨ k = 11 ∨ k = 12 ∨ k = 13 ∨ k = 14 ∨ k = 15 ∨ k = 16 ∨ k = 17 ∨ k = 18 ∨ k = 19 ∨ k = 20 ∨ k = 21 ∨ k = 22 ∨ k = 23 ∨ k = 24 ∨ k = 25 ∨ k = 26 ∨ k = 27 ∨ k = 28 ∨ k = 29 ∨ k = 30 ∨ k = 31 ∨ k = 32 ∨ k = 33 ∨ k = 34 ∨ k = 35 ∨ k = 36 ∨ k = 37 ∨ k = 38 ∨ k = 39 ∨ k = 40 ∨ k = 41 ∨ k = 42 ∨ k = 43 ∨ k = 44 ∨ k = 45 ∨ k = 46) with rfl | rfl | rfl | rfl | rfl | rfl | rfl | rfl | rfl | rfl | rfl | rfl | rfl | rfl | rfl | rfl | rfl | rfl | rfl | rfl | rfl | rfl | rfl | rfl | rfl | rfl | rfl | rfl | rfl | rfl | rfl | rfl | rfl | rfl | rfl | rfl | rfl | rfl | rfl | rfl | rfl | rfl | rfl | rfl | rfl | rfl
 ·have e2 : takenV ⟨1, x, z, s, nn⟩ y = true := by kernel_rfl
  have e : doneS ⟨1, x, z, s, nn⟩ true y = y := by kernel_rfl
  rw [e2, e]
  exact d_1 h0 hn x z s nn (nn % 256) at_ n0 n1 rfl
 ·have e2 : takenV ⟨2, x, z, s, nn⟩ y = true := by kernel_rfl
  have e : doneS ⟨2, x, z, s, nn⟩ true y = setStop true y := by kernel_rfl
  rw [e2, e]
  exact d_2 h0 hn x z s nn (nn % 256) at_ n0 n1 rfl
 ·have e2 : takenV ⟨3, x, z, s, nn⟩ y = true := by kernel_rfl
  have e : doneS ⟨3, x, z, s, nn⟩ true y = setHalt true y := by kernel_rfl
  rw [e2, e]
  exact d_3 h0 hn x z s nn (nn % 256) at_ n0 n1 rfl
 ·have e2 : takenV ⟨4, x, z, s, nn⟩ y = true := by kernel_rfl
  have e : doneS ⟨4, x, z, s, nn⟩ true y = setPC (dn y.s.r.pc) y := by kernel_rfl
  rw [e2, e]; have q := d_4 h0 hn x z s nn (nn % 256) at_ n0 n1 rfl (by rw [hat rfl]; exact (dn_b _).1) (by rw [hat rfl]; exact (dn_b _).2); rw [hat rfl] at q ⊢
  exact q
 ·have e2 : takenV ⟨5, x, z, s, nn⟩ y = true := by kernel_rfl
  have e : doneS ⟨5, x, z, s, nn⟩ true y = setIme false y := by kernel_rfl
  rw [e2, e]
  exact d_5 h0 hn x z s nn (nn % 256) at_ n0 n1 rfl
 ·have e2 : takenV ⟨6, x, z, s, nn⟩ y = true := by kernel_rfl
  have e : doneS ⟨6, x, z, s, nn⟩ true y = setSoon true y := by kernel_rfl
  rw [e2, e]
  exact d_6 h0 hn x z s nn (nn % 256) at_ n0 n1 rfl
 ·have e2 : takenV ⟨7, x, z, s, nn⟩ y = true := by kernel_rfl
  have e : doneS ⟨7, x, z, s, nn⟩ true y = putS x (getY z y) (getS z y) := by kernel_rfl
  rw [e2, e]
  exact d_7 h0 hn x z s nn (nn % 256) at_ n0 n1 rfl
 ·have e2 : takenV ⟨8, x, z, s, nn⟩ y = true := by kernel_rfl
  have e : doneS ⟨8, x, z, s, nn⟩ true y = putS x (nn % 256) y := by kernel_rfl
  rw [e2, e]
  exact d_8 h0 hn x z s nn (nn % 256) at_ n0 n1 rfl
 ·have e2 : takenV ⟨9, x, z, s, nn⟩ y = true := by kernel_rfl
  have e : doneS ⟨9, x, z, s, nn⟩ true y = pairS x nn y := by kernel_rfl
  rw [e2, e]
  exact d_9 h0 hn x z s nn (nn % 256) at_ n0 n1 rfl
 ·have e2 : takenV ⟨10, x, z, s, nn⟩ y = true := by kernel_rfl
  have e : doneS ⟨10, x, z, s, nn⟩ true y = sumS x (getY z y) (getS z y) := by kernel_rfl
  rw [e2, e]
  exact d_10 h0 hn x z s nn (nn % 256) at_ n0 n1 rfl g.x0 g.x1
 ·have e2 : takenV ⟨11, x, z, s, nn⟩ y = true := by kernel_rfl
  have e : doneS ⟨11, x, z, s, nn⟩ true y = sumS x (nn % 256) y := by kernel_rfl
  rw [e2, e]
  exact d_11 h0 hn x z s nn (nn % 256) at_ n0 n1 rfl g.x0 g.x1
 ·have e2 : takenV ⟨12, x, z, s, nn⟩ y = true := by kernel_rfl
  have e : doneS ⟨12, x, z, s, nn⟩ true y = setF (Alu.incF (getY x y) y.s.r.f) (putS x ((getY x y + 1) % 256) (getS x y)) := by kernel_rfl
  rw [e2, e]
  exact d_12 h0 hn x z s nn (nn % 256) at_ n0 n1 rfl
 ·have e2 : takenV ⟨13, x, z, s, nn⟩ y = true := by kernel_rfl
  have e : doneS ⟨13, x, z, s, nn⟩ true y = setF (Alu.decF (getY x y) y.s.r.f) (putS x ((getY x y - 1) % 256) (getS x y)) := by kernel_rfl
  rw [e2, e]
  exact d_13 h0 hn x z s nn (nn % 256) at_ n0 n1 rfl
 ·have e2 : takenV ⟨14, x, z, s, nn⟩ y = true := by kernel_rfl
  have e : doneS ⟨14, x, z, s, nn⟩ true y = pairS x (up (pairV y.s.r x)) (idle y) := by kernel_rfl
  rw [e2, e]
  exact d_14 h0 hn x z s nn (nn % 256) at_ n0 n1 rfl
 ·have e2 : takenV ⟨15, x, z, s, nn⟩ y = true := by kernel_rfl
  have e : doneS ⟨15, x, z, s, nn⟩ true y = pairS x (dn (pairV y.s.r x)) (idle y) := by kernel_rfl
  rw [e2, e]
  exact d_15 h0 hn x z s nn (nn % 256) at_ n0 n1 rfl
 ·have e2 : takenV ⟨16, x, z, s, nn⟩ y = true := by kernel_rfl
  have e : doneS ⟨16, x, z, s, nn⟩ true y = setF (Alu.add16F (hlV y) (pairV y.s.r x) y.s.r.f) (pairS 2 ((hlV y + pairV y.s.r x) % 65536) (idle y)) := by kernel_rfl
  rw [e2, e]
  exact d_16 h0 hn x z s nn (nn % 256) at_ n0 n1 rfl
 ·have e2 : takenV ⟨17, x, z, s, nn⟩ y = true := by kernel_rfl
  have e : doneS ⟨17, x, z, s, nn⟩ true y = putS z (Alu.turnR x (getY z y) y.s.r.f) (setF (Alu.turnF x (getY z y) y.s.r.f) (getS z y)) := by kernel_rfl
  rw [e2, e]; rw [← turn_comm z _ _ _ g.y0 g.y1]
  exact d_17 h0 hn x z s nn (nn % 256) at_ n0 n1 rfl
 ·have e2 : takenV ⟨18, x, z, s, nn⟩ y = true := by kernel_rfl
  have e : doneS ⟨18, x, z, s, nn⟩ true y = setF (Alu.fl 16 (Alu.turnO x y.s.r.a)) (setA (Alu.turnR x y.s.r.a y.s.r.f) y) := by kernel_rfl
  rw [e2, e]
  rw [← fl16, show Alu.turnO x y.s.r.a = Alu.cf (Alu.turnF x y.s.r.a y.s.r.f) from (cf_FL _ _ _ _).symm]
  exact d_18 h0 hn x z s nn (nn % 256) at_ n0 n1 rfl
 ·have e2 : takenV ⟨19, x, z, s, nn⟩ y = true := by kernel_rfl
  have e : doneS ⟨19, x, z, s, nn⟩ true y = setF (Alu.daaF y.s.r.a y.s.r.f) (setA (Alu.daaR y.s.r.a y.s.r.f) y) := by kernel_rfl
  rw [e2, e]
  exact d_19 h0 hn x z s nn (nn % 256) at_ n0 n1 rfl
 ·have e2 : takenV ⟨20, x, z, s, nn⟩ y = true := by kernel_rfl
  have e : doneS ⟨20, x, z, s, nn⟩ true y = setF (Alu.FL (Alu.zf y.s.r.f) true true (Alu.cf y.s.r.f)) (setA (255 - y.s.r.a) y) := by kernel_rfl
  rw [e2, e]
  exact d_20 h0 hn x z s nn (nn % 256) at_ n0 n1 rfl
 ·have e2 : takenV ⟨21, x, z, s, nn⟩ y = true := by kernel_rfl
  have e : doneS ⟨21, x, z, s, nn⟩ true y = setF (Alu.FL (Alu.zf y.s.r.f) false false true) y := by kernel_rfl
  rw [e2, e]
  exact d_21 h0 hn x z s nn (nn % 256) at_ n0 n1 rfl
 ·have e2 : takenV ⟨22, x, z, s, nn⟩ y = true := by kernel_rfl
  have e : doneS ⟨22, x, z, s, nn⟩ true y = setF (Alu.FL (Alu.zf y.s.r.f) false false (!Alu.cf y.s.r.f)) y := by kernel_rfl
  rw [e2, e]
  exact d_22 h0 hn x z s nn (nn % 256) at_ n0 n1 rfl
 ·have e2 : takenV ⟨23, x, z, s, nn⟩ y = isV y.s.r x := by kernel_rfl
  rw [e2]
  cases hi : isV y.s.r x
  ·have e : doneS ⟨23, x, z, s, nn⟩ false y = y := by kernel_rfl
   rw [e]
   exact d_23n h0 hn x z s nn (nn % 256) at_ n0 n1 rfl hi
  ·have e : doneS ⟨23, x, z, s, nn⟩ true y = setPC (jrV y.s.r.pc nn) (idle y) := by kernel_rfl
   rw [e]
   by_cases hb : 127 < nn % 256
   ·exact d_23b h0 hn x z s nn (nn % 256) at_ n0 n1 rfl hi hb
   ·exact d_23a h0 hn x z s nn (nn % 256) at_ n0 n1 rfl hi (by omega)
 ·have e2 : takenV ⟨24, x, z, s, nn⟩ y = isV y.s.r x := by kernel_rfl
  rw [e2]
  cases hi : isV y.s.r x
  ·have e : doneS ⟨24, x, z, s, nn⟩ false y = y := by kernel_rfl
   rw [e]
   exact d_24n h0 hn x z s nn (nn % 256) at_ n0 n1 rfl hi
  ·have e : doneS ⟨24, x, z, s, nn⟩ true y = setPC nn (idle y) := by kernel_rfl
   rw [e]
   exact d_24 h0 hn x z s nn (nn % 256) at_ n0 n1 rfl hi
 ·have e2 : takenV ⟨25, x, z, s, nn⟩ y = isV y.s.r x := by kernel_rfl
  rw [e2]
  cases hi : isV y.s.r x
  ·have e : doneS ⟨25, x, z, s, nn⟩ false y = y := by kernel_rfl
   rw [e]
   exact d_25n h0 hn x z s nn (nn % 256) at_ n0 n1 rfl hi
  ·have e : doneS ⟨25, x, z, s, nn⟩ true y = enterS nn y := by kernel_rfl
   rw [e]
   exact d_25 h0 hn x z s nn (nn % 256) at_ n0 n1 rfl hi
 ·have e2 : takenV ⟨26, x, z, s, nn⟩ y = isV y.s.r x := by kernel_rfl
  rw [e2]
  by_cases hx : x = 4
  ·subst hx
   rw [isV4]
   have e : doneS ⟨26, 4, z, s, nn⟩ true y = leaveS y := by kernel_rfl
   rw [e]
   exact d_26a h0 hn z s nn (nn % 256) at_ n0 n1 rfl (isV4 _)
  ·have hx4 : (x == 4) = false := by simpa using hx
   cases hi : isV y.s.r x
   ·have e : doneS ⟨26, x, z, s, nn⟩ false y = (bif x == 4 then y else idle y) := by kernel_rfl
    rw [e, hx4]
    exact d_26n h0 hn x z s nn (nn % 256) at_ n0 n1 rfl hi hx
   ·have e : doneS ⟨26, x, z, s, nn⟩ true y = leaveS (bif x == 4 then y else idle y) := by kernel_rfl
    rw [e, hx4]
    exact d_26b h0 hn x z s nn (nn % 256) at_ n0 n1 rfl hi hx
 ·have e2 : takenV ⟨27, x, z, s, nn⟩ y = true := by kernel_rfl
  have e : doneS ⟨27, x, z, s, nn⟩ true y = setIme true (leaveS y) := by kernel_rfl
  rw [e2, e]
  exact d_27 h0 hn x z s nn (nn % 256) at_ n0 n1 rfl
 ·have e2 : takenV ⟨28, x, z, s, nn⟩ y = true := by kernel_rfl
  have e : doneS ⟨28, x, z, s, nn⟩ true y = enterS nn y := by kernel_rfl
  rw [e2, e]
  exact d_28 h0 hn x z s nn (nn % 256) at_ n0 n1 rfl
 ·have e2 : takenV ⟨29, x, z, s, nn⟩ y = true := by kernel_rfl
  have e : doneS ⟨29, x, z, s, nn⟩ true y = setPC (hlV y) y := by kernel_rfl
  rw [e2, e]
  exact d_29 h0 hn x z s nn (nn % 256) at_ n0 n1 rfl
 ·have e2 : takenV ⟨30, x, z, s, nn⟩ y = true := by kernel_rfl
  have e : doneS ⟨30, x, z, s, nn⟩ true y = pushS (pairV y.s.r x) y := by kernel_rfl
  rw [e2, e]
  exact d_30 h0 hn x z s nn (nn % 256) at_ n0 n1 rfl
 ·have e2 : takenV ⟨31, x, z, s, nn⟩ y = true := by kernel_rfl
  have e : doneS ⟨31, x, z, s, nn⟩ true y = pairS x (popV y) (popS y) := by kernel_rfl
  rw [e2, e]
  exact d_31 h0 hn x z s nn (nn % 256) at_ n0 n1 rfl
 ·have e2 : takenV ⟨32, x, z, s, nn⟩ y = true := by kernel_rfl
  have e : doneS ⟨32, x, z, s, nn⟩ true y = setA (y.m (thruV x y)) (rd 1 (thruV x y) (thruS x y)) := by kernel_rfl
  rw [e2, e]
  exact d_32 h0 hn x z s nn (nn % 256) at_ n0 n1 rfl g.x0 (g.far (Or.inl rfl))
 ·have e2 : takenV ⟨33, x, z, s, nn⟩ y = true := by kernel_rfl
  have e : doneS ⟨33, x, z, s, nn⟩ true y = wr (thruV x y) y.s.r.a (thruS x y) := by kernel_rfl
  rw [e2, e]
  exact d_33 h0 hn x z s nn (nn % 256) at_ n0 n1 rfl g.x0 (g.far (Or.inr rfl))
 ·have e2 : takenV ⟨34, x, z, s, nn⟩ y = true := by kernel_rfl
  have e : doneS ⟨34, x, z, s, nn⟩ true y = setA (y.m (65280 + nn)) (rd 1 (65280 + nn) y) := by kernel_rfl
  rw [e2, e]; have e3 : nn % 256 = nn := Int.emod_eq_of_lt n0 (g.hi (Or.inl rfl))
  exact d_34 h0 hn x z s nn nn at_ n0 n1 e3
 ·have e2 : takenV ⟨35, x, z, s, nn⟩ y = true := by kernel_rfl
  have e : doneS ⟨35, x, z, s, nn⟩ true y = wr (65280 + nn) y.s.r.a y := by kernel_rfl
  rw [e2, e]; have e3 : nn % 256 = nn := Int.emod_eq_of_lt n0 (g.hi (Or.inr rfl))
  exact d_35 h0 hn x z s nn nn at_ n0 n1 e3
 ·have e2 : takenV ⟨36, x, z, s, nn⟩ y = true := by kernel_rfl
  have e : doneS ⟨36, x, z, s, nn⟩ true y = setA (y.m (65280 + y.s.r.c)) (rd 1 (65280 + y.s.r.c) y) := by kernel_rfl
  rw [e2, e]
  exact d_36 h0 hn x z s nn (nn % 256) at_ n0 n1 rfl
 ·have e2 : takenV ⟨37, x, z, s, nn⟩ y = true := by kernel_rfl
  have e : doneS ⟨37, x, z, s, nn⟩ true y = wr (65280 + y.s.r.c) y.s.r.a y := by kernel_rfl
  rw [e2, e]
  exact d_37 h0 hn x z s nn (nn % 256) at_ n0 n1 rfl
 ·have e2 : takenV ⟨38, x, z, s, nn⟩ y = true := by kernel_rfl
  have e : doneS ⟨38, x, z, s, nn⟩ true y = setA (y.m nn) (rd 1 nn y) := by kernel_rfl
  rw [e2, e]
  exact d_38 h0 hn x z s nn (nn % 256) at_ n0 n1 rfl
 ·have e2 : takenV ⟨39, x, z, s, nn⟩ y = true := by kernel_rfl
  have e : doneS ⟨39, x, z, s, nn⟩ true y = wr nn y.s.r.a y := by kernel_rfl
  rw [e2, e]
  exact d_39 h0 hn x z s nn (nn % 256) at_ n0 n1 rfl
 ·have e2 : takenV ⟨40, x, z, s, nn⟩ y = true := by kernel_rfl
  have e : doneS ⟨40, x, z, s, nn⟩ true y = wr (up nn) (y.s.r.sp / 256) (wr nn (y.s.r.sp % 256) y) := by kernel_rfl
  rw [e2, e]
  exact d_40 h0 hn x z s nn (nn % 256) at_ n0 n1 rfl
 ·have e2 : takenV ⟨41, x, z, s, nn⟩ y = true := by kernel_rfl
  have e : doneS ⟨41, x, z, s, nn⟩ true y = setF (Alu.shiftF y.s.r.sp (nn % 256)) (setSP (Alu.shiftR y.s.r.sp (nn % 256)) (idle (idle y))) := by kernel_rfl
  rw [e2, e]
  exact d_41 h0 hn x z s nn (nn % 256) at_ n0 n1 rfl
 ·have e2 : takenV ⟨42, x, z, s, nn⟩ y = true := by kernel_rfl
  have e : doneS ⟨42, x, z, s, nn⟩ true y = setF (Alu.shiftF y.s.r.sp (nn % 256)) (pairS 2 (Alu.shiftR y.s.r.sp (nn % 256)) (idle y)) := by kernel_rfl
  rw [e2, e]
  exact d_42 h0 hn x z s nn (nn % 256) at_ n0 n1 rfl
 ·have e2 : takenV ⟨43, x, z, s, nn⟩ y = true := by kernel_rfl
  have e : doneS ⟨43, x, z, s, nn⟩ true y = setSP (hlV y) (idle y) := by kernel_rfl
  rw [e2, e]
  exact d_43 h0 hn x z s nn (nn % 256) at_ n0 n1 rfl
 ·have e2 : takenV ⟨44, x, z, s, nn⟩ y = true := by kernel_rfl
  have e : doneS ⟨44, x, z, s, nn⟩ true y = setF (Alu.bitF x (getY z y) y.s.r.f) (getS z y) := by kernel_rfl
  rw [e2, e]
  exact d_44 h0 hn x z s nn (nn % 256) at_ n0 n1 rfl
 ·have e2 : takenV ⟨45, x, z, s, nn⟩ y = true := by kernel_rfl
  have e : doneS ⟨45, x, z, s, nn⟩ true y = putS z (clr (getY z y) x.toNat) (getS z y) := by kernel_rfl
  rw [e2, e]
  exact d_45 h0 hn x z s nn (nn % 256) at_ n0 n1 rfl g.x0 g.x1
 ·have e2 : takenV ⟨46, x, z, s, nn⟩ y = true := by kernel_rfl
  have e : doneS ⟨46, x, z, s, nn⟩ true y = putS z (Go.Proofs.YtngdogldgcgnjaaGreat.put (getY z y) x.toNat) (getS z y) := by kernel_rfl
  rw [e2, e]
  exact d_46 h0 hn x z s nn (nn % 256) at_ n0 n1 rfl g.x0 g.x1
end
end Go.Proofs.YtngdogldgcgnjaaGreat
