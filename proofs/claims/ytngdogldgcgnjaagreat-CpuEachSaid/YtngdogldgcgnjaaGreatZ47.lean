/-
  The document's Step with an order, as a function: the same as the one that landed.
  (Some texts in one.)
-/
import Derived.Test.YtngdogldgcgnjaaGreatZ41
import Derived.Test.YtngdogldgcgnjaaGreatZ42
import Derived.Test.YtngdogldgcgnjaaGreatZ43
import Derived.Test.YtngdogldgcgnjaaGreatZ44
import Derived.Test.YtngdogldgcgnjaaGreatZ45
import Derived.Test.YtngdogldgcgnjaaGreatZ46
import Derived.Test.YtngdogldgcgnjaaGreatZ22
import Derived.Test.YtngdogldgcgnjaaGreatZ23
import Derived.Test.YtngdogldgcgnjaaGreatZ25
set_option maxRecDepth 100000
set_option maxHeartbeats 8000000
namespace Go.Proofs.YtngdogldgcgnjaaGreat
open Go.ChangeShapes Go.WideShapes Go.ChangeAt Go.RowKit
open Reg
set_option linter.unusedVariables false
section
variable {w : World} {P R M tb n : Nat} {v : Value} {y : Sy}
theorem getY_ime (n : Int) (x : Bool) (y : Sy) : getY n (setIme x y) = getY n y := rfl
theorem getS_ime (n : Int) (x : Bool) (y : Sy) : getS n (setIme x y) = setIme x (getS n y) := by
 unfold getS
 split <;> rfl
theorem putS_ime (n v : Int) (x : Bool) (y : Sy) : putS n v (setIme x y) = setIme x (putS n v y) := by
 unfold putS
 split <;> rfl
theorem thruV_ime (n : Int) (x : Bool) (y : Sy) : thruV n (setIme x y) = thruV n y := rfl
theorem thruS_ime (n : Int) (x : Bool) (y : Sy) : thruS n (setIme x y) = setIme x (thruS n y) := by
 unfold thruS
 split
 ·rfl
 ·split <;> rfl
theorem setF_ime (v : Int) (x : Bool) (y : Sy) : setF v (setIme x y) = setIme x (setF v y) := rfl
theorem wr_ime (a v : Int) (x : Bool) (y : Sy) : wr a v (setIme x y) = setIme x (wr a v y) := rfl
theorem rd_ime (k a : Int) (x : Bool) (y : Sy) : rd k a (setIme x y) = setIme x (rd k a y) := rfl
theorem setA_ime (v : Int) (x : Bool) (y : Sy) : setA v (setIme x y) = setIme x (setA v y) := rfl
theorem idle_ime (x : Bool) (y : Sy) : idle (setIme x y) = setIme x (idle y) := rfl
theorem sumS_ime (k v : Int) (x : Bool) (y : Sy) : sumS k v (setIme x y) = setIme x (sumS k v y) := rfl
theorem sr_ime (x : Bool) (y : Sy) : (setIme x y).s.r = y.s.r := rfl
theorem sm_ime (x : Bool) (y : Sy) : (setIme x y).m = y.m := rfl
theorem done_ime (x : Bool) (o : OpV) (t : Bool) (y : Sy) (h5 : ¬ o.k = 5) (h27 : ¬ o.k = 27) : doneS o t (setIme x y) = setIme x (doneS o t y) := by
 unfold doneS
 by_cases h : o.k = 2
 ·rw [if_pos h, if_pos h]
  rfl
 rw [if_neg h, if_neg h]; clear h
 by_cases h : o.k = 3
 ·rw [if_pos h, if_pos h]
  rfl
 rw [if_neg h, if_neg h]; clear h
 by_cases h : o.k = 4
 ·rw [if_pos h, if_pos h]
  rfl
 rw [if_neg h, if_neg h]; clear h; rw [if_neg h5, if_neg h5]
 by_cases h : o.k = 6
 ·rw [if_pos h, if_pos h]
  rfl
 rw [if_neg h, if_neg h]; clear h
 by_cases h : o.k = 7
 ·rw [if_pos h, if_pos h]
  simp only [getY_ime, getS_ime, putS_ime]
 rw [if_neg h, if_neg h]; clear h
 by_cases h : o.k = 8
 ·rw [if_pos h, if_pos h]
  simp only [putS_ime]
 rw [if_neg h, if_neg h]; clear h
 by_cases h : o.k = 9
 ·rw [if_pos h, if_pos h]
  rfl
 rw [if_neg h, if_neg h]; clear h
 by_cases h : o.k = 10
 ·rw [if_pos h, if_pos h]
  simp only [getY_ime, getS_ime, sumS_ime]
 rw [if_neg h, if_neg h]; clear h
 by_cases h : o.k = 11
 ·rw [if_pos h, if_pos h]
  simp only [sumS_ime]
 rw [if_neg h, if_neg h]; clear h
 by_cases h : o.k = 12
 ·rw [if_pos h, if_pos h]
  simp only [getY_ime, getS_ime, putS_ime, setF_ime, sr_ime]
 rw [if_neg h, if_neg h]; clear h
 by_cases h : o.k = 13
 ·rw [if_pos h, if_pos h]
  simp only [getY_ime, getS_ime, putS_ime, setF_ime, sr_ime]
 rw [if_neg h, if_neg h]; clear h
 by_cases h : o.k = 14
 ·rw [if_pos h, if_pos h]
  rfl
 rw [if_neg h, if_neg h]; clear h
 by_cases h : o.k = 15
 ·rw [if_pos h, if_pos h]
  rfl
 rw [if_neg h, if_neg h]; clear h
 by_cases h : o.k = 16
 ·rw [if_pos h, if_pos h]
  rfl
 rw [if_neg h, if_neg h]; clear h
 by_cases h : o.k = 17
 ·rw [if_pos h, if_pos h]
  simp only [getY_ime, getS_ime, putS_ime, setF_ime, sr_ime]
 rw [if_neg h, if_neg h]; clear h
 by_cases h : o.k = 18
 ·rw [if_pos h, if_pos h]
  rfl
 rw [if_neg h, if_neg h]; clear h
 by_cases h : o.k = 19
 ·rw [if_pos h, if_pos h]
  rfl
 rw [if_neg h, if_neg h]; clear h
 by_cases h : o.k = 20
 ·rw [if_pos h, if_pos h]
  rfl
 rw [if_neg h, if_neg h]; clear h
 by_cases h : o.k = 21
 ·rw [if_pos h, if_pos h]
  rfl
 rw [if_neg h, if_neg h]; clear h
 by_cases h : o.k = 22
 ·rw [if_pos h, if_pos h]
  rfl
 rw [if_neg h, if_neg h]; clear h
 by_cases h : o.k = 23
 ·rw [if_pos h, if_pos h]
  cases t <;> rfl
 rw [if_neg h, if_neg h]; clear h
 by_cases h : o.k = 24
 ·rw [if_pos h, if_pos h]
  cases t <;> rfl
 rw [if_neg h, if_neg h]; clear h
 by_cases h : o.k = 25
 ·rw [if_pos h, if_pos h]
  cases t <;> rfl
 rw [if_neg h, if_neg h]; clear h
 by_cases h : o.k = 26
 ·rw [if_pos h, if_pos h]
  generalize (o.x == 4) = q
  cases t <;> cases q <;> rfl
 rw [if_neg h, if_neg h]; clear h; rw [if_neg h27, if_neg h27]
 by_cases h : o.k = 28
 ·rw [if_pos h, if_pos h]
  rfl
 rw [if_neg h, if_neg h]; clear h
 by_cases h : o.k = 29
 ·rw [if_pos h, if_pos h]
  rfl
 rw [if_neg h, if_neg h]; clear h
 by_cases h : o.k = 30
 ·rw [if_pos h, if_pos h]
  rfl
 rw [if_neg h, if_neg h]; clear h
 by_cases h : o.k = 31
 ·rw [if_pos h, if_pos h]
  rfl
 rw [if_neg h, if_neg h]; clear h
 by_cases h : o.k = 32
 ·rw [if_pos h, if_pos h]
  simp only [thruV_ime, thruS_ime, rd_ime, setA_ime, sm_ime]
 rw [if_neg h, if_neg h]; clear h
 by_cases h : o.k = 33
 ·rw [if_pos h, if_pos h]
  simp only [thruV_ime, thruS_ime, wr_ime, sr_ime]
 rw [if_neg h, if_neg h]; clear h
 by_cases h : o.k = 34
 ·rw [if_pos h, if_pos h]
  rfl
 rw [if_neg h, if_neg h]; clear h
 by_cases h : o.k = 35
 ·rw [if_pos h, if_pos h]
  rfl
 rw [if_neg h, if_neg h]; clear h
 by_cases h : o.k = 36
 ·rw [if_pos h, if_pos h]
  rfl
 rw [if_neg h, if_neg h]; clear h
 by_cases h : o.k = 37
 ·rw [if_pos h, if_pos h]
  rfl
 rw [if_neg h, if_neg h]; clear h
 by_cases h : o.k = 38
 ·rw [if_pos h, if_pos h]
  rfl
 rw [if_neg h, if_neg h]; clear h
 by_cases h : o.k = 39
 ·rw [if_pos h, if_pos h]
  rfl
 rw [if_neg h, if_neg h]; clear h
 by_cases h : o.k = 40
 ·rw [if_pos h, if_pos h]
  rfl
 rw [if_neg h, if_neg h]; clear h
 by_cases h : o.k = 41
 ·rw [if_pos h, if_pos h]
  rfl
 rw [if_neg h, if_neg h]; clear h
 by_cases h : o.k = 42
 ·rw [if_pos h, if_pos h]
  rfl
 rw [if_neg h, if_neg h]; clear h
 by_cases h : o.k = 43
 ·rw [if_pos h, if_pos h]
  rfl
 rw [if_neg h, if_neg h]; clear h
 by_cases h : o.k = 44
 ·rw [if_pos h, if_pos h]
  simp only [getY_ime, getS_ime, setF_ime, sr_ime]
 rw [if_neg h, if_neg h]; clear h
 by_cases h : o.k = 45
 ·rw [if_pos h, if_pos h]
  simp only [getY_ime, getS_ime, putS_ime]
 rw [if_neg h, if_neg h]; clear h
 by_cases h : o.k = 46
 ·rw [if_pos h, if_pos h]
  simp only [getY_ime, getS_ime, putS_ime]
 rw [if_neg h, if_neg h]
theorem fetchN_soon (x : Bool) (k : Nat) : ∀ y : Sy, fetchN k (setSoon x y) = setSoon x (fetchN k y) := by
 induction k with
 | zero => intro y; rfl
 | succ k ih => intro y; exact ih (fetch1 y)
theorem fetchN_ime (k : Nat) : ∀ y : Sy, (fetchN k y).s.ime = y.s.ime := by
 induction k with
 | zero => intro y; rfl
 | succ k ih => intro y; exact ih (fetch1 y)
theorem setIme_self (y : Sy) : setIme y.s.ime y = y := rfl
theorem done5_ime (x : Bool) (o : OpV) (t : Bool) (y : Sy) (h : o.k = 5) : doneS o t (setIme x y) = doneS o t y := by
 unfold doneS
 rw [h]
 rfl
theorem done27_ime (x : Bool) (o : OpV) (t : Bool) (y : Sy) (h : o.k = 27) : doneS o t (setIme x y) = doneS o t y := by
 unfold doneS
 rw [h]
 rfl
theorem done27_t (o : OpV) (t : Bool) (y : Sy) (h : o.k = 27) : setIme true (doneS o t y) = doneS o t y := by
 unfold doneS
 rw [h]
 rfl
theorem mrun_run (k : Nat) (o : OpV) (t : Bool) (y : Sy) : mrun k o t y = doneS o t (setSoon false (setIme (y.s.ime || y.s.soon) (fetchN k (setHalt false y)))) := by
 have e1 : setSoon false (setIme (y.s.ime || y.s.soon) (fetchN k (setHalt false y))) = setIme (y.s.ime || y.s.soon) (fetchN k (setSoon false (setHalt false y))) := by
  rw [fetchN_soon]
  rfl
 rw [e1]; have e2 := fetchN_ime k (setSoon false (setHalt false y))
 rcases hs : y.s.soon with _ | _
 ·rw [mrun_f k o t hs, Bool.or_false]
  have e3 : y.s.ime = (fetchN k (setSoon false (setHalt false y))).s.ime := e2.symm; rw [e3, setIme_self]
 ·rw [Bool.or_true]
  by_cases h5 : o.k = 5
  ·rw [mrun_5 k o t hs h5, done5_ime _ _ _ _ h5]
  ·rw [mrun_t k o t hs h5]
   by_cases h27 : o.k = 27
   ·rw [done27_ime _ _ _ _ h27, done27_t _ _ _ h27]
   ·rw [done_ime _ _ _ _ h5 h27]
end
end Go.Proofs.YtngdogldgcgnjaaGreat
namespace Go.Proofs.YtngdogldgcgnjaaGreat
open Go.ChangeShapes Go.WideShapes Go.ChangeAt Go.RowKit
open Reg
set_option linter.unusedVariables false
section
variable {w : World} {P R M tb n : Nat} {v : Value} {y : Sy}
theorem fetch_eq (y : Sy) (k : Nat) (hk : szV (byteV 0 y) = (k : Int)) : fetchS y = fetchN k y := by
 unfold fetchS
 rw [hk]
 rfl
theorem run_eq (y : Sy) (k : Nat) (hk : szV (byteV 0 y) = (k : Int)) : runS (setHalt false y) = mrun k (opV y) (takenV (opV y) (fetchS y)) y := by
 have e1 : fetchS (setHalt false y) = fetchN k (setHalt false y) := fetch_eq (setHalt false y) k hk; rw [mrun_run]
 unfold runS
 rw [opV_halt, takenV_halt, e1]
 rfl
theorem taken_eq (y : Sy) (k : Nat) (hk : szV (byteV 0 y) = (k : Int)) : takenV (opV y) (fetchN k (setSoon false (setHalt false y))) = takenV (opV y) (fetchS y) := by
 rw [fetchN_soon, fetchN_halt, fetch_eq y k hk]
 rfl
theorem mstep_r (h0 : Bus memC w R M tb v y.m y.acc n) (hn : n < 500000) (ok : y.s.r.ok) (hst : y.s.stop = false) (hh : y.s.halt = true → ¬ pend y.m = 0) (hi : y.s.ime = true → pend y.m = 0) : Calls Tryz.prog 15 #[.agg #[.int .u8 y.s.r.a, .int .u8 y.s.r.f, .int .u8 y.s.r.b, .int .u8 y.s.r.c, .int .u8 y.s.r.d, .int .u8 y.s.r.e, .int .u8 y.s.r.h, .int .u8 y.s.r.l, .int .u16 y.s.r.sp, .int .u16 y.s.r.pc, .bool y.s.ime, .bool y.s.soon, .bool y.s.halt, .bool y.s.stop], .pointer (some ⟨R, 0, none⟩)] w (ME R M tb v w (runS (setHalt false y)) (⟨1, 0, y.s.r.pc, opV y, takenV (opV y) (fetchS y)⟩) (n + 12)) := by
 have k0 := h0.okm y.s.r.pc; have k1 := h0.okm (up y.s.r.pc); have k2 := h0.okm (up (up y.s.r.pc)); have hpc := ok.2.2.2.2.2.2.2.2.2
 obtain ⟨b0, hb0⟩ : ∃ b : Nat, y.m y.s.r.pc = (b : Int) := ⟨(y.m y.s.r.pc).toNat, by omega⟩
 obtain ⟨b1, hb1⟩ : ∃ b : Nat, y.m (up y.s.r.pc) = (b : Int) := ⟨(y.m (up y.s.r.pc)).toNat, by omega⟩
 obtain ⟨b2, hb2⟩ : ∃ b : Nat, y.m (up (up y.s.r.pc)) = (b : Int) := ⟨(y.m (up (up y.s.r.pc))).toNat, by omega⟩
 rw [hb0] at k0; rw [hb1] at k1; rw [hb2] at k2
 have e0 : byteV 0 y = (b0 : Int) := by
  have a : (y.s.r.pc + ((0 : Nat) : Int)) % 65536 = y.s.r.pc := by omega
  unfold byteV
  rw [a, hb0]
 have e1 : byteV 1 y = (b1 : Int) := by
  rw [← hb1]
  rfl
 have e2 : byteV 2 y = (b2 : Int) := by
  have a : (y.s.r.pc + ((2 : Nat) : Int)) % 65536 = up (up y.s.r.pc) := by unfold up; omega
  unfold byteV
  rw [a, hb2]
 have l0 : b0 < 256 := by omega
 have l1 : b1 < 256 := by omega
 have l2 : b2 < 256 := by omega
 have g := good_dec b0 0 0 l0 (by decide) (by decide)
 have ez : szV (byteV 0 y) = (decF b0 0 0).s := by
  rw [e0]
  rfl
 have eo : opV y = decF b0 (if 2 ≤ (decF b0 0 0).s then b1 else 0) (if 3 ≤ (decF b0 0 0).s then b2 else 0) := by
  unfold opV
  rw [ez, e0, e1, e2]
  rfl
 have hs : (decF b0 0 0).s = 1 ∨ (decF b0 0 0).s = 2 ∨ (decF b0 0 0).s = 3 := by
  have := g.s0; have := g.s1
  omega
 rcases hs with h | h | h
 ·have hk : szV (byteV 0 y) = ((1 : Nat) : Int) := by rw [ez, h]; rfl
  have ho : decF b0 0 0 = opV y := by
   rw [eo, if_neg (by omega), if_neg (by omega)]
  rw [run_eq y 1 hk, ← taken_eq y 1 hk]
  exact mstep_r1 h0 hn ok (pend y.m) b0 b1 b2 (opV y) hst hh hi rfl hb0 l0 l1 l2 h ho _ rfl
 ·have hk : szV (byteV 0 y) = ((2 : Nat) : Int) := by rw [ez, h]; rfl
  have ho : decF b0 b1 0 = opV y := by
   rw [eo, if_pos (by omega), if_neg (by omega)]
  rw [run_eq y 2 hk, ← taken_eq y 2 hk]
  exact mstep_r2 h0 hn ok (pend y.m) b0 b1 b2 (opV y) hst hh hi rfl hb0 hb1 l0 l1 l2 h ho _ rfl
 ·have hk : szV (byteV 0 y) = ((3 : Nat) : Int) := by rw [ez, h]; rfl
  have ho : decF b0 b1 b2 = opV y := by
   rw [eo, if_pos (by omega), if_pos (by omega)]
  rw [run_eq y 3 hk, ← taken_eq y 3 hk]
  exact mstep_r3 h0 hn ok (pend y.m) b0 b1 b2 (opV y) hst hh hi rfl hb0 hb1 hb2 l0 l1 l2 h ho _ rfl
theorem low_of {p : Int} : lowV p = if p % 2 = 1 then 0 else if p / 2 % 2 = 1 then 1 else if p / 4 % 2 = 1 then 2 else if p / 8 % 2 = 1 then 3 else 4 := rfl
theorem mstep_i (h0 : Bus memC w R M tb v y.m y.acc n) (hn : n < 500000) (ok : y.s.r.ok) (hst : y.s.stop = false) (him : y.s.ime = true) (hp : ¬ pend y.m = 0) : Calls Tryz.prog 15 #[.agg #[.int .u8 y.s.r.a, .int .u8 y.s.r.f, .int .u8 y.s.r.b, .int .u8 y.s.r.c, .int .u8 y.s.r.d, .int .u8 y.s.r.e, .int .u8 y.s.r.h, .int .u8 y.s.r.l, .int .u16 y.s.r.sp, .int .u16 y.s.r.pc, .bool y.s.ime, .bool y.s.soon, .bool y.s.halt, .bool y.s.stop], .pointer (some ⟨R, 0, none⟩)] w (ME R M tb v w (interS (lowV (pend y.m)) (setHalt false y)) (⟨2, lowV (pend y.m), y.s.r.pc, noOp, false⟩) (n + 12)) := by
 have pb := pend_bd y.m h0.okm; obtain ⟨p, hp_⟩ : ∃ q_, pend y.m = q_ := ⟨_, rfl⟩; rw [hp_] at hp pb ⊢
 by_cases g0 : p % 2 = 1
 ·have e : lowV p = 0 := by rw [low_of, if_pos g0]
  rw [e]
  rcases Bool.eq_false_or_eq_true y.s.halt with hht | hht
  ·exact mstep_i0t h0 hn ok p hst hht him hp_  g0
  ·exact mstep_i0f h0 hn ok p hst hht him hp_  g0
 by_cases g1 : p / 2 % 2 = 1
 ·have e : lowV p = 1 := by rw [low_of, if_neg (by omega), if_pos g1]
  rw [e]
  rcases Bool.eq_false_or_eq_true y.s.halt with hht | hht
  ·exact mstep_i1t h0 hn ok p hst hht him hp_ (by omega) g1
  ·exact mstep_i1f h0 hn ok p hst hht him hp_ (by omega) g1
 by_cases g2 : p / 4 % 2 = 1
 ·have e : lowV p = 2 := by rw [low_of, if_neg (by omega), if_neg (by omega), if_pos g2]
  rw [e]
  rcases Bool.eq_false_or_eq_true y.s.halt with hht | hht
  ·exact mstep_i2t h0 hn ok p hst hht him hp_ (by omega) (by omega) g2
  ·exact mstep_i2f h0 hn ok p hst hht him hp_ (by omega) (by omega) g2
 by_cases g3 : p / 8 % 2 = 1
 ·have e : lowV p = 3 := by rw [low_of, if_neg (by omega), if_neg (by omega), if_neg (by omega), if_pos g3]
  rw [e]
  rcases Bool.eq_false_or_eq_true y.s.halt with hht | hht
  ·exact mstep_i3t h0 hn ok p hst hht him hp_ (by omega) (by omega) (by omega) g3
  ·exact mstep_i3f h0 hn ok p hst hht him hp_ (by omega) (by omega) (by omega) g3
 ·have g4 : p / 16 % 2 = 1 := by omega
  have e : lowV p = 4 := by rw [low_of, if_neg (by omega), if_neg (by omega), if_neg (by omega), if_neg (by omega)]
  rw [e]
  rcases Bool.eq_false_or_eq_true y.s.halt with hht | hht
  ·exact mstep_i4t h0 hn ok p hst hht him hp_ (by omega) (by omega) (by omega) (by omega) g4
  ·exact mstep_i4f h0 hn ok p hst hht him hp_ (by omega) (by omega) (by omega) (by omega) g4
theorem mstep_t (h0 : Bus memC w R M tb v y.m y.acc n) (hn : n < 500000) (ok : y.s.r.ok) : Calls Tryz.prog 15 #[.agg #[.int .u8 y.s.r.a, .int .u8 y.s.r.f, .int .u8 y.s.r.b, .int .u8 y.s.r.c, .int .u8 y.s.r.d, .int .u8 y.s.r.e, .int .u8 y.s.r.h, .int .u8 y.s.r.l, .int .u16 y.s.r.sp, .int .u16 y.s.r.pc, .bool y.s.ime, .bool y.s.soon, .bool y.s.halt, .bool y.s.stop], .pointer (some ⟨R, 0, none⟩)] w (ME R M tb v w (stepS y) (stepD y) (n + 12)) := by
 have pb := pend_bd y.m h0.okm
 by_cases hst : y.s.stop = true
 ·have d : stepD y = ⟨0, 0, y.s.r.pc, noOp, false⟩ := by unfold stepD; rw [if_pos hst]
  by_cases g : pend y.m / 16 % 2 = 1
  ·have e : stepS y = setStop false (idle y) := by unfold stepS; rw [if_pos hst, if_pos g]
   rw [d, e]
   exact mstep_s1 h0 hn ok hst g
  ·have e : stepS y = idle y := by unfold stepS; rw [if_pos hst, if_neg g]
   rw [d, e]
   exact mstep_s2 h0 hn ok hst g
 ·have hst' : y.s.stop = false := by simpa using hst
  by_cases hh : (y.s.halt && pend y.m == 0) = true
  ·have d : stepD y = ⟨0, 0, y.s.r.pc, noOp, false⟩ := by unfold stepD; rw [if_neg hst, if_pos hh]
   have e : stepS y = idle y := by unfold stepS; rw [if_neg hst, if_pos hh]
   rw [d, e]; rw [Bool.and_eq_true, beq_iff_eq] at hh
   exact mstep_h h0 hn ok hst' hh.1 hh.2
  ·by_cases hi : (y.s.ime && pend y.m != 0) = true
   ·have d : stepD y = ⟨2, lowV (pend y.m), y.s.r.pc, noOp, false⟩ := by unfold stepD; rw [if_neg hst, if_neg hh, if_pos hi]
    have e : stepS y = interS (lowV (pend y.m)) (setHalt false y) := by unfold stepS; rw [if_neg hst, if_neg hh, if_pos hi]
    rw [d, e]; rw [Bool.and_eq_true, bne_iff_ne] at hi
    exact mstep_i h0 hn ok hst' hi.1 hi.2
   ·have d : stepD y = ⟨1, 0, y.s.r.pc, opV y, takenV (opV y) (fetchS y)⟩ := by unfold stepD; rw [if_neg hst, if_neg hh, if_neg hi]
    have e : stepS y = runS (setHalt false y) := by unfold stepS; rw [if_neg hst, if_neg hh, if_neg hi]
    rw [d, e]
    refine mstep_r h0 hn ok hst' (fun a b => hh (by rw [a, b]; rfl)) (fun a => ?_)
    by_cases q : pend y.m = 0
    ·exact q
    ·exact absurd (by rw [a, Bool.true_and, bne_iff_ne]; exact q) hi
end
end Go.Proofs.YtngdogldgcgnjaaGreat
namespace Go.Proofs.YtngdogldgcgnjaaGreat
open Go.ChangeShapes Go.WideShapes Go.ChangeAt Go.RowKit
open Reg
set_option linter.unusedVariables false
section
variable {w w' w0 : World} {N R M R2 M2 tb n n2 n' b : Nat} {v v2 v' : Value} {y y2 y' : Sy} {A : Array Value} {X : Nat → Prop}
theorem Bus.carry {C : Nat → Int → Value → Array Value} {m : Int → Int} {acc : List Ac} (h : Bus C w R M tb v m acc n) (ho : Off X w w') (h1 : ¬ X R) (h2 : ¬ X M) (h3 : ∀ k, v.ownBlock = some k → ¬ X k) (T : TabAny w' tb) : Bus C w' R M tb v m acc n := by
 obtain ⟨q, hq⟩ := h.ram
 exact ⟨⟨q, hq.off ho h1⟩, fun a ha => (ho.cell (p := ⟨M, a, none⟩) h.mlt h2).trans (h.mem a ha), fun a => (ho.frozen (p := ⟨M, a, none⟩) h.mlt h2).trans (h.free a), Nat.lt_of_lt_of_le h.mlt ho.size, owns_off h.own ho h3, T, h.rm, h.rt, h.mt, h.vr, h.okm, h.len⟩
def BB (R M R2 M2 tb : Nat) (v v2 : Value) (k : Nat) : Prop := BX R M tb v k ∨ BX R2 M2 tb v2 k
structure Duo (N : Nat) (w : World) (R M R2 M2 tb : Nat) (v v2 : Value) (y y2 : Sy) (n n2 : Nat) : Prop where
 a : Bus ramC w R M tb v y.m y.acc n
 b : Bus memC w R2 M2 tb v2 y2.m y2.acc n2
 d : R ≠ R2 ∧ R ≠ M2 ∧ M ≠ R2 ∧ M ≠ M2
 e : ∀ k, v.ownBlock = some k → k ≠ R2 ∧ k ≠ M2
 f : ∀ k, v2.ownBlock = some k → k ≠ R ∧ k ≠ M
 g : ∀ k, v.ownBlock = some k → ¬ v2.ownBlock = some k
 l : ∀ k, BB R M R2 M2 tb v v2 k → N ≤ k
theorem Duo.nle (h : Duo N w R M R2 M2 tb v v2 y y2 n n2) : N ≤ w.heap.size := Nat.le_of_lt (Nat.lt_of_le_of_lt (h.l R (.inl (.inl rfl))) (h.a.lt (.inl rfl)))
theorem Duo.left (h : Duo N w R M R2 M2 tb v v2 y y2 n n2) (hb : Bus ramC w' R M tb v' y'.m y'.acc n') (hm : BM R M tb v w v' w') : Duo N w' R M R2 M2 tb v' v2 y' y2 n' n2 := by
 have r2 := h.b.lt (.inl rfl : BX R2 M2 tb v2 R2); have hv : ∀ k, v'.ownBlock = some k → v.ownBlock = some k ∨ w.heap.size ≤ k := hm.2
 refine ⟨hb, h.b.carry hm.1 ?_ ?_ ?_ hb.tab, h.d, fun k hk => ?_, h.f, fun k hk hk2 => ?_, fun k hk => ?_⟩
 ·rintro (e | e | e | e)
  ·exact h.d.1 e.symm
  ·exact h.d.2.2.1 e.symm
  ·exact h.b.rt e
  ·exact (h.e _ e).1 rfl
 ·rintro (e | e | e | e)
  ·exact h.d.2.1 e.symm
  ·exact h.d.2.2.2 e.symm
  ·exact h.b.mt e
  ·exact (h.e _ e).2 rfl
 ·intro k hk
  rintro (e | e | e | e)
  ·exact (h.f k hk).1 e
  ·exact (h.f k hk).2 e
  ·exact (h.b.vr k hk).2.2 e
  ·exact h.g k e hk
 ·rcases hv k hk with e | e
  ·exact h.e k e
  ·have := h.b.mlt; omega
 ·rcases hv k hk with e | e
  ·exact h.g k e hk2
  ·have := h.b.lt (.inr (.inr (.inr hk2)) : BX R2 M2 tb v2 k); omega
 ·rcases hk with (e | e | e | e) | e
  ·exact h.l k (.inl (.inl e))
  ·exact h.l k (.inl (.inr (.inl e)))
  ·exact h.l k (.inl (.inr (.inr (.inl e))))
  ·rcases hv k e with e | e
   ·exact h.l k (.inl (.inr (.inr (.inr e))))
   ·exact Nat.le_trans h.nle e
  ·exact h.l k (.inr e)
theorem Duo.right (h : Duo N w R M R2 M2 tb v v2 y y2 n n2) (hb : Bus memC w' R2 M2 tb v' y'.m y'.acc n') (hm : BM R2 M2 tb v2 w v' w') : Duo N w' R M R2 M2 tb v v' y y' n n' := by
 have r2 := h.a.lt (.inl rfl : BX R M tb v R); have hv : ∀ k, v'.ownBlock = some k → v2.ownBlock = some k ∨ w.heap.size ≤ k := hm.2
 refine ⟨h.a.carry hm.1 ?_ ?_ ?_ hb.tab, hb, h.d, h.e, fun k hk => ?_, fun k hk hk2 => ?_, fun k hk => ?_⟩
 ·rintro (e | e | e | e)
  ·exact h.d.1 e
  ·exact h.d.2.1 e
  ·exact h.a.rt e
  ·exact (h.f _ e).1 rfl
 ·rintro (e | e | e | e)
  ·exact h.d.2.2.1 e
  ·exact h.d.2.2.2 e
  ·exact h.a.mt e
  ·exact (h.f _ e).2 rfl
 ·intro k hk
  rintro (e | e | e | e)
  ·exact (h.e k hk).1 e
  ·exact (h.e k hk).2 e
  ·exact (h.a.vr k hk).2.2 e
  ·exact h.g k hk e
 ·rcases hv k hk with e | e
  ·exact h.f k e
  ·have := h.a.mlt; omega
 ·rcases hv k hk2 with e | e
  ·exact h.g k hk e
  ·have := h.a.lt (.inr (.inr (.inr hk)) : BX R M tb v k); omega
 ·rcases hk with e | (e | e | e | e)
  ·exact h.l k (.inl e)
  ·exact h.l k (.inr (.inl e))
  ·exact h.l k (.inr (.inr (.inl e)))
  ·exact h.l k (.inr (.inr (.inr (.inl e))))
  ·rcases hv k e with e | e
   ·exact h.l k (.inr (.inr (.inr (.inr e))))
   ·exact Nat.le_trans h.nle e
theorem Duo.keep (h : Duo N w R M R2 M2 tb v v2 y y2 n n2) (ho : Off X w w') (hx : ∀ k, BB R M R2 M2 tb v v2 k → ¬ X k) : Duo N w' R M R2 M2 tb v v2 y y2 n n2 :=
 ⟨h.a.keep ho (fun k hk => hx k (.inl hk)), h.b.keep ho (fun k hk => hx k (.inr hk)), h.d, h.e, h.f, h.g, h.l⟩
theorem Duo.below (h : Duo N w R M R2 M2 tb v v2 y y2 n n2) (hb : Below w.heap.size w w') : Duo N w' R M R2 M2 tb v v2 y y2 n n2 := h.keep (Off.of (fun _ => False) hb) (fun _ _ h => h)
theorem Duo.lt (h : Duo N w R M R2 M2 tb v v2 y y2 n n2) {k : Nat} (hk : BB R M R2 M2 tb v v2 k) : k < w.heap.size := hk.elim h.a.lt h.b.lt
theorem Duo.bl (h : Duo N w R M R2 M2 tb v v2 y y2 n n2) (hb : Below N w0 w) (hm : BM R M tb v w v' w') : Below N w0 w' :=
 hb.trans (hm.1.below (fun k hk hx => Nat.not_lt.2 (h.l k (.inl hx)) hk) h.nle)
theorem Duo.br (h : Duo N w R M R2 M2 tb v v2 y y2 n n2) (hb : Below N w0 w) (hm : BM R2 M2 tb v2 w v' w') : Below N w0 w' :=
 hb.trans (hm.1.below (fun k hk hx => Nat.not_lt.2 (h.l k (.inr hx)) hk) h.nle)
def Mine (N : Nat) (w : World) (R M R2 M2 tb : Nat) (v v2 : Value) (b : Nat) (A : Array Value) : Prop := Has w b A ∧ N ≤ b ∧ ¬ BB R M R2 M2 tb v v2 b
theorem Mine.left (h : Mine N w R M R2 M2 tb v v2 b A) (hm : BM R M tb v w v' w') : Mine N w' R M R2 M2 tb v' v2 b A :=
 ⟨h.1.off hm.1 (fun e => h.2.2 (.inl e)), h.2.1, fun e => e.elim (fun e => hm.far h.1.1 (fun e => h.2.2 (.inl e)) e) (fun e => h.2.2 (.inr e))⟩
theorem Mine.right (h : Mine N w R M R2 M2 tb v v2 b A) (hm : BM R2 M2 tb v2 w v' w') : Mine N w' R M R2 M2 tb v v' b A :=
 ⟨h.1.off hm.1 (fun e => h.2.2 (.inr e)), h.2.1, fun e => e.elim (fun e => h.2.2 (.inl e)) (fun e => hm.far h.1.1 (fun e => h.2.2 (.inr e)) e)⟩
theorem Mine.below (h : Mine N w R M R2 M2 tb v v2 b A) (hb : Below w.heap.size w w') : Mine N w' R M R2 M2 tb v v2 b A := ⟨h.1.below hb, h.2⟩
theorem Duo.new (h : Duo N w R M R2 M2 tb v v2 y y2 n n2) (A : Array Value) (t : TypeId) : Mine N (w.alloc (.cells A t)) R M R2 M2 tb v v2 w.heap.size A :=
 ⟨Has.new w A t, h.nle, fun e => Nat.lt_irrefl _ (h.lt e)⟩
theorem Duo.off1 (h : Duo N w R M R2 M2 tb v v2 y y2 n n2) (ho : Off (fun k => k = b) w w') (hm : Mine N w R M R2 M2 tb v v2 b A) : Duo N w' R M R2 M2 tb v v2 y y2 n n2 :=
 h.keep ho (fun k hk e => hm.2.2 (by rw [← show k = b from e]; exact hk))
theorem Mine.off1 {c : Nat} {B : Array Value} (h : Mine N w R M R2 M2 tb v v2 c B) (ho : Off (fun k => k = b) w w') (hn : c ≠ b) : Mine N w' R M R2 M2 tb v v2 c B := ⟨h.1.off ho hn, h.2⟩
theorem Mine.bl (hm : Mine N w R M R2 M2 tb v v2 b A) (hb : Below N w0 w) (ho : Off (fun k => k = b) w w') (hs : N ≤ w.heap.size) : Below N w0 w' :=
 hb.trans (ho.below (fun k hk e => by have := hm.2.1; have e' : k = b := e; omega) hs)
theorem Mine.put14 {s : St} (h : Mine N w R M R2 M2 tb v v2 b #[.int .u8 s.r.a, .int .u8 s.r.f, .int .u8 s.r.b, .int .u8 s.r.c, .int .u8 s.r.d, .int .u8 s.r.e, .int .u8 s.r.h, .int .u8 s.r.l, .int .u16 s.r.sp, .int .u16 s.r.pc, .bool s.ime, .bool s.soon, .bool s.halt, .bool s.stop]) (s' : St) : Mine N (World.setCell (World.setCell (World.setCell (World.setCell (World.setCell (World.setCell (World.setCell (World.setCell (World.setCell (World.setCell (World.setCell (World.setCell (World.setCell (World.setCell w ⟨b, 0, none⟩ (.int .u8 s'.r.a)) ⟨b, 1, none⟩ (.int .u8 s'.r.f)) ⟨b, 2, none⟩ (.int .u8 s'.r.b)) ⟨b, 3, none⟩ (.int .u8 s'.r.c)) ⟨b, 4, none⟩ (.int .u8 s'.r.d)) ⟨b, 5, none⟩ (.int .u8 s'.r.e)) ⟨b, 6, none⟩ (.int .u8 s'.r.h)) ⟨b, 7, none⟩ (.int .u8 s'.r.l)) ⟨b, 8, none⟩ (.int .u16 s'.r.sp)) ⟨b, 9, none⟩ (.int .u16 s'.r.pc)) ⟨b, 10, none⟩ (.bool s'.ime)) ⟨b, 11, none⟩ (.bool s'.soon)) ⟨b, 12, none⟩ (.bool s'.halt)) ⟨b, 13, none⟩ (.bool s'.stop)) R M R2 M2 tb v v2 b #[.int .u8 s'.r.a, .int .u8 s'.r.f, .int .u8 s'.r.b, .int .u8 s'.r.c, .int .u8 s'.r.d, .int .u8 s'.r.e, .int .u8 s'.r.h, .int .u8 s'.r.l, .int .u16 s'.r.sp, .int .u16 s'.r.pc, .bool s'.ime, .bool s'.soon, .bool s'.halt, .bool s'.stop] := ⟨h.1.put14 s', h.2⟩
theorem Mine.put9 (h : Mine N w R M R2 M2 tb v v2 b #[.int .i64 0, .int .i64 0, .int .u16 0, .int .i64 0, .int .i64 0, .int .i64 0, .int .i64 0, .int .u16 0, .bool false]) (d : DidV) : Mine N (World.setCell (World.setCell (World.setCell (World.setCell (World.setCell (World.setCell (World.setCell (World.setCell (World.setCell w ⟨b, 0, none⟩ (.int .i64 d.what)) ⟨b, 1, none⟩ (.int .i64 d.n)) ⟨b, 2, none⟩ (.int .u16 d.at')) ⟨b, 3, none⟩ (.int .i64 d.o.k)) ⟨b, 4, none⟩ (.int .i64 d.o.x)) ⟨b, 5, none⟩ (.int .i64 d.o.y)) ⟨b, 6, none⟩ (.int .i64 d.o.s)) ⟨b, 7, none⟩ (.int .u16 d.o.n)) ⟨b, 8, none⟩ (.bool d.t)) R M R2 M2 tb v v2 b #[.int .i64 d.what, .int .i64 d.n, .int .u16 d.at', .int .i64 d.o.k, .int .i64 d.o.x, .int .i64 d.o.y, .int .i64 d.o.s, .int .u16 d.o.n, .bool d.t] := ⟨h.1.put9 d, h.2⟩
end
theorem Fi.bus2 {w : World} {M n tb : Nat} {f : Nat → Int} (h : Fi w M n f 65536) (hf : ∀ j, 0 ≤ f j ∧ f j < 256) (T : TabAny w tb) (hM : M ≠ tb) : Bus memC (w.alloc (.cells (memC M 0 (.slice none 0 0)) 38)) w.heap.size M tb (.slice none 0 0) (fillM n f) [] 0 := by
 have h2 := Has.new w (memC M 0 (.slice none 0 0)) 38; have hO := own1 w (.cells (memC M 0 (.slice none 0 0)) 38); have hb := bcell hO; have tl := T.lt; have hl := h.lt
 refine ⟨⟨0, h2⟩, fun a ha => ?_, fun a => (hb.2 M a h.lt).trans (h.free a), by simpa using Nat.lt_succ_of_lt h.lt, World.ownsRow_nil _ _ _ _, T.off (Off.of (fun _ => False) hO) id, by omega, by omega, hM, fun k hk => by simp [Value.ownBlock] at hk, fillM_ok hf, Nat.le_refl _⟩
 rw [hb.1 M a h.lt, h.mem a ha, if_pos ha]
 rfl
theorem Fi.below {w w' : World} {M n k : Nat} {f : Nat → Int} (h : Fi w M n f k) (hb : Below w.heap.size w w') : Fi w' M n f k := by
 have q := bcell hb
 exact ⟨Nat.lt_of_lt_of_le h.lt hb.size, fun a ha => (q.1 M a h.lt).trans (h.mem a ha), fun a => (q.2 M a h.lt).trans (h.free a)⟩
end Go.Proofs.YtngdogldgcgnjaaGreat
