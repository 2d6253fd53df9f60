/-
  What one step makes of a processor that waits, or stands, in CpuWakes: the four ways; no condition beyond those that each statement names.
-/
import Derived.Test.YtngdogldgcgnjaaGreatL4p
namespace Go.Proofs.YtngdogldgcgnjaaGreat
open Go.ChangeShapes Go.WideShapes Go.ChangeAt Go.RowKit
open Reg
open Alu hiding decF
set_option linter.unusedVariables false
/-- The memory of CpuWakes: the flags and what is let in; the rest is 0. -/
def wakeM (fl le : Int) : Int → Int := upd (upd (fun _ => 0) 65295 fl) 65535 le
def wakeY (r : RR) (ime soon stop : Bool) (fl le : Int) : Sy := ⟨⟨{ r with pc := 256 }, ime, soon, true, stop⟩, wakeM fl le, []⟩
def thereV (fl le : Int) : Int := bits .and .u8 (bits .and .u8 fl le) 31
theorem wake_pend (fl le : Int) : pend (wakeM fl le) = thereV fl le := by
  have h1 : wakeM fl le 65295 = fl := by unfold wakeM; rw [upd_far _ _ _ _ (by decide), upd_same]
  have h2 : wakeM fl le 65535 = le := by unfold wakeM; rw [upd_same]
  unfold pend thereV
  rw [h1, h2]
theorem there_bd (fl le : Int) (h0 : 0 ≤ fl) (h1 : fl < 256) (h2 : 0 ≤ le) (h3 : le < 256) : 0 ≤ thereV fl le ∧ thereV fl le < 32 := by
  unfold thereV
  rw [u8_and fl le h0 h1 h2 h3]
  have hx : fl.toNat &&& le.toNat < 2 ^ 8 := Nat.and_lt_two_pow _ (by omega)
  have e := u8_and_nat (fl.toNat &&& le.toNat) 31 (by omega) (by decide)
  have hy : (fl.toNat &&& le.toNat) &&& 31 < 2 ^ 5 := Nat.and_lt_two_pow _ (by decide)
  rw [show (31 : Int) = ((31 : Nat) : Int) from rfl, e]
  omega
/-- It stands. -/
theorem wake_stop (r : RR) (ime soon : Bool) (fl le : Int) : stepS (wakeY r ime soon true fl le) = ⟨⟨{ r with pc := 256 }, ime, soon, true, !(decide (thereV fl le / 16 % 2 = 1))⟩, wakeM fl le, [⟨0, 0, 0⟩]⟩ ∧ (stepD (wakeY r ime soon true fl le)).what = 0 := by
  refine ⟨?_, rfl⟩
  show (if pend (wakeM fl le) / 16 % 2 = 1 then _ else _) = _
  rw [wake_pend]
  by_cases h : thereV fl le / 16 % 2 = 1
  · rw [if_pos h]; simp [h, setStop, idle, wakeY]
  · rw [if_neg h]; simp [h, idle, wakeY]
/-- It waits, and nothing is there. -/
theorem wake_none (r : RR) (ime soon : Bool) (fl le : Int) (h : thereV fl le = 0) : stepS (wakeY r ime soon false fl le) = ⟨⟨{ r with pc := 256 }, ime, soon, true, false⟩, wakeM fl le, [⟨0, 0, 0⟩]⟩ ∧ (stepD (wakeY r ime soon false fl le)).what = 0 := by
  have hp : (pend (wakeM fl le) == 0) = true := by rw [wake_pend, h]; rfl
  constructor
  · show (if (true && pend (wakeM fl le) == 0) = true then _ else _) = _
    rw [hp]; rfl
  · show (if (true && pend (wakeM fl le) == 0) = true then _ else _ : DidV).what = _
    rw [hp]; rfl
/-- It waits, something is there, and none is let in: it runs an order that does nothing. -/
theorem wake_run (r : RR) (soon : Bool) (fl le : Int) (h : ¬ thereV fl le = 0) : (stepS (wakeY r false soon false fl le)).m = wakeM fl le ∧ (stepD (wakeY r false soon false fl le)).what = 1 := by
  have hp : (pend (wakeM fl le) == 0) = false := by rw [wake_pend]; simpa using h
  constructor
  · show (if (true && pend (wakeM fl le) == 0) = true then _ else _ : Sy).m = _
    rw [hp]; kernel_rfl
  · show (if (true && pend (wakeM fl le) == 0) = true then _ else _ : DidV).what = _
    rw [hp]; rfl
theorem inter_s (n : Nat) (r : RR) (soon : Bool) (m : Int → Int) : interS n ⟨⟨r, true, soon, false, false⟩, m, []⟩ = ⟨⟨{ r with sp := dn (dn r.sp), pc := 64 + 8 * (n : Int) }, false, false, false, false⟩, ackM n (upd (upd m (dn r.sp) (r.pc / 256)) (dn (dn r.sp)) (r.pc % 256)), (interS n ⟨⟨r, true, soon, false, false⟩, m, []⟩).acc⟩ ∧ (interS n ⟨⟨r, true, soon, false, false⟩, m, []⟩).acc.length = 5 := ⟨by kernel_rfl, by kernel_rfl⟩
/-- It waits, something is there, and it is let in. -/
theorem wake_call (r : RR) (soon : Bool) (fl le : Int) (h : ¬ thereV fl le = 0) (s0 : 49152 ≤ r.sp) (s1 : r.sp ≤ 61440) :
    (stepS (wakeY r true soon false fl le)).s = ⟨{ r with sp := r.sp - 2, pc := 64 + 8 * (lowV (thereV fl le) : Int) }, false, false, false, false⟩ ∧
    (stepS (wakeY r true soon false fl le)).m (r.sp - 2) = 0 ∧ (stepS (wakeY r true soon false fl le)).m (r.sp - 1) = 1 ∧ (stepS (wakeY r true soon false fl le)).m 65295 = clr fl (lowV (thereV fl le)) ∧
    (stepS (wakeY r true soon false fl le)).acc.length = 5 ∧ (stepD (wakeY r true soon false fl le)).what = 2 ∧ (stepD (wakeY r true soon false fl le)).n = lowV (thereV fl le) := by
  have hp : (pend (wakeM fl le) == 0) = false := by rw [wake_pend]; simpa using h
  have hq : (pend (wakeM fl le) != 0) = true := by rw [wake_pend]; simpa using h
  have e1 : stepS (wakeY r true soon false fl le) = interS (lowV (thereV fl le)) ⟨⟨{ r with pc := 256 }, true, soon, false, false⟩, wakeM fl le, []⟩ := by
    show (if (true && pend (wakeM fl le) == 0) = true then _ else if (true && pend (wakeM fl le) != 0) = true then interS (lowV (pend (wakeM fl le))) _ else _ : Sy) = _
    rw [hp, hq, wake_pend]; rfl
  have e2 : stepD (wakeY r true soon false fl le) = ⟨2, lowV (thereV fl le), 256, noOp, false⟩ := by
    show (if (true && pend (wakeM fl le) == 0) = true then _ else if (true && pend (wakeM fl le) != 0) = true then ⟨2, lowV (pend (wakeM fl le)), _, _, _⟩ else _ : DidV) = _
    rw [hp, hq, wake_pend]; rfl
  have d1 : dn r.sp = r.sp - 1 := by unfold dn; omega
  have d2 : dn (r.sp - 1) = r.sp - 2 := by unfold dn; omega
  obtain ⟨i1, i2⟩ := inter_s (lowV (thereV fl le)) { r with pc := 256 } soon (wakeM fl le)
  dsimp only at i1
  rw [d1, d2] at i1
  rw [e2, e1]
  have w0 : wakeM fl le 65295 = fl := by unfold wakeM; rw [upd_far _ _ _ _ (by decide), upd_same]
  have hm : (interS (lowV (thereV fl le)) ⟨⟨{ r with pc := 256 }, true, soon, false, false⟩, wakeM fl le, []⟩).m = ackM (lowV (thereV fl le)) (upd (upd (wakeM fl le) (r.sp - 1) (256 / 256)) (r.sp - 2) (256 % 256)) := by rw [i1]
  refine ⟨by rw [i1], ?_, ?_, ?_, i2, rfl, rfl⟩
  · rw [hm]; unfold ackM; rw [upd_far _ _ _ _ (by omega), upd_same]; rfl
  · rw [hm]; unfold ackM; rw [upd_far _ _ _ _ (by omega), upd_far _ _ _ _ (by omega), upd_same]; rfl
  · rw [hm]; unfold ackM; rw [upd_same, upd_far _ _ _ _ (by omega), upd_far _ _ _ _ (by omega), w0]
end Go.Proofs.YtngdogldgcgnjaaGreat
