/-
  CpuNil as plain data, second half: what a step reads is what lay there at first; a step over two memories that agree at all that is read, and where interrupts lie, does the same: for every state whose bytes are bytes; no other condition.
-/
import Derived.Test.YtngdogldgcgnjaaGreatL8p
import Derived.Test.YtngdogldgcgnjaaGreatP11
namespace Go.Proofs.YtngdogldgcgnjaaGreat
open Go.ChangeShapes Go.WideShapes Go.ChangeAt Go.RowKit
open Reg
open Alu hiding decF
set_option linter.unusedVariables false
/-- What was read is what lies in m0. -/
def Vl (m0 : Int → Int) (y : Sy) : Prop := ∀ c, c ∈ y.acc → (c.k = 0 ∨ c.k = 2) ∨ ((c.k = 1 ∨ c.k = 3) ∧ c.v = m0 c.a ∧ 0 ≤ c.a ∧ c.a < 65536)
section
variable {m0 : Int → Int} {y y1 : Sy}
theorem Vl.eq (h : Vl m0 y) (e : y1.acc = y.acc) : Vl m0 y1 := fun c hc => h c (by rw [← e]; exact hc)
theorem Vl.one (h : Vl m0 y) (x : Ac) (e : y1.acc = y.acc ++ [x]) (hx : (x.k = 0 ∨ x.k = 2) ∨ ((x.k = 1 ∨ x.k = 3) ∧ x.v = m0 x.a ∧ 0 ≤ x.a ∧ x.a < 65536)) : Vl m0 y1 := fun c hc => by
 rw [e] at hc
 rcases List.mem_append.1 hc with hc | hc
 ·exact h c hc
 ·rw [List.mem_singleton.1 hc]; exact hx
theorem Vl.rd (h : Vl m0 y) (k a : Int) (e : y.m a = m0 a) (b : 0 ≤ a ∧ a < 65536) (hk : k = 1 ∨ k = 3 := by decide) : Vl m0 (Go.Proofs.YtngdogldgcgnjaaGreat.rd k a y) := h.one _ rfl (Or.inr ⟨hk, e, b⟩)
theorem Vl.wr (h : Vl m0 y) (a x : Int) : Vl m0 (Go.Proofs.YtngdogldgcgnjaaGreat.wr a x y) := h.one _ rfl (Or.inl (Or.inr rfl))
theorem Vl.idle (h : Vl m0 y) : Vl m0 (Go.Proofs.YtngdogldgcgnjaaGreat.idle y) := h.one _ rfl (Or.inl (Or.inl rfl))
theorem Vl.getS (h : Vl m0 y) (n : Int) (e : y.m = m0) (ok : y.s.r.ok) : Vl m0 (Go.Proofs.YtngdogldgcgnjaaGreat.getS n y) := by
 unfold Go.Proofs.YtngdogldgcgnjaaGreat.getS; split
 ·exact h.rd _ _ (by rw [e]) (pairV_b ok 2)
 ·exact h
theorem Vl.putS (h : Vl m0 y) (n x : Int) : Vl m0 (Go.Proofs.YtngdogldgcgnjaaGreat.putS n x y) := by
 unfold Go.Proofs.YtngdogldgcgnjaaGreat.putS; split
 ·exact h.wr _ _
 ·exact h.eq rfl
theorem Vl.storeS (h : Vl m0 y) (x : Int) : Vl m0 (Go.Proofs.YtngdogldgcgnjaaGreat.storeS x y) :=
 Vl.wr (y := Go.Proofs.YtngdogldgcgnjaaGreat.setSP (dn (dn y.s.r.sp)) (Go.Proofs.YtngdogldgcgnjaaGreat.wr (dn y.s.r.sp) (x / 256) (Go.Proofs.YtngdogldgcgnjaaGreat.setSP (dn y.s.r.sp) y))) (Vl.eq (Vl.wr (y := Go.Proofs.YtngdogldgcgnjaaGreat.setSP (dn y.s.r.sp) y) (h.eq rfl) _ _) rfl) _ _
theorem Vl.pushS (h : Vl m0 y) (x : Int) : Vl m0 (Go.Proofs.YtngdogldgcgnjaaGreat.pushS x y) := h.idle.storeS x
theorem Vl.popS (h : Vl m0 y) (e : y.m = m0) (ok : y.s.r.ok) : Vl m0 (Go.Proofs.YtngdogldgcgnjaaGreat.popS y) :=
 Vl.eq (Vl.rd (y := Go.Proofs.YtngdogldgcgnjaaGreat.setSP (up y.s.r.sp) (Go.Proofs.YtngdogldgcgnjaaGreat.rd 1 y.s.r.sp y)) (Vl.eq (h.rd 1 y.s.r.sp (by rw [e]) ok.2.2.2.2.2.2.2.2.1) rfl) 1 (up y.s.r.sp) (by show y.m _ = _; rw [e]) (by unfold up; omega)) rfl
theorem Vl.enterS (h : Vl m0 y) (x : Int) : Vl m0 (Go.Proofs.YtngdogldgcgnjaaGreat.enterS x y) := Vl.eq (h.pushS y.s.r.pc) rfl
theorem Vl.leaveS (h : Vl m0 y) (e : y.m = m0) (ok : y.s.r.ok) : Vl m0 (Go.Proofs.YtngdogldgcgnjaaGreat.leaveS y) := Vl.idle (Vl.eq (h.popS e ok) rfl)
theorem Vl.interS (h : Vl m0 y) (n : Nat) : Vl m0 (Go.Proofs.YtngdogldgcgnjaaGreat.interS n y) := by
 have q := (h.idle.idle).storeS y.s.r.pc
 have q2 : Vl m0 (Go.Proofs.YtngdogldgcgnjaaGreat.idle (Go.Proofs.YtngdogldgcgnjaaGreat.setM (ackM n (Go.Proofs.YtngdogldgcgnjaaGreat.storeS y.s.r.pc (Go.Proofs.YtngdogldgcgnjaaGreat.idle (Go.Proofs.YtngdogldgcgnjaaGreat.idle y))).m) (Go.Proofs.YtngdogldgcgnjaaGreat.storeS y.s.r.pc (Go.Proofs.YtngdogldgcgnjaaGreat.idle (Go.Proofs.YtngdogldgcgnjaaGreat.idle y))))) := Vl.idle (Vl.eq q rfl)
 exact Vl.eq q2 rfl
theorem thruV_bd {y : Sy} (ok : y.s.r.ok) (x : Int) : 0 ≤ Go.Proofs.YtngdogldgcgnjaaGreat.thruV x y ∧ Go.Proofs.YtngdogldgcgnjaaGreat.thruV x y < 65536 := by
 unfold Go.Proofs.YtngdogldgcgnjaaGreat.thruV; split
 ·exact pairV_b ok 2
 ·split
  ·exact pairV_b ok 2
  ·exact pairV_b ok x
theorem thruS_mm (x : Int) (y : Sy) : (Go.Proofs.YtngdogldgcgnjaaGreat.thruS x y).m = y.m := by
 unfold Go.Proofs.YtngdogldgcgnjaaGreat.thruS; split
 ·rfl
 ·split <;> rfl
end
theorem val_2 {m0 : Int → Int} {y : Sy} (h : Vl m0 y) (hm : y.m = m0) (ok : y.s.r.ok) (x z sz n : Int) (t : Bool) (hn : ((2 : Int) = 34 → 0 ≤ n ∧ n < 256) ∧ 0 ≤ n ∧ n < 65536) : Vl m0 (doneS ⟨2, x, z, sz, n⟩ t y) := by
 rw [done_2]
 exact h.eq rfl
theorem val_3 {m0 : Int → Int} {y : Sy} (h : Vl m0 y) (hm : y.m = m0) (ok : y.s.r.ok) (x z sz n : Int) (t : Bool) (hn : ((3 : Int) = 34 → 0 ≤ n ∧ n < 256) ∧ 0 ≤ n ∧ n < 65536) : Vl m0 (doneS ⟨3, x, z, sz, n⟩ t y) := by
 rw [done_3]
 exact h.eq rfl
theorem val_4 {m0 : Int → Int} {y : Sy} (h : Vl m0 y) (hm : y.m = m0) (ok : y.s.r.ok) (x z sz n : Int) (t : Bool) (hn : ((4 : Int) = 34 → 0 ≤ n ∧ n < 256) ∧ 0 ≤ n ∧ n < 65536) : Vl m0 (doneS ⟨4, x, z, sz, n⟩ t y) := by
 rw [done_4]
 exact h.eq rfl
theorem val_5 {m0 : Int → Int} {y : Sy} (h : Vl m0 y) (hm : y.m = m0) (ok : y.s.r.ok) (x z sz n : Int) (t : Bool) (hn : ((5 : Int) = 34 → 0 ≤ n ∧ n < 256) ∧ 0 ≤ n ∧ n < 65536) : Vl m0 (doneS ⟨5, x, z, sz, n⟩ t y) := by
 rw [done_5]
 exact h.eq rfl
theorem val_6 {m0 : Int → Int} {y : Sy} (h : Vl m0 y) (hm : y.m = m0) (ok : y.s.r.ok) (x z sz n : Int) (t : Bool) (hn : ((6 : Int) = 34 → 0 ≤ n ∧ n < 256) ∧ 0 ≤ n ∧ n < 65536) : Vl m0 (doneS ⟨6, x, z, sz, n⟩ t y) := by
 rw [done_6]
 exact h.eq rfl
theorem val_7 {m0 : Int → Int} {y : Sy} (h : Vl m0 y) (hm : y.m = m0) (ok : y.s.r.ok) (x z sz n : Int) (t : Bool) (hn : ((7 : Int) = 34 → 0 ≤ n ∧ n < 256) ∧ 0 ≤ n ∧ n < 65536) : Vl m0 (doneS ⟨7, x, z, sz, n⟩ t y) := by
 rw [done_7]
 exact (h.getS z hm ok).putS _ _
theorem val_8 {m0 : Int → Int} {y : Sy} (h : Vl m0 y) (hm : y.m = m0) (ok : y.s.r.ok) (x z sz n : Int) (t : Bool) (hn : ((8 : Int) = 34 → 0 ≤ n ∧ n < 256) ∧ 0 ≤ n ∧ n < 65536) : Vl m0 (doneS ⟨8, x, z, sz, n⟩ t y) := by
 rw [done_8]
 exact h.putS _ _
theorem val_9 {m0 : Int → Int} {y : Sy} (h : Vl m0 y) (hm : y.m = m0) (ok : y.s.r.ok) (x z sz n : Int) (t : Bool) (hn : ((9 : Int) = 34 → 0 ≤ n ∧ n < 256) ∧ 0 ≤ n ∧ n < 65536) : Vl m0 (doneS ⟨9, x, z, sz, n⟩ t y) := by
 rw [done_9]
 exact h.eq rfl
theorem val_10 {m0 : Int → Int} {y : Sy} (h : Vl m0 y) (hm : y.m = m0) (ok : y.s.r.ok) (x z sz n : Int) (t : Bool) (hn : ((10 : Int) = 34 → 0 ≤ n ∧ n < 256) ∧ 0 ≤ n ∧ n < 65536) : Vl m0 (doneS ⟨10, x, z, sz, n⟩ t y) := by
 rw [done_10]
 exact (h.getS z hm ok).eq rfl
theorem val_11 {m0 : Int → Int} {y : Sy} (h : Vl m0 y) (hm : y.m = m0) (ok : y.s.r.ok) (x z sz n : Int) (t : Bool) (hn : ((11 : Int) = 34 → 0 ≤ n ∧ n < 256) ∧ 0 ≤ n ∧ n < 65536) : Vl m0 (doneS ⟨11, x, z, sz, n⟩ t y) := by
 rw [done_11]
 exact h.eq rfl
theorem val_12 {m0 : Int → Int} {y : Sy} (h : Vl m0 y) (hm : y.m = m0) (ok : y.s.r.ok) (x z sz n : Int) (t : Bool) (hn : ((12 : Int) = 34 → 0 ≤ n ∧ n < 256) ∧ 0 ≤ n ∧ n < 65536) : Vl m0 (doneS ⟨12, x, z, sz, n⟩ t y) := by
 rw [done_12]
 exact Vl.eq ((h.getS x hm ok).putS _ _) rfl
theorem val_13 {m0 : Int → Int} {y : Sy} (h : Vl m0 y) (hm : y.m = m0) (ok : y.s.r.ok) (x z sz n : Int) (t : Bool) (hn : ((13 : Int) = 34 → 0 ≤ n ∧ n < 256) ∧ 0 ≤ n ∧ n < 65536) : Vl m0 (doneS ⟨13, x, z, sz, n⟩ t y) := by
 rw [done_13]
 exact Vl.eq ((h.getS x hm ok).putS _ _) rfl
theorem val_14 {m0 : Int → Int} {y : Sy} (h : Vl m0 y) (hm : y.m = m0) (ok : y.s.r.ok) (x z sz n : Int) (t : Bool) (hn : ((14 : Int) = 34 → 0 ≤ n ∧ n < 256) ∧ 0 ≤ n ∧ n < 65536) : Vl m0 (doneS ⟨14, x, z, sz, n⟩ t y) := by
 rw [done_14]
 exact Vl.eq h.idle rfl
theorem val_15 {m0 : Int → Int} {y : Sy} (h : Vl m0 y) (hm : y.m = m0) (ok : y.s.r.ok) (x z sz n : Int) (t : Bool) (hn : ((15 : Int) = 34 → 0 ≤ n ∧ n < 256) ∧ 0 ≤ n ∧ n < 65536) : Vl m0 (doneS ⟨15, x, z, sz, n⟩ t y) := by
 rw [done_15]
 exact Vl.eq h.idle rfl
theorem val_16 {m0 : Int → Int} {y : Sy} (h : Vl m0 y) (hm : y.m = m0) (ok : y.s.r.ok) (x z sz n : Int) (t : Bool) (hn : ((16 : Int) = 34 → 0 ≤ n ∧ n < 256) ∧ 0 ≤ n ∧ n < 65536) : Vl m0 (doneS ⟨16, x, z, sz, n⟩ t y) := by
 rw [done_16]
 exact Vl.eq h.idle rfl
theorem val_17 {m0 : Int → Int} {y : Sy} (h : Vl m0 y) (hm : y.m = m0) (ok : y.s.r.ok) (x z sz n : Int) (t : Bool) (hn : ((17 : Int) = 34 → 0 ≤ n ∧ n < 256) ∧ 0 ≤ n ∧ n < 65536) : Vl m0 (doneS ⟨17, x, z, sz, n⟩ t y) := by
 rw [done_17]
 exact Vl.putS (y := setF (turnF x (getY z y) y.s.r.f) (getS z y)) (Vl.eq (h.getS z hm ok) rfl) _ _
theorem val_18 {m0 : Int → Int} {y : Sy} (h : Vl m0 y) (hm : y.m = m0) (ok : y.s.r.ok) (x z sz n : Int) (t : Bool) (hn : ((18 : Int) = 34 → 0 ≤ n ∧ n < 256) ∧ 0 ≤ n ∧ n < 65536) : Vl m0 (doneS ⟨18, x, z, sz, n⟩ t y) := by
 rw [done_18]
 exact h.eq rfl
theorem val_19 {m0 : Int → Int} {y : Sy} (h : Vl m0 y) (hm : y.m = m0) (ok : y.s.r.ok) (x z sz n : Int) (t : Bool) (hn : ((19 : Int) = 34 → 0 ≤ n ∧ n < 256) ∧ 0 ≤ n ∧ n < 65536) : Vl m0 (doneS ⟨19, x, z, sz, n⟩ t y) := by
 rw [done_19]
 exact h.eq rfl
theorem val_20 {m0 : Int → Int} {y : Sy} (h : Vl m0 y) (hm : y.m = m0) (ok : y.s.r.ok) (x z sz n : Int) (t : Bool) (hn : ((20 : Int) = 34 → 0 ≤ n ∧ n < 256) ∧ 0 ≤ n ∧ n < 65536) : Vl m0 (doneS ⟨20, x, z, sz, n⟩ t y) := by
 rw [done_20]
 exact h.eq rfl
theorem val_21 {m0 : Int → Int} {y : Sy} (h : Vl m0 y) (hm : y.m = m0) (ok : y.s.r.ok) (x z sz n : Int) (t : Bool) (hn : ((21 : Int) = 34 → 0 ≤ n ∧ n < 256) ∧ 0 ≤ n ∧ n < 65536) : Vl m0 (doneS ⟨21, x, z, sz, n⟩ t y) := by
 rw [done_21]
 exact h.eq rfl
theorem val_22 {m0 : Int → Int} {y : Sy} (h : Vl m0 y) (hm : y.m = m0) (ok : y.s.r.ok) (x z sz n : Int) (t : Bool) (hn : ((22 : Int) = 34 → 0 ≤ n ∧ n < 256) ∧ 0 ≤ n ∧ n < 65536) : Vl m0 (doneS ⟨22, x, z, sz, n⟩ t y) := by
 rw [done_22]
 exact h.eq rfl
theorem val_23 {m0 : Int → Int} {y : Sy} (h : Vl m0 y) (hm : y.m = m0) (ok : y.s.r.ok) (x z sz n : Int) (t : Bool) (hn : ((23 : Int) = 34 → 0 ≤ n ∧ n < 256) ∧ 0 ≤ n ∧ n < 65536) : Vl m0 (doneS ⟨23, x, z, sz, n⟩ t y) := by
 rw [done_23]
 cases t with
 | true => exact Vl.eq h.idle rfl
 | false => exact h
theorem val_24 {m0 : Int → Int} {y : Sy} (h : Vl m0 y) (hm : y.m = m0) (ok : y.s.r.ok) (x z sz n : Int) (t : Bool) (hn : ((24 : Int) = 34 → 0 ≤ n ∧ n < 256) ∧ 0 ≤ n ∧ n < 65536) : Vl m0 (doneS ⟨24, x, z, sz, n⟩ t y) := by
 rw [done_24]
 cases t with
 | true => exact Vl.eq h.idle rfl
 | false => exact h
theorem val_25 {m0 : Int → Int} {y : Sy} (h : Vl m0 y) (hm : y.m = m0) (ok : y.s.r.ok) (x z sz n : Int) (t : Bool) (hn : ((25 : Int) = 34 → 0 ≤ n ∧ n < 256) ∧ 0 ≤ n ∧ n < 65536) : Vl m0 (doneS ⟨25, x, z, sz, n⟩ t y) := by
 rw [done_25]
 cases t with
 | true => exact h.enterS _
 | false => exact h
theorem val_26 {m0 : Int → Int} {y : Sy} (h : Vl m0 y) (hm : y.m = m0) (ok : y.s.r.ok) (x z sz n : Int) (t : Bool) (hn : ((26 : Int) = 34 → 0 ≤ n ∧ n < 256) ∧ 0 ≤ n ∧ n < 65536) : Vl m0 (doneS ⟨26, x, z, sz, n⟩ t y) := by
 rw [done_26]
 cases t with
 | true =>
  cases hx : x == 4 with
  | true => exact h.leaveS hm ok
  | false => exact h.idle.leaveS hm ok
 | false =>
  cases hx : x == 4 with
  | true => exact h
  | false => exact h.idle
theorem val_27 {m0 : Int → Int} {y : Sy} (h : Vl m0 y) (hm : y.m = m0) (ok : y.s.r.ok) (x z sz n : Int) (t : Bool) (hn : ((27 : Int) = 34 → 0 ≤ n ∧ n < 256) ∧ 0 ≤ n ∧ n < 65536) : Vl m0 (doneS ⟨27, x, z, sz, n⟩ t y) := by
 rw [done_27]
 exact Vl.eq (h.leaveS hm ok) rfl
theorem val_28 {m0 : Int → Int} {y : Sy} (h : Vl m0 y) (hm : y.m = m0) (ok : y.s.r.ok) (x z sz n : Int) (t : Bool) (hn : ((28 : Int) = 34 → 0 ≤ n ∧ n < 256) ∧ 0 ≤ n ∧ n < 65536) : Vl m0 (doneS ⟨28, x, z, sz, n⟩ t y) := by
 rw [done_28]
 exact h.enterS _
theorem val_29 {m0 : Int → Int} {y : Sy} (h : Vl m0 y) (hm : y.m = m0) (ok : y.s.r.ok) (x z sz n : Int) (t : Bool) (hn : ((29 : Int) = 34 → 0 ≤ n ∧ n < 256) ∧ 0 ≤ n ∧ n < 65536) : Vl m0 (doneS ⟨29, x, z, sz, n⟩ t y) := by
 rw [done_29]
 exact h.eq rfl
theorem val_30 {m0 : Int → Int} {y : Sy} (h : Vl m0 y) (hm : y.m = m0) (ok : y.s.r.ok) (x z sz n : Int) (t : Bool) (hn : ((30 : Int) = 34 → 0 ≤ n ∧ n < 256) ∧ 0 ≤ n ∧ n < 65536) : Vl m0 (doneS ⟨30, x, z, sz, n⟩ t y) := by
 rw [done_30]
 exact h.pushS _
theorem val_31 {m0 : Int → Int} {y : Sy} (h : Vl m0 y) (hm : y.m = m0) (ok : y.s.r.ok) (x z sz n : Int) (t : Bool) (hn : ((31 : Int) = 34 → 0 ≤ n ∧ n < 256) ∧ 0 ≤ n ∧ n < 65536) : Vl m0 (doneS ⟨31, x, z, sz, n⟩ t y) := by
 rw [done_31]
 exact Vl.eq (h.popS hm ok) rfl
theorem val_32 {m0 : Int → Int} {y : Sy} (h : Vl m0 y) (hm : y.m = m0) (ok : y.s.r.ok) (x z sz n : Int) (t : Bool) (hn : ((32 : Int) = 34 → 0 ≤ n ∧ n < 256) ∧ 0 ≤ n ∧ n < 65536) : Vl m0 (doneS ⟨32, x, z, sz, n⟩ t y) := by
 rw [done_32]
 exact Vl.eq (Vl.rd (y := thruS x y) (h.eq (Ext.thruS x y)) 1 _ (by rw [thruS_mm, hm]) (thruV_bd ok x)) rfl
theorem val_33 {m0 : Int → Int} {y : Sy} (h : Vl m0 y) (hm : y.m = m0) (ok : y.s.r.ok) (x z sz n : Int) (t : Bool) (hn : ((33 : Int) = 34 → 0 ≤ n ∧ n < 256) ∧ 0 ≤ n ∧ n < 65536) : Vl m0 (doneS ⟨33, x, z, sz, n⟩ t y) := by
 rw [done_33]
 exact Vl.wr (y := thruS x y) (h.eq (Ext.thruS x y)) _ _
theorem val_34 {m0 : Int → Int} {y : Sy} (h : Vl m0 y) (hm : y.m = m0) (ok : y.s.r.ok) (x z sz n : Int) (t : Bool) (hn : ((34 : Int) = 34 → 0 ≤ n ∧ n < 256) ∧ 0 ≤ n ∧ n < 65536) : Vl m0 (doneS ⟨34, x, z, sz, n⟩ t y) := by
 rw [done_34]
 exact Vl.eq (h.rd 1 _ (by rw [hm]) (by have := hn.1 rfl; omega)) rfl
theorem val_35 {m0 : Int → Int} {y : Sy} (h : Vl m0 y) (hm : y.m = m0) (ok : y.s.r.ok) (x z sz n : Int) (t : Bool) (hn : ((35 : Int) = 34 → 0 ≤ n ∧ n < 256) ∧ 0 ≤ n ∧ n < 65536) : Vl m0 (doneS ⟨35, x, z, sz, n⟩ t y) := by
 rw [done_35]
 exact h.wr _ _
theorem val_36 {m0 : Int → Int} {y : Sy} (h : Vl m0 y) (hm : y.m = m0) (ok : y.s.r.ok) (x z sz n : Int) (t : Bool) (hn : ((36 : Int) = 34 → 0 ≤ n ∧ n < 256) ∧ 0 ≤ n ∧ n < 65536) : Vl m0 (doneS ⟨36, x, z, sz, n⟩ t y) := by
 rw [done_36]
 exact Vl.eq (h.rd 1 _ (by rw [hm]) (by have := ok.2.2.2.1; omega)) rfl
theorem val_37 {m0 : Int → Int} {y : Sy} (h : Vl m0 y) (hm : y.m = m0) (ok : y.s.r.ok) (x z sz n : Int) (t : Bool) (hn : ((37 : Int) = 34 → 0 ≤ n ∧ n < 256) ∧ 0 ≤ n ∧ n < 65536) : Vl m0 (doneS ⟨37, x, z, sz, n⟩ t y) := by
 rw [done_37]
 exact h.wr _ _
theorem val_38 {m0 : Int → Int} {y : Sy} (h : Vl m0 y) (hm : y.m = m0) (ok : y.s.r.ok) (x z sz n : Int) (t : Bool) (hn : ((38 : Int) = 34 → 0 ≤ n ∧ n < 256) ∧ 0 ≤ n ∧ n < 65536) : Vl m0 (doneS ⟨38, x, z, sz, n⟩ t y) := by
 rw [done_38]
 exact Vl.eq (h.rd 1 _ (by rw [hm]) (by have := hn.2; omega)) rfl
theorem val_39 {m0 : Int → Int} {y : Sy} (h : Vl m0 y) (hm : y.m = m0) (ok : y.s.r.ok) (x z sz n : Int) (t : Bool) (hn : ((39 : Int) = 34 → 0 ≤ n ∧ n < 256) ∧ 0 ≤ n ∧ n < 65536) : Vl m0 (doneS ⟨39, x, z, sz, n⟩ t y) := by
 rw [done_39]
 exact h.wr _ _
theorem val_40 {m0 : Int → Int} {y : Sy} (h : Vl m0 y) (hm : y.m = m0) (ok : y.s.r.ok) (x z sz n : Int) (t : Bool) (hn : ((40 : Int) = 34 → 0 ≤ n ∧ n < 256) ∧ 0 ≤ n ∧ n < 65536) : Vl m0 (doneS ⟨40, x, z, sz, n⟩ t y) := by
 rw [done_40]
 exact (h.wr _ _).wr _ _
theorem val_41 {m0 : Int → Int} {y : Sy} (h : Vl m0 y) (hm : y.m = m0) (ok : y.s.r.ok) (x z sz n : Int) (t : Bool) (hn : ((41 : Int) = 34 → 0 ≤ n ∧ n < 256) ∧ 0 ≤ n ∧ n < 65536) : Vl m0 (doneS ⟨41, x, z, sz, n⟩ t y) := by
 rw [done_41]
 exact Vl.eq h.idle.idle rfl
theorem val_42 {m0 : Int → Int} {y : Sy} (h : Vl m0 y) (hm : y.m = m0) (ok : y.s.r.ok) (x z sz n : Int) (t : Bool) (hn : ((42 : Int) = 34 → 0 ≤ n ∧ n < 256) ∧ 0 ≤ n ∧ n < 65536) : Vl m0 (doneS ⟨42, x, z, sz, n⟩ t y) := by
 rw [done_42]
 exact Vl.eq h.idle rfl
theorem val_43 {m0 : Int → Int} {y : Sy} (h : Vl m0 y) (hm : y.m = m0) (ok : y.s.r.ok) (x z sz n : Int) (t : Bool) (hn : ((43 : Int) = 34 → 0 ≤ n ∧ n < 256) ∧ 0 ≤ n ∧ n < 65536) : Vl m0 (doneS ⟨43, x, z, sz, n⟩ t y) := by
 rw [done_43]
 exact Vl.eq h.idle rfl
theorem val_44 {m0 : Int → Int} {y : Sy} (h : Vl m0 y) (hm : y.m = m0) (ok : y.s.r.ok) (x z sz n : Int) (t : Bool) (hn : ((44 : Int) = 34 → 0 ≤ n ∧ n < 256) ∧ 0 ≤ n ∧ n < 65536) : Vl m0 (doneS ⟨44, x, z, sz, n⟩ t y) := by
 rw [done_44]
 exact Vl.eq (h.getS z hm ok) rfl
theorem val_45 {m0 : Int → Int} {y : Sy} (h : Vl m0 y) (hm : y.m = m0) (ok : y.s.r.ok) (x z sz n : Int) (t : Bool) (hn : ((45 : Int) = 34 → 0 ≤ n ∧ n < 256) ∧ 0 ≤ n ∧ n < 65536) : Vl m0 (doneS ⟨45, x, z, sz, n⟩ t y) := by
 rw [done_45]
 exact (h.getS z hm ok).putS _ _
theorem val_46 {m0 : Int → Int} {y : Sy} (h : Vl m0 y) (hm : y.m = m0) (ok : y.s.r.ok) (x z sz n : Int) (t : Bool) (hn : ((46 : Int) = 34 → 0 ≤ n ∧ n < 256) ∧ 0 ≤ n ∧ n < 65536) : Vl m0 (doneS ⟨46, x, z, sz, n⟩ t y) := by
 rw [done_46]
 exact (h.getS z hm ok).putS _ _
theorem done_val {m0 : Int → Int} {y : Sy} (h : Vl m0 y) (hm : y.m = m0) (ok : y.s.r.ok) (o : OpV) (t : Bool) (hn : (o.k = 34 → 0 ≤ o.n ∧ o.n < 256) ∧ 0 ≤ o.n ∧ o.n < 65536) : Vl m0 (doneS o t y) := by
 by_cases hk : o.k < 2 ∨ 46 < o.k
 ·rw [done_no _ _ _ hk]; exact h
 ·obtain ⟨k, x, z, sz, n⟩ := o
  dsimp only at hk hn
  rcases (by omega : k = 2 ∨ k = 3 ∨ k = 4 ∨ k = 5 ∨ k = 6 ∨ k = 7 ∨ k = 8 ∨ k = 9 ∨ k = 10 ∨ k = 11 ∨ k = 12 ∨ k = 13 ∨ k = 14 ∨ k = 15 ∨ k = 16 ∨ k = 17 ∨ k = 18 ∨ k = 19 ∨ k = 20 ∨ k = 21 ∨ k = 22 ∨ k = 23 ∨ k = 24 ∨ k = 25 ∨ k = 26 ∨ k = 27 ∨ k = 28 ∨ k = 29 ∨ k = 30 ∨ k = 31 ∨ k = 32 ∨ k = 33 ∨ k = 34 ∨ k = 35 ∨ k = 36 ∨ k = 37 ∨ k = 38 ∨ k = 39 ∨ k = 40 ∨ k = 41 ∨ k = 42 ∨ k = 43 ∨ k = 44 ∨ k = 45 ∨ k = 46) with rfl | rfl | rfl | rfl | rfl | rfl | rfl | rfl | rfl | rfl | rfl | rfl | rfl | rfl | rfl | rfl | rfl | rfl | rfl | rfl | rfl | rfl | rfl | rfl | rfl | rfl | rfl | rfl | rfl | rfl | rfl | rfl | rfl | rfl | rfl | rfl | rfl | rfl | rfl | rfl | rfl | rfl | rfl | rfl | rfl
  ·exact val_2 h hm ok x z sz n t hn
  ·exact val_3 h hm ok x z sz n t hn
  ·exact val_4 h hm ok x z sz n t hn
  ·exact val_5 h hm ok x z sz n t hn
  ·exact val_6 h hm ok x z sz n t hn
  ·exact val_7 h hm ok x z sz n t hn
  ·exact val_8 h hm ok x z sz n t hn
  ·exact val_9 h hm ok x z sz n t hn
  ·exact val_10 h hm ok x z sz n t hn
  ·exact val_11 h hm ok x z sz n t hn
  ·exact val_12 h hm ok x z sz n t hn
  ·exact val_13 h hm ok x z sz n t hn
  ·exact val_14 h hm ok x z sz n t hn
  ·exact val_15 h hm ok x z sz n t hn
  ·exact val_16 h hm ok x z sz n t hn
  ·exact val_17 h hm ok x z sz n t hn
  ·exact val_18 h hm ok x z sz n t hn
  ·exact val_19 h hm ok x z sz n t hn
  ·exact val_20 h hm ok x z sz n t hn
  ·exact val_21 h hm ok x z sz n t hn
  ·exact val_22 h hm ok x z sz n t hn
  ·exact val_23 h hm ok x z sz n t hn
  ·exact val_24 h hm ok x z sz n t hn
  ·exact val_25 h hm ok x z sz n t hn
  ·exact val_26 h hm ok x z sz n t hn
  ·exact val_27 h hm ok x z sz n t hn
  ·exact val_28 h hm ok x z sz n t hn
  ·exact val_29 h hm ok x z sz n t hn
  ·exact val_30 h hm ok x z sz n t hn
  ·exact val_31 h hm ok x z sz n t hn
  ·exact val_32 h hm ok x z sz n t hn
  ·exact val_33 h hm ok x z sz n t hn
  ·exact val_34 h hm ok x z sz n t hn
  ·exact val_35 h hm ok x z sz n t hn
  ·exact val_36 h hm ok x z sz n t hn
  ·exact val_37 h hm ok x z sz n t hn
  ·exact val_38 h hm ok x z sz n t hn
  ·exact val_39 h hm ok x z sz n t hn
  ·exact val_40 h hm ok x z sz n t hn
  ·exact val_41 h hm ok x z sz n t hn
  ·exact val_42 h hm ok x z sz n t hn
  ·exact val_43 h hm ok x z sz n t hn
  ·exact val_44 h hm ok x z sz n t hn
  ·exact val_45 h hm ok x z sz n t hn
  ·exact val_46 h hm ok x z sz n t hn
theorem Vl.fetchN {m0 : Int → Int} : ∀ (n : Nat) {y : Sy}, Vl m0 y → y.m = m0 → y.s.r.ok → Vl m0 (Go.Proofs.YtngdogldgcgnjaaGreat.fetchN n y) ∧ (Go.Proofs.YtngdogldgcgnjaaGreat.fetchN n y).s.r.ok
 | 0, _, h, _, ok => ⟨h, ok⟩
 | n + 1, y, h, e, ok => Vl.fetchN n (y := fetch1 y) (Vl.eq (h.rd 3 y.s.r.pc (by rw [e]) ok.2.2.2.2.2.2.2.2.2) rfl) e (ok_pc ok (up y.s.r.pc) (by unfold up; omega) (by unfold up; omega))
theorem opV_good' (y : Sy) (bd : ∀ a, 0 ≤ y.m a ∧ y.m a < 256) : Good (opV y) := by
 unfold opV
 have h0 := bd ((y.s.r.pc + (0 : Nat)) % 65536)
 have h1 := bd ((y.s.r.pc + (1 : Nat)) % 65536)
 have h2 := bd ((y.s.r.pc + (2 : Nat)) % 65536)
 refine good_dec _ _ _ (by unfold byteV; omega) ?_ ?_
 ·split
  ·unfold byteV; omega
  ·decide
 ·split
  ·unfold byteV; omega
  ·decide
theorem Vl.runS {m0 : Int → Int} {y : Sy} (h : Vl m0 y) (hm : y.m = m0) (ok : y.s.r.ok) (bd : ∀ a, 0 ≤ y.m a ∧ y.m a < 256) : Vl m0 (Go.Proofs.YtngdogldgcgnjaaGreat.runS y) := by
 have vf := Vl.fetchN (szV (byteV 0 y)).toNat h hm ok
 have mf : (Go.Proofs.YtngdogldgcgnjaaGreat.fetchS y).m = m0 := (fetchN_acc _ y).2.trans hm
 have vg : Vl m0 (Go.Proofs.YtngdogldgcgnjaaGreat.setSoon false (Go.Proofs.YtngdogldgcgnjaaGreat.setIme (y.s.ime || y.s.soon) (Go.Proofs.YtngdogldgcgnjaaGreat.fetchS y))) := Vl.eq vf.1 rfl
 have g := opV_good' y bd
 exact done_val vg mf vf.2 (Go.Proofs.YtngdogldgcgnjaaGreat.opV y) (Go.Proofs.YtngdogldgcgnjaaGreat.takenV (Go.Proofs.YtngdogldgcgnjaaGreat.opV y) (Go.Proofs.YtngdogldgcgnjaaGreat.fetchS y)) ⟨fun e => ⟨g.n0, g.hi (Or.inl e)⟩, g.n0, g.n1⟩
theorem stepS_stop (y : Sy) (h : y.s.stop = true) : stepS y = if pend y.m / 16 % 2 = 1 then setStop false (idle y) else idle y := if_pos h
theorem stepS_halt (y : Sy) (h : ¬ y.s.stop = true) (h2 : (y.s.halt && pend y.m == 0) = true) : stepS y = idle y := by unfold stepS; rw [if_neg h, if_pos h2]
theorem stepS_int (y : Sy) (h : ¬ y.s.stop = true) (h2 : ¬ (y.s.halt && pend y.m == 0) = true) (h3 : (y.s.ime && pend y.m != 0) = true) : stepS y = interS (lowV (pend y.m)) (setHalt false y) := by unfold stepS; rw [if_neg h, if_neg h2, if_pos h3]
theorem stepS_run (y : Sy) (h : ¬ y.s.stop = true) (h2 : ¬ (y.s.halt && pend y.m == 0) = true) (h3 : ¬ (y.s.ime && pend y.m != 0) = true) : stepS y = runS (setHalt false y) := by unfold stepS; rw [if_neg h, if_neg h2, if_neg h3]
theorem stepD_stop (y : Sy) (h : y.s.stop = true) : stepD y = ⟨0, 0, y.s.r.pc, noOp, false⟩ := if_pos h
theorem stepD_halt (y : Sy) (h : ¬ y.s.stop = true) (h2 : (y.s.halt && pend y.m == 0) = true) : stepD y = ⟨0, 0, y.s.r.pc, noOp, false⟩ := by unfold stepD; rw [if_neg h, if_pos h2]
theorem stepD_int (y : Sy) (h : ¬ y.s.stop = true) (h2 : ¬ (y.s.halt && pend y.m == 0) = true) (h3 : (y.s.ime && pend y.m != 0) = true) : stepD y = ⟨2, lowV (pend y.m), y.s.r.pc, noOp, false⟩ := by unfold stepD; rw [if_neg h, if_neg h2, if_pos h3]
theorem stepD_run (y : Sy) (h : ¬ y.s.stop = true) (h2 : ¬ (y.s.halt && pend y.m == 0) = true) (h3 : ¬ (y.s.ime && pend y.m != 0) = true) : stepD y = ⟨1, 0, y.s.r.pc, opV y, takenV (opV y) (fetchS y)⟩ := by unfold stepD; rw [if_neg h, if_neg h2, if_neg h3]
/-- What a step reads is what lay there at first. -/
theorem step_val (s : St) (m : Int → Int) (ok : s.r.ok) (bd : ∀ a, 0 ≤ m a ∧ m a < 256) : Vl m (stepS ⟨s, m, []⟩) := by
 have v0 : Vl m ⟨s, m, []⟩ := fun c hc => absurd hc List.not_mem_nil
 by_cases hst : s.stop = true
 ·rw [stepS_stop ⟨s, m, []⟩ hst]; split
  ·exact Vl.eq v0.idle rfl
  ·exact v0.idle
 by_cases hh : (s.halt && pend m == 0) = true
 ·rw [stepS_halt ⟨s, m, []⟩ hst hh]; exact v0.idle
 by_cases hi : (s.ime && pend m != 0) = true
 ·rw [stepS_int ⟨s, m, []⟩ hst hh hi]
  have v1 : Vl m (setHalt false ⟨s, m, []⟩) := Vl.eq v0 rfl
  exact v1.interS _
 ·rw [stepS_run ⟨s, m, []⟩ hst hh hi]
  have v1 : Vl m (setHalt false ⟨s, m, []⟩) := Vl.eq v0 rfl
  exact v1.runS rfl ok bd
section
variable {A : Int → Prop} {y y' : Sy}
theorem Rel.setM (h : Rel A y y') (f g : Int → Int) (e : ∀ a, A a → g a = f a) : Rel A (Go.Proofs.YtngdogldgcgnjaaGreat.setM f y) (Go.Proofs.YtngdogldgcgnjaaGreat.setM g y') := ⟨h.1, h.2.1, e⟩
theorem Rel.interS (h : Rel A y y') (n : Nat) (h15 : A 65295) : Rel A (Go.Proofs.YtngdogldgcgnjaaGreat.interS n y) (Go.Proofs.YtngdogldgcgnjaaGreat.interS n y') := by
 have q := h.idle.idle.storeS y.s.r.pc
 have e : y'.s = y.s := h.1
 unfold Go.Proofs.YtngdogldgcgnjaaGreat.interS
 rw [e]
 refine (((Rel.idle (q.setM _ _ (fun a ha => ?_))).setIme _).setSoon _).setPC _
 unfold ackM upd
 by_cases ea : a = 65295
 ·rw [if_pos ea, if_pos ea, q.2.2 _ h15]
 ·rw [if_neg ea, if_neg ea, q.2.2 _ ha]
theorem Rel.fetchN : ∀ (n : Nat) {y y' : Sy}, Rel A y y' → (∀ i, i < n → A ((Go.Proofs.YtngdogldgcgnjaaGreat.fetchN i y).s.r.pc)) → Rel A (Go.Proofs.YtngdogldgcgnjaaGreat.fetchN n y) (Go.Proofs.YtngdogldgcgnjaaGreat.fetchN n y')
 | 0, _, _, h, _ => h
 | n + 1, y, y', h, hA => by
  have h1 : Rel A (fetch1 y) (fetch1 y') := by
   unfold fetch1; rw [h.1]; exact (h.rd 3 _ (hA 0 (by omega))).setPC _
  exact Rel.fetchN n h1 (fun i hi => hA (i + 1) (by omega))
end
/-- A step over two memories that agree at all that is read, and where interrupts lie, does the same. -/
theorem step_rel (A : Int → Prop) (s : St) (m m' : Int → Int) (hm : ∀ a, A a → m' a = m a) (a1 : A 65295) (a2 : A 65535) (bd : ∀ a, 0 ≤ m a ∧ m a < 256) (p0 : 0 ≤ s.r.pc) (p1 : s.r.pc < 65536)
  (H : ∀ c, c ∈ (stepS ⟨s, m, []⟩).acc → c.k = 1 ∨ c.k = 3 → A c.a) : Rel A (stepS ⟨s, m, []⟩) (stepS ⟨s, m', []⟩) ∧ stepD ⟨s, m', []⟩ = stepD ⟨s, m, []⟩ := by
 have h0 : Rel A ⟨s, m, []⟩ ⟨s, m', []⟩ := ⟨rfl, rfl, hm⟩
 have ep : pend m' = pend m := by unfold pend; rw [hm _ a1, hm _ a2]
 by_cases hst : s.stop = true
 ·rw [stepS_stop ⟨s, m, []⟩ hst, stepS_stop ⟨s, m', []⟩ hst, stepD_stop ⟨s, m, []⟩ hst, stepD_stop ⟨s, m', []⟩ hst]
  refine ⟨?_, rfl⟩
  dsimp only
  rw [ep]
  split
  ·exact h0.idle.setStop _
  ·exact h0.idle
 by_cases hh : (s.halt && pend m == 0) = true
 ·have hh' : (s.halt && pend m' == 0) = true := by rw [ep]; exact hh
  rw [stepS_halt ⟨s, m, []⟩ hst hh, stepS_halt ⟨s, m', []⟩ hst hh', stepD_halt ⟨s, m, []⟩ hst hh, stepD_halt ⟨s, m', []⟩ hst hh']
  exact ⟨h0.idle, rfl⟩
 have hh' : ¬ (s.halt && pend m' == 0) = true := by rw [ep]; exact hh
 by_cases hi : (s.ime && pend m != 0) = true
 ·have hi' : (s.ime && pend m' != 0) = true := by rw [ep]; exact hi
  rw [stepS_int ⟨s, m, []⟩ hst hh hi, stepS_int ⟨s, m', []⟩ hst hh' hi', stepD_int ⟨s, m, []⟩ hst hh hi, stepD_int ⟨s, m', []⟩ hst hh' hi']
  dsimp only
  rw [ep]
  exact ⟨(h0.setHalt false).interS _ a1, rfl⟩
 have hi' : ¬ (s.ime && pend m' != 0) = true := by rw [ep]; exact hi
 rw [stepS_run ⟨s, m, []⟩ hst hh hi] at H
 rw [stepS_run ⟨s, m, []⟩ hst hh hi, stepS_run ⟨s, m', []⟩ hst hh' hi', stepD_run ⟨s, m, []⟩ hst hh hi, stepD_run ⟨s, m', []⟩ hst hh' hi']
 have h1 := h0.setHalt false
 have hx := done_ext (opV (setHalt false ⟨s, m, []⟩)) (takenV (opV (setHalt false ⟨s, m, []⟩)) (fetchS (setHalt false ⟨s, m, []⟩))) (setSoon false (setIme (s.ime || s.soon) (fetchS (setHalt false ⟨s, m, []⟩))))
 have hA : ∀ i, i < (szV (byteV 0 (setHalt false ⟨s, m, []⟩))).toNat → A ((fetchN i (setHalt false ⟨s, m, []⟩)).s.r.pc) := fun i hi => by
  refine H ⟨3, (fetchN i (setHalt false ⟨s, m, []⟩)).s.r.pc, m ((fetchN i (setHalt false ⟨s, m, []⟩)).s.r.pc)⟩ (mem_ext hx ?_) (Or.inr rfl)
  show _ ∈ (fetchN (szV (byteV 0 (setHalt false ⟨s, m, []⟩))).toNat (setHalt false ⟨s, m, []⟩)).acc
  rw [(fetchN_acc _ _).1]
  exact List.mem_append_right _ (List.mem_map.2 ⟨i, List.mem_range.2 hi, rfl⟩)
 have hB : ∀ i, i < (szV (byteV 0 (setHalt false ⟨s, m, []⟩))).toNat → byteV i (setHalt false ⟨s, m', []⟩) = byteV i (setHalt false ⟨s, m, []⟩) := fun i hi => by
  have q := hA i hi
  rw [fetchN_pc i _ (by exact p0) (by exact p1)] at q
  exact hm _ q
 have b0 := bd ((s.r.pc + (0 : Nat)) % 65536)
 have d := dec_s (byteV 0 (setHalt false ⟨s, m, []⟩)).toNat 0 0 (by show (m ((s.r.pc + (0 : Nat)) % 65536)).toNat < 256; omega) (by decide)
 have d2 : 1 ≤ szV (byteV 0 (setHalt false ⟨s, m, []⟩)) := d.2.1
 have e0 := hB 0 (by omega)
 have eo : opV (setHalt false ⟨s, m', []⟩) = opV (setHalt false ⟨s, m, []⟩) := by
  unfold opV
  rw [e0]
  by_cases h2 : 2 ≤ szV (byteV 0 (setHalt false ⟨s, m, []⟩))
  ·rw [if_pos h2, if_pos h2, hB 1 (by omega)]
   by_cases h3 : 3 ≤ szV (byteV 0 (setHalt false ⟨s, m, []⟩))
   ·rw [if_pos h3, if_pos h3, hB 2 (by omega)]
   ·rw [if_neg h3, if_neg h3]
  ·rw [if_neg h2, if_neg h2, if_neg (by omega), if_neg (by omega)]
 have hf : Rel A (fetchS (setHalt false ⟨s, m, []⟩)) (fetchS (setHalt false ⟨s, m', []⟩)) := by
  unfold fetchS
  rw [e0]
  exact Rel.fetchN _ h1 hA
 have et : takenV (opV (setHalt false ⟨s, m, []⟩)) (fetchS (setHalt false ⟨s, m', []⟩)) = takenV (opV (setHalt false ⟨s, m, []⟩)) (fetchS (setHalt false ⟨s, m, []⟩)) := by
  unfold takenV
  rw [hf.1]
 refine ⟨?_, ?_⟩
 ·unfold runS
  rw [eo, et]
  exact done_rel ((hf.setIme _).setSoon _) _ _ (fun c hc hk => H c hc (Or.inl hk))
 ·have hA0 : ∀ i, i < (szV (byteV 0 ⟨s, m, []⟩)).toNat → A ((fetchN i ⟨s, m, []⟩).s.r.pc) := fun i hi => by
   have q := hA i hi
   rw [fetchN_pc i _ (by exact p0) (by exact p1)] at q
   rw [fetchN_pc i _ (by exact p0) (by exact p1)]
   exact q
  have e0' : byteV 0 ⟨s, m', []⟩ = byteV 0 ⟨s, m, []⟩ := e0
  have eo' : opV ⟨s, m', []⟩ = opV ⟨s, m, []⟩ := eo
  have hf0 : Rel A (fetchS ⟨s, m, []⟩) (fetchS ⟨s, m', []⟩) := by
   unfold fetchS
   rw [e0']
   exact Rel.fetchN _ h0 hA0
  have et0 : takenV (opV ⟨s, m, []⟩) (fetchS ⟨s, m', []⟩) = takenV (opV ⟨s, m, []⟩) (fetchS ⟨s, m, []⟩) := by
   unfold takenV
   rw [hf0.1]
  rw [eo', et0]
end Go.Proofs.YtngdogldgcgnjaaGreat
