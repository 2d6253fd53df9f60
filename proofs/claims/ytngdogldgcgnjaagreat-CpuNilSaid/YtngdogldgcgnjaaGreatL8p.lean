/-
  CpuNil as plain data: a step over two memories that agree at all places that are read, and where interrupts lie, does the same; what is read is what lay there at first: for every state and order; no other condition.
-/
import Derived.Test.YtngdogldgcgnjaaGreatL6q
namespace Go.Proofs.YtngdogldgcgnjaaGreat
open Go.ChangeShapes Go.WideShapes Go.ChangeAt Go.RowKit
open Reg
open Alu hiding decF
set_option linter.unusedVariables false
/-- Two systems: alike but for the memory, which agrees where A says. -/
def Rel (A : Int → Prop) (y y' : Sy) : Prop := y'.s = y.s ∧ y'.acc = y.acc ∧ ∀ a, A a → y'.m a = y.m a
section
variable {A : Int → Prop} {y y' : Sy}
theorem Rel.setA (h : Rel A y y') (x : Int) : Rel A (Go.Proofs.YtngdogldgcgnjaaGreat.setA x y) (Go.Proofs.YtngdogldgcgnjaaGreat.setA x y') := by
 obtain ⟨s, m, acc⟩ := y; obtain ⟨s1, m1, acc1⟩ := y'; obtain ⟨h1, h2, h3⟩ := h; dsimp only at h1 h2 h3; subst h1; subst h2; exact ⟨rfl, rfl, h3⟩
theorem Rel.setF (h : Rel A y y') (x : Int) : Rel A (Go.Proofs.YtngdogldgcgnjaaGreat.setF x y) (Go.Proofs.YtngdogldgcgnjaaGreat.setF x y') := by
 obtain ⟨s, m, acc⟩ := y; obtain ⟨s1, m1, acc1⟩ := y'; obtain ⟨h1, h2, h3⟩ := h; dsimp only at h1 h2 h3; subst h1; subst h2; exact ⟨rfl, rfl, h3⟩
theorem Rel.setSP (h : Rel A y y') (x : Int) : Rel A (Go.Proofs.YtngdogldgcgnjaaGreat.setSP x y) (Go.Proofs.YtngdogldgcgnjaaGreat.setSP x y') := by
 obtain ⟨s, m, acc⟩ := y; obtain ⟨s1, m1, acc1⟩ := y'; obtain ⟨h1, h2, h3⟩ := h; dsimp only at h1 h2 h3; subst h1; subst h2; exact ⟨rfl, rfl, h3⟩
theorem Rel.setPC (h : Rel A y y') (x : Int) : Rel A (Go.Proofs.YtngdogldgcgnjaaGreat.setPC x y) (Go.Proofs.YtngdogldgcgnjaaGreat.setPC x y') := by
 obtain ⟨s, m, acc⟩ := y; obtain ⟨s1, m1, acc1⟩ := y'; obtain ⟨h1, h2, h3⟩ := h; dsimp only at h1 h2 h3; subst h1; subst h2; exact ⟨rfl, rfl, h3⟩
theorem Rel.setIme (h : Rel A y y') (x : Bool) : Rel A (Go.Proofs.YtngdogldgcgnjaaGreat.setIme x y) (Go.Proofs.YtngdogldgcgnjaaGreat.setIme x y') := by
 obtain ⟨s, m, acc⟩ := y; obtain ⟨s1, m1, acc1⟩ := y'; obtain ⟨h1, h2, h3⟩ := h; dsimp only at h1 h2 h3; subst h1; subst h2; exact ⟨rfl, rfl, h3⟩
theorem Rel.setSoon (h : Rel A y y') (x : Bool) : Rel A (Go.Proofs.YtngdogldgcgnjaaGreat.setSoon x y) (Go.Proofs.YtngdogldgcgnjaaGreat.setSoon x y') := by
 obtain ⟨s, m, acc⟩ := y; obtain ⟨s1, m1, acc1⟩ := y'; obtain ⟨h1, h2, h3⟩ := h; dsimp only at h1 h2 h3; subst h1; subst h2; exact ⟨rfl, rfl, h3⟩
theorem Rel.setHalt (h : Rel A y y') (x : Bool) : Rel A (Go.Proofs.YtngdogldgcgnjaaGreat.setHalt x y) (Go.Proofs.YtngdogldgcgnjaaGreat.setHalt x y') := by
 obtain ⟨s, m, acc⟩ := y; obtain ⟨s1, m1, acc1⟩ := y'; obtain ⟨h1, h2, h3⟩ := h; dsimp only at h1 h2 h3; subst h1; subst h2; exact ⟨rfl, rfl, h3⟩
theorem Rel.setStop (h : Rel A y y') (x : Bool) : Rel A (Go.Proofs.YtngdogldgcgnjaaGreat.setStop x y) (Go.Proofs.YtngdogldgcgnjaaGreat.setStop x y') := by
 obtain ⟨s, m, acc⟩ := y; obtain ⟨s1, m1, acc1⟩ := y'; obtain ⟨h1, h2, h3⟩ := h; dsimp only at h1 h2 h3; subst h1; subst h2; exact ⟨rfl, rfl, h3⟩
theorem Rel.setRR (h : Rel A y y') (x : RR) : Rel A (Go.Proofs.YtngdogldgcgnjaaGreat.setRR x y) (Go.Proofs.YtngdogldgcgnjaaGreat.setRR x y') := by
 obtain ⟨s, m, acc⟩ := y; obtain ⟨s1, m1, acc1⟩ := y'; obtain ⟨h1, h2, h3⟩ := h; dsimp only at h1 h2 h3; subst h1; subst h2; exact ⟨rfl, rfl, h3⟩
theorem Rel.rd (h : Rel A y y') (k a : Int) (ha : A a) : Rel A (Go.Proofs.YtngdogldgcgnjaaGreat.rd k a y) (Go.Proofs.YtngdogldgcgnjaaGreat.rd k a y') := by
 obtain ⟨s, m, acc⟩ := y; obtain ⟨s1, m1, acc1⟩ := y'; obtain ⟨h1, h2, h3⟩ := h; dsimp only at h1 h2 h3; subst h1; subst h2
 exact ⟨rfl, by show _ ++ [(⟨k, a, m1 a⟩ : Ac)] = _ ++ [(⟨k, a, m a⟩ : Ac)]; rw [h3 a ha], h3⟩
theorem Rel.wr (h : Rel A y y') (a x : Int) : Rel A (Go.Proofs.YtngdogldgcgnjaaGreat.wr a x y) (Go.Proofs.YtngdogldgcgnjaaGreat.wr a x y') := by
 obtain ⟨s, m, acc⟩ := y; obtain ⟨s1, m1, acc1⟩ := y'; obtain ⟨h1, h2, h3⟩ := h; dsimp only at h1 h2 h3; subst h1; subst h2
 refine ⟨rfl, rfl, fun k hk => ?_⟩
 show upd m1 a x k = upd m a x k
 unfold upd
 by_cases e : k = a
 ·rw [if_pos e, if_pos e]
 ·rw [if_neg e, if_neg e, h3 k hk]
theorem Rel.idle (h : Rel A y y') : Rel A (Go.Proofs.YtngdogldgcgnjaaGreat.idle y) (Go.Proofs.YtngdogldgcgnjaaGreat.idle y') := by
 obtain ⟨s, m, acc⟩ := y; obtain ⟨s1, m1, acc1⟩ := y'; obtain ⟨h1, h2, h3⟩ := h; dsimp only at h1 h2 h3; subst h1; subst h2; exact ⟨rfl, rfl, h3⟩
theorem Rel.hl (h : Rel A y y') : hlV y' = hlV y := by unfold hlV; rw [h.1]
theorem Rel.getY (h : Rel A y y') (n : Int) (h6 : n = 6 → A (hlV y)) : Go.Proofs.YtngdogldgcgnjaaGreat.getY n y' = Go.Proofs.YtngdogldgcgnjaaGreat.getY n y := by
 unfold Go.Proofs.YtngdogldgcgnjaaGreat.getY
 by_cases e : n = 6
 ·rw [if_pos e, if_pos e, h.hl, h.2.2 _ (h6 e)]
 ·rw [if_neg e, if_neg e, h.1]
theorem Rel.getS (h : Rel A y y') (n : Int) (h6 : n = 6 → A (hlV y)) : Rel A (Go.Proofs.YtngdogldgcgnjaaGreat.getS n y) (Go.Proofs.YtngdogldgcgnjaaGreat.getS n y') := by
 unfold Go.Proofs.YtngdogldgcgnjaaGreat.getS
 by_cases e : n = 6
 ·rw [if_pos e, if_pos e, h.hl]; exact h.rd _ _ (h6 e)
 ·rw [if_neg e, if_neg e]; exact h
theorem Rel.putS (h : Rel A y y') (n x : Int) : Rel A (Go.Proofs.YtngdogldgcgnjaaGreat.putS n x y) (Go.Proofs.YtngdogldgcgnjaaGreat.putS n x y') := by
 unfold Go.Proofs.YtngdogldgcgnjaaGreat.putS
 by_cases e : n = 6
 ·rw [if_pos e, if_pos e, h.hl]; exact h.wr _ _
 ·rw [if_neg e, if_neg e, h.1]; exact h.setRR _
theorem Rel.pairS (h : Rel A y y') (n x : Int) : Rel A (Go.Proofs.YtngdogldgcgnjaaGreat.pairS n x y) (Go.Proofs.YtngdogldgcgnjaaGreat.pairS n x y') := by
 unfold Go.Proofs.YtngdogldgcgnjaaGreat.pairS; rw [h.1]; exact h.setRR _
theorem Rel.storeS (h : Rel A y y') (x : Int) : Rel A (Go.Proofs.YtngdogldgcgnjaaGreat.storeS x y) (Go.Proofs.YtngdogldgcgnjaaGreat.storeS x y') := by
 unfold Go.Proofs.YtngdogldgcgnjaaGreat.storeS; rw [h.1]; exact (((h.setSP _).wr _ _).setSP _).wr _ _
theorem Rel.pushS (h : Rel A y y') (x : Int) : Rel A (Go.Proofs.YtngdogldgcgnjaaGreat.pushS x y) (Go.Proofs.YtngdogldgcgnjaaGreat.pushS x y') := h.idle.storeS x
theorem Rel.popV (h : Rel A y y') (h1 : A y.s.r.sp) (h2 : A (up y.s.r.sp)) : Go.Proofs.YtngdogldgcgnjaaGreat.popV y' = Go.Proofs.YtngdogldgcgnjaaGreat.popV y := by
 unfold Go.Proofs.YtngdogldgcgnjaaGreat.popV; rw [h.1, h.2.2 _ h1, h.2.2 _ h2]
theorem Rel.popS (h : Rel A y y') (h1 : A y.s.r.sp) (h2 : A (up y.s.r.sp)) : Rel A (Go.Proofs.YtngdogldgcgnjaaGreat.popS y) (Go.Proofs.YtngdogldgcgnjaaGreat.popS y') := by
 unfold Go.Proofs.YtngdogldgcgnjaaGreat.popS; rw [h.1]; exact (((h.rd 1 _ h1).setSP _).rd 1 _ h2).setSP _
theorem Rel.enterS (h : Rel A y y') (x : Int) : Rel A (Go.Proofs.YtngdogldgcgnjaaGreat.enterS x y) (Go.Proofs.YtngdogldgcgnjaaGreat.enterS x y') := by
 unfold Go.Proofs.YtngdogldgcgnjaaGreat.enterS; rw [h.1]; exact (h.pushS _).setPC _
theorem Rel.leaveS (h : Rel A y y') (h1 : A y.s.r.sp) (h2 : A (up y.s.r.sp)) : Rel A (Go.Proofs.YtngdogldgcgnjaaGreat.leaveS y) (Go.Proofs.YtngdogldgcgnjaaGreat.leaveS y') := by
 unfold Go.Proofs.YtngdogldgcgnjaaGreat.leaveS; rw [h.popV h1 h2]; exact ((h.popS h1 h2).setPC _).idle
theorem Rel.sumS (h : Rel A y y') (k x : Int) : Rel A (Go.Proofs.YtngdogldgcgnjaaGreat.sumS k x y) (Go.Proofs.YtngdogldgcgnjaaGreat.sumS k x y') := by
 unfold Go.Proofs.YtngdogldgcgnjaaGreat.sumS; rw [h.1]; exact (h.setA _).setF _
theorem Rel.thruV (h : Rel A y y') (x : Int) : Go.Proofs.YtngdogldgcgnjaaGreat.thruV x y' = Go.Proofs.YtngdogldgcgnjaaGreat.thruV x y := by unfold Go.Proofs.YtngdogldgcgnjaaGreat.thruV; rw [h.hl, h.1]
theorem Rel.thruS (h : Rel A y y') (x : Int) : Rel A (Go.Proofs.YtngdogldgcgnjaaGreat.thruS x y) (Go.Proofs.YtngdogldgcgnjaaGreat.thruS x y') := by
 unfold Go.Proofs.YtngdogldgcgnjaaGreat.thruS; rw [h.hl]
 by_cases e : x = 2
 ·rw [if_pos e, if_pos e]; exact h.pairS _ _
 ·rw [if_neg e, if_neg e]
  by_cases e : x = 3
  ·rw [if_pos e, if_pos e]; exact h.pairS _ _
  ·rw [if_neg e, if_neg e]; exact h
end
theorem mem_ext {n : Nat} {y y1 : Sy} (h : Ext n y y1) {x : Ac} (hx : x ∈ y.acc) : x ∈ y1.acc := by
 obtain ⟨L, h1, _⟩ := h; rw [h1]; exact List.mem_append_left _ hx
theorem mem_rd (k a : Int) (y : Sy) : (⟨k, a, y.m a⟩ : Ac) ∈ (rd k a y).acc := List.mem_append_right _ (List.mem_singleton.2 rfl)
theorem mem_get {n : Int} {y : Sy} (h : n = 6) : (⟨1, hlV y, y.m (hlV y)⟩ : Ac) ∈ (getS n y).acc := by unfold getS; rw [if_pos h]; exact mem_rd _ _ _
theorem mem_pop (y : Sy) : (⟨1, y.s.r.sp, y.m y.s.r.sp⟩ : Ac) ∈ (popS y).acc ∧ (⟨1, up y.s.r.sp, y.m (up y.s.r.sp)⟩ : Ac) ∈ (popS y).acc := by
 refine ⟨?_, ?_⟩
 ·exact List.mem_append_left _ (mem_rd 1 y.s.r.sp y)
 ·exact mem_rd 1 (up y.s.r.sp) (setSP (up y.s.r.sp) (rd 1 y.s.r.sp y))
theorem done_2 (x z sz n : Int) (t : Bool) (y : Sy) : doneS ⟨2, x, z, sz, n⟩ t y = setStop true y := by kernel_rfl
theorem done_3 (x z sz n : Int) (t : Bool) (y : Sy) : doneS ⟨3, x, z, sz, n⟩ t y = setHalt true y := by kernel_rfl
theorem done_4 (x z sz n : Int) (t : Bool) (y : Sy) : doneS ⟨4, x, z, sz, n⟩ t y = setPC (dn y.s.r.pc) y := by kernel_rfl
theorem done_5 (x z sz n : Int) (t : Bool) (y : Sy) : doneS ⟨5, x, z, sz, n⟩ t y = setIme false y := by kernel_rfl
theorem done_6 (x z sz n : Int) (t : Bool) (y : Sy) : doneS ⟨6, x, z, sz, n⟩ t y = setSoon true y := by kernel_rfl
theorem done_7 (x z sz n : Int) (t : Bool) (y : Sy) : doneS ⟨7, x, z, sz, n⟩ t y = putS x (getY z y) (getS z y) := by kernel_rfl
theorem done_8 (x z sz n : Int) (t : Bool) (y : Sy) : doneS ⟨8, x, z, sz, n⟩ t y = putS x (n % 256) y := by kernel_rfl
theorem done_9 (x z sz n : Int) (t : Bool) (y : Sy) : doneS ⟨9, x, z, sz, n⟩ t y = pairS x n y := by kernel_rfl
theorem done_10 (x z sz n : Int) (t : Bool) (y : Sy) : doneS ⟨10, x, z, sz, n⟩ t y = sumS x (getY z y) (getS z y) := by kernel_rfl
theorem done_11 (x z sz n : Int) (t : Bool) (y : Sy) : doneS ⟨11, x, z, sz, n⟩ t y = sumS x (n % 256) y := by kernel_rfl
theorem done_12 (x z sz n : Int) (t : Bool) (y : Sy) : doneS ⟨12, x, z, sz, n⟩ t y = setF (incF (getY x y) y.s.r.f) (putS x ((getY x y + 1) % 256) (getS x y)) := by kernel_rfl
theorem done_13 (x z sz n : Int) (t : Bool) (y : Sy) : doneS ⟨13, x, z, sz, n⟩ t y = setF (Alu.decF (getY x y) y.s.r.f) (putS x ((getY x y - 1) % 256) (getS x y)) := by kernel_rfl
theorem done_14 (x z sz n : Int) (t : Bool) (y : Sy) : doneS ⟨14, x, z, sz, n⟩ t y = pairS x (up (pairV y.s.r x)) (idle y) := by kernel_rfl
theorem done_15 (x z sz n : Int) (t : Bool) (y : Sy) : doneS ⟨15, x, z, sz, n⟩ t y = pairS x (dn (pairV y.s.r x)) (idle y) := by kernel_rfl
theorem done_16 (x z sz n : Int) (t : Bool) (y : Sy) : doneS ⟨16, x, z, sz, n⟩ t y = setF (add16F (hlV y) (pairV y.s.r x) y.s.r.f) (pairS 2 ((hlV y + pairV y.s.r x) % 65536) (idle y)) := by kernel_rfl
theorem done_17 (x z sz n : Int) (t : Bool) (y : Sy) : doneS ⟨17, x, z, sz, n⟩ t y = putS z (turnR x (getY z y) y.s.r.f) (setF (turnF x (getY z y) y.s.r.f) (getS z y)) := by kernel_rfl
theorem done_18 (x z sz n : Int) (t : Bool) (y : Sy) : doneS ⟨18, x, z, sz, n⟩ t y = setF (fl 16 (turnO x y.s.r.a)) (setA (turnR x y.s.r.a y.s.r.f) y) := by kernel_rfl
theorem done_19 (x z sz n : Int) (t : Bool) (y : Sy) : doneS ⟨19, x, z, sz, n⟩ t y = setF (daaF y.s.r.a y.s.r.f) (setA (daaR y.s.r.a y.s.r.f) y) := by kernel_rfl
theorem done_20 (x z sz n : Int) (t : Bool) (y : Sy) : doneS ⟨20, x, z, sz, n⟩ t y = setF (FL (zf y.s.r.f) true true (cf y.s.r.f)) (setA (255 - y.s.r.a) y) := by kernel_rfl
theorem done_21 (x z sz n : Int) (t : Bool) (y : Sy) : doneS ⟨21, x, z, sz, n⟩ t y = setF (FL (zf y.s.r.f) false false true) y := by kernel_rfl
theorem done_22 (x z sz n : Int) (t : Bool) (y : Sy) : doneS ⟨22, x, z, sz, n⟩ t y = setF (FL (zf y.s.r.f) false false (!cf y.s.r.f)) y := by kernel_rfl
theorem done_23 (x z sz n : Int) (t : Bool) (y : Sy) : doneS ⟨23, x, z, sz, n⟩ t y = (bif t then setPC (jrV y.s.r.pc n) (idle y) else y) := by kernel_rfl
theorem done_24 (x z sz n : Int) (t : Bool) (y : Sy) : doneS ⟨24, x, z, sz, n⟩ t y = (bif t then setPC n (idle y) else y) := by kernel_rfl
theorem done_25 (x z sz n : Int) (t : Bool) (y : Sy) : doneS ⟨25, x, z, sz, n⟩ t y = (bif t then enterS n y else y) := by kernel_rfl
theorem done_26 (x z sz n : Int) (t : Bool) (y : Sy) : doneS ⟨26, x, z, sz, n⟩ t y = (bif t then leaveS (bif x == 4 then y else idle y) else (bif x == 4 then y else idle y)) := by kernel_rfl
theorem done_27 (x z sz n : Int) (t : Bool) (y : Sy) : doneS ⟨27, x, z, sz, n⟩ t y = setIme true (leaveS y) := by kernel_rfl
theorem done_28 (x z sz n : Int) (t : Bool) (y : Sy) : doneS ⟨28, x, z, sz, n⟩ t y = enterS n y := by kernel_rfl
theorem done_29 (x z sz n : Int) (t : Bool) (y : Sy) : doneS ⟨29, x, z, sz, n⟩ t y = setPC (hlV y) y := by kernel_rfl
theorem done_30 (x z sz n : Int) (t : Bool) (y : Sy) : doneS ⟨30, x, z, sz, n⟩ t y = pushS (pairV y.s.r x) y := by kernel_rfl
theorem done_31 (x z sz n : Int) (t : Bool) (y : Sy) : doneS ⟨31, x, z, sz, n⟩ t y = pairS x (popV y) (popS y) := by kernel_rfl
theorem done_32 (x z sz n : Int) (t : Bool) (y : Sy) : doneS ⟨32, x, z, sz, n⟩ t y = setA (y.m (thruV x y)) (rd 1 (thruV x y) (thruS x y)) := by kernel_rfl
theorem done_33 (x z sz n : Int) (t : Bool) (y : Sy) : doneS ⟨33, x, z, sz, n⟩ t y = wr (thruV x y) y.s.r.a (thruS x y) := by kernel_rfl
theorem done_34 (x z sz n : Int) (t : Bool) (y : Sy) : doneS ⟨34, x, z, sz, n⟩ t y = setA (y.m (65280 + n)) (rd 1 (65280 + n) y) := by kernel_rfl
theorem done_35 (x z sz n : Int) (t : Bool) (y : Sy) : doneS ⟨35, x, z, sz, n⟩ t y = wr (65280 + n) y.s.r.a y := by kernel_rfl
theorem done_36 (x z sz n : Int) (t : Bool) (y : Sy) : doneS ⟨36, x, z, sz, n⟩ t y = setA (y.m (65280 + y.s.r.c)) (rd 1 (65280 + y.s.r.c) y) := by kernel_rfl
theorem done_37 (x z sz n : Int) (t : Bool) (y : Sy) : doneS ⟨37, x, z, sz, n⟩ t y = wr (65280 + y.s.r.c) y.s.r.a y := by kernel_rfl
theorem done_38 (x z sz n : Int) (t : Bool) (y : Sy) : doneS ⟨38, x, z, sz, n⟩ t y = setA (y.m n) (rd 1 n y) := by kernel_rfl
theorem done_39 (x z sz n : Int) (t : Bool) (y : Sy) : doneS ⟨39, x, z, sz, n⟩ t y = wr n y.s.r.a y := by kernel_rfl
theorem done_40 (x z sz n : Int) (t : Bool) (y : Sy) : doneS ⟨40, x, z, sz, n⟩ t y = wr (up n) (y.s.r.sp / 256) (wr n (y.s.r.sp % 256) y) := by kernel_rfl
theorem done_41 (x z sz n : Int) (t : Bool) (y : Sy) : doneS ⟨41, x, z, sz, n⟩ t y = setF (shiftF y.s.r.sp (n % 256)) (setSP (shiftR y.s.r.sp (n % 256)) (idle (idle y))) := by kernel_rfl
theorem done_42 (x z sz n : Int) (t : Bool) (y : Sy) : doneS ⟨42, x, z, sz, n⟩ t y = setF (shiftF y.s.r.sp (n % 256)) (pairS 2 (shiftR y.s.r.sp (n % 256)) (idle y)) := by kernel_rfl
theorem done_43 (x z sz n : Int) (t : Bool) (y : Sy) : doneS ⟨43, x, z, sz, n⟩ t y = setSP (hlV y) (idle y) := by kernel_rfl
theorem done_44 (x z sz n : Int) (t : Bool) (y : Sy) : doneS ⟨44, x, z, sz, n⟩ t y = setF (bitF x (getY z y) y.s.r.f) (getS z y) := by kernel_rfl
theorem done_45 (x z sz n : Int) (t : Bool) (y : Sy) : doneS ⟨45, x, z, sz, n⟩ t y = putS z (clr (getY z y) x.toNat) (getS z y) := by kernel_rfl
theorem done_46 (x z sz n : Int) (t : Bool) (y : Sy) : doneS ⟨46, x, z, sz, n⟩ t y = putS z (Go.Proofs.YtngdogldgcgnjaaGreat.put (getY z y) x.toNat) (getS z y) := by kernel_rfl
theorem done_no (o : OpV) (t : Bool) (y : Sy) (h : o.k < 2 ∨ 46 < o.k) : doneS o t y = y := by
 unfold doneS
 rw [if_neg (by omega), if_neg (by omega), if_neg (by omega), if_neg (by omega), if_neg (by omega), if_neg (by omega), if_neg (by omega), if_neg (by omega), if_neg (by omega), if_neg (by omega), if_neg (by omega), if_neg (by omega), if_neg (by omega), if_neg (by omega), if_neg (by omega), if_neg (by omega), if_neg (by omega), if_neg (by omega), if_neg (by omega), if_neg (by omega), if_neg (by omega), if_neg (by omega), if_neg (by omega), if_neg (by omega), if_neg (by omega), if_neg (by omega), if_neg (by omega), if_neg (by omega), if_neg (by omega), if_neg (by omega), if_neg (by omega), if_neg (by omega), if_neg (by omega), if_neg (by omega), if_neg (by omega), if_neg (by omega), if_neg (by omega), if_neg (by omega), if_neg (by omega), if_neg (by omega), if_neg (by omega), if_neg (by omega), if_neg (by omega), if_neg (by omega), if_neg (by omega)]
theorem rel_2 {A : Int → Prop} {y y' : Sy} (h : Rel A y y') (x z sz n : Int) (t : Bool) (H : ∀ c, c ∈ (doneS ⟨2, x, z, sz, n⟩ t y).acc → c.k = 1 → A c.a) : Rel A (doneS ⟨2, x, z, sz, n⟩ t y) (doneS ⟨2, x, z, sz, n⟩ t y') := by
 rw [done_2] at H
 rw [done_2, done_2]
 exact h.setStop _
theorem rel_3 {A : Int → Prop} {y y' : Sy} (h : Rel A y y') (x z sz n : Int) (t : Bool) (H : ∀ c, c ∈ (doneS ⟨3, x, z, sz, n⟩ t y).acc → c.k = 1 → A c.a) : Rel A (doneS ⟨3, x, z, sz, n⟩ t y) (doneS ⟨3, x, z, sz, n⟩ t y') := by
 rw [done_3] at H
 rw [done_3, done_3]
 exact h.setHalt _
theorem rel_4 {A : Int → Prop} {y y' : Sy} (h : Rel A y y') (x z sz n : Int) (t : Bool) (H : ∀ c, c ∈ (doneS ⟨4, x, z, sz, n⟩ t y).acc → c.k = 1 → A c.a) : Rel A (doneS ⟨4, x, z, sz, n⟩ t y) (doneS ⟨4, x, z, sz, n⟩ t y') := by
 rw [done_4] at H
 rw [done_4, done_4]
 rw [h.1]; exact h.setPC _
theorem rel_5 {A : Int → Prop} {y y' : Sy} (h : Rel A y y') (x z sz n : Int) (t : Bool) (H : ∀ c, c ∈ (doneS ⟨5, x, z, sz, n⟩ t y).acc → c.k = 1 → A c.a) : Rel A (doneS ⟨5, x, z, sz, n⟩ t y) (doneS ⟨5, x, z, sz, n⟩ t y') := by
 rw [done_5] at H
 rw [done_5, done_5]
 exact h.setIme _
theorem rel_6 {A : Int → Prop} {y y' : Sy} (h : Rel A y y') (x z sz n : Int) (t : Bool) (H : ∀ c, c ∈ (doneS ⟨6, x, z, sz, n⟩ t y).acc → c.k = 1 → A c.a) : Rel A (doneS ⟨6, x, z, sz, n⟩ t y) (doneS ⟨6, x, z, sz, n⟩ t y') := by
 rw [done_6] at H
 rw [done_6, done_6]
 exact h.setSoon _
theorem rel_7 {A : Int → Prop} {y y' : Sy} (h : Rel A y y') (x z sz n : Int) (t : Bool) (H : ∀ c, c ∈ (doneS ⟨7, x, z, sz, n⟩ t y).acc → c.k = 1 → A c.a) : Rel A (doneS ⟨7, x, z, sz, n⟩ t y) (doneS ⟨7, x, z, sz, n⟩ t y') := by
 rw [done_7] at H
 rw [done_7, done_7]
 have q : z = 6 → A (hlV y) := fun e => H _ (mem_ext (Ext.putS _ _ _) (mem_get e)) rfl
 rw [h.getY z q]; exact (h.getS z q).putS _ _
theorem rel_8 {A : Int → Prop} {y y' : Sy} (h : Rel A y y') (x z sz n : Int) (t : Bool) (H : ∀ c, c ∈ (doneS ⟨8, x, z, sz, n⟩ t y).acc → c.k = 1 → A c.a) : Rel A (doneS ⟨8, x, z, sz, n⟩ t y) (doneS ⟨8, x, z, sz, n⟩ t y') := by
 rw [done_8] at H
 rw [done_8, done_8]
 exact h.putS _ _
theorem rel_9 {A : Int → Prop} {y y' : Sy} (h : Rel A y y') (x z sz n : Int) (t : Bool) (H : ∀ c, c ∈ (doneS ⟨9, x, z, sz, n⟩ t y).acc → c.k = 1 → A c.a) : Rel A (doneS ⟨9, x, z, sz, n⟩ t y) (doneS ⟨9, x, z, sz, n⟩ t y') := by
 rw [done_9] at H
 rw [done_9, done_9]
 exact h.pairS _ _
theorem rel_10 {A : Int → Prop} {y y' : Sy} (h : Rel A y y') (x z sz n : Int) (t : Bool) (H : ∀ c, c ∈ (doneS ⟨10, x, z, sz, n⟩ t y).acc → c.k = 1 → A c.a) : Rel A (doneS ⟨10, x, z, sz, n⟩ t y) (doneS ⟨10, x, z, sz, n⟩ t y') := by
 rw [done_10] at H
 rw [done_10, done_10]
 have q : z = 6 → A (hlV y) := fun e => H _ (mem_get e) rfl
 rw [h.getY z q]; exact (h.getS z q).sumS _ _
theorem rel_11 {A : Int → Prop} {y y' : Sy} (h : Rel A y y') (x z sz n : Int) (t : Bool) (H : ∀ c, c ∈ (doneS ⟨11, x, z, sz, n⟩ t y).acc → c.k = 1 → A c.a) : Rel A (doneS ⟨11, x, z, sz, n⟩ t y) (doneS ⟨11, x, z, sz, n⟩ t y') := by
 rw [done_11] at H
 rw [done_11, done_11]
 exact h.sumS _ _
theorem rel_12 {A : Int → Prop} {y y' : Sy} (h : Rel A y y') (x z sz n : Int) (t : Bool) (H : ∀ c, c ∈ (doneS ⟨12, x, z, sz, n⟩ t y).acc → c.k = 1 → A c.a) : Rel A (doneS ⟨12, x, z, sz, n⟩ t y) (doneS ⟨12, x, z, sz, n⟩ t y') := by
 rw [done_12] at H
 rw [done_12, done_12]
 have q : x = 6 → A (hlV y) := fun e => H _ (show _ ∈ (putS _ _ _).acc from mem_ext (Ext.putS _ _ _) (mem_get e)) rfl
 rw [h.getY x q, h.1]; exact ((h.getS x q).putS _ _).setF _
theorem rel_13 {A : Int → Prop} {y y' : Sy} (h : Rel A y y') (x z sz n : Int) (t : Bool) (H : ∀ c, c ∈ (doneS ⟨13, x, z, sz, n⟩ t y).acc → c.k = 1 → A c.a) : Rel A (doneS ⟨13, x, z, sz, n⟩ t y) (doneS ⟨13, x, z, sz, n⟩ t y') := by
 rw [done_13] at H
 rw [done_13, done_13]
 have q : x = 6 → A (hlV y) := fun e => H _ (show _ ∈ (putS _ _ _).acc from mem_ext (Ext.putS _ _ _) (mem_get e)) rfl
 rw [h.getY x q, h.1]; exact ((h.getS x q).putS _ _).setF _
theorem rel_14 {A : Int → Prop} {y y' : Sy} (h : Rel A y y') (x z sz n : Int) (t : Bool) (H : ∀ c, c ∈ (doneS ⟨14, x, z, sz, n⟩ t y).acc → c.k = 1 → A c.a) : Rel A (doneS ⟨14, x, z, sz, n⟩ t y) (doneS ⟨14, x, z, sz, n⟩ t y') := by
 rw [done_14] at H
 rw [done_14, done_14]
 rw [h.1]; exact h.idle.pairS _ _
theorem rel_15 {A : Int → Prop} {y y' : Sy} (h : Rel A y y') (x z sz n : Int) (t : Bool) (H : ∀ c, c ∈ (doneS ⟨15, x, z, sz, n⟩ t y).acc → c.k = 1 → A c.a) : Rel A (doneS ⟨15, x, z, sz, n⟩ t y) (doneS ⟨15, x, z, sz, n⟩ t y') := by
 rw [done_15] at H
 rw [done_15, done_15]
 rw [h.1]; exact h.idle.pairS _ _
theorem rel_16 {A : Int → Prop} {y y' : Sy} (h : Rel A y y') (x z sz n : Int) (t : Bool) (H : ∀ c, c ∈ (doneS ⟨16, x, z, sz, n⟩ t y).acc → c.k = 1 → A c.a) : Rel A (doneS ⟨16, x, z, sz, n⟩ t y) (doneS ⟨16, x, z, sz, n⟩ t y') := by
 rw [done_16] at H
 rw [done_16, done_16]
 rw [h.hl, h.1]; exact (h.idle.pairS _ _).setF _
theorem rel_17 {A : Int → Prop} {y y' : Sy} (h : Rel A y y') (x z sz n : Int) (t : Bool) (H : ∀ c, c ∈ (doneS ⟨17, x, z, sz, n⟩ t y).acc → c.k = 1 → A c.a) : Rel A (doneS ⟨17, x, z, sz, n⟩ t y) (doneS ⟨17, x, z, sz, n⟩ t y') := by
 rw [done_17] at H
 rw [done_17, done_17]
 have q : z = 6 → A (hlV y) := fun e => H _ (mem_ext (Ext.putS _ _ _) (show _ ∈ (getS z y).acc from mem_get e)) rfl
 rw [h.getY z q, h.1]; exact ((h.getS z q).setF _).putS _ _
theorem rel_18 {A : Int → Prop} {y y' : Sy} (h : Rel A y y') (x z sz n : Int) (t : Bool) (H : ∀ c, c ∈ (doneS ⟨18, x, z, sz, n⟩ t y).acc → c.k = 1 → A c.a) : Rel A (doneS ⟨18, x, z, sz, n⟩ t y) (doneS ⟨18, x, z, sz, n⟩ t y') := by
 rw [done_18] at H
 rw [done_18, done_18]
 rw [h.1]; exact (h.setA _).setF _
theorem rel_19 {A : Int → Prop} {y y' : Sy} (h : Rel A y y') (x z sz n : Int) (t : Bool) (H : ∀ c, c ∈ (doneS ⟨19, x, z, sz, n⟩ t y).acc → c.k = 1 → A c.a) : Rel A (doneS ⟨19, x, z, sz, n⟩ t y) (doneS ⟨19, x, z, sz, n⟩ t y') := by
 rw [done_19] at H
 rw [done_19, done_19]
 rw [h.1]; exact (h.setA _).setF _
theorem rel_20 {A : Int → Prop} {y y' : Sy} (h : Rel A y y') (x z sz n : Int) (t : Bool) (H : ∀ c, c ∈ (doneS ⟨20, x, z, sz, n⟩ t y).acc → c.k = 1 → A c.a) : Rel A (doneS ⟨20, x, z, sz, n⟩ t y) (doneS ⟨20, x, z, sz, n⟩ t y') := by
 rw [done_20] at H
 rw [done_20, done_20]
 rw [h.1]; exact (h.setA _).setF _
theorem rel_21 {A : Int → Prop} {y y' : Sy} (h : Rel A y y') (x z sz n : Int) (t : Bool) (H : ∀ c, c ∈ (doneS ⟨21, x, z, sz, n⟩ t y).acc → c.k = 1 → A c.a) : Rel A (doneS ⟨21, x, z, sz, n⟩ t y) (doneS ⟨21, x, z, sz, n⟩ t y') := by
 rw [done_21] at H
 rw [done_21, done_21]
 rw [h.1]; exact h.setF _
theorem rel_22 {A : Int → Prop} {y y' : Sy} (h : Rel A y y') (x z sz n : Int) (t : Bool) (H : ∀ c, c ∈ (doneS ⟨22, x, z, sz, n⟩ t y).acc → c.k = 1 → A c.a) : Rel A (doneS ⟨22, x, z, sz, n⟩ t y) (doneS ⟨22, x, z, sz, n⟩ t y') := by
 rw [done_22] at H
 rw [done_22, done_22]
 rw [h.1]; exact h.setF _
theorem rel_23 {A : Int → Prop} {y y' : Sy} (h : Rel A y y') (x z sz n : Int) (t : Bool) (H : ∀ c, c ∈ (doneS ⟨23, x, z, sz, n⟩ t y).acc → c.k = 1 → A c.a) : Rel A (doneS ⟨23, x, z, sz, n⟩ t y) (doneS ⟨23, x, z, sz, n⟩ t y') := by
 rw [done_23] at H
 rw [done_23, done_23]
 cases t with
 | true => show Rel A (setPC _ (idle y)) (setPC _ (idle y')); rw [h.1]; exact h.idle.setPC _
 | false => exact h
theorem rel_24 {A : Int → Prop} {y y' : Sy} (h : Rel A y y') (x z sz n : Int) (t : Bool) (H : ∀ c, c ∈ (doneS ⟨24, x, z, sz, n⟩ t y).acc → c.k = 1 → A c.a) : Rel A (doneS ⟨24, x, z, sz, n⟩ t y) (doneS ⟨24, x, z, sz, n⟩ t y') := by
 rw [done_24] at H
 rw [done_24, done_24]
 cases t with
 | true => exact h.idle.setPC _
 | false => exact h
theorem rel_25 {A : Int → Prop} {y y' : Sy} (h : Rel A y y') (x z sz n : Int) (t : Bool) (H : ∀ c, c ∈ (doneS ⟨25, x, z, sz, n⟩ t y).acc → c.k = 1 → A c.a) : Rel A (doneS ⟨25, x, z, sz, n⟩ t y) (doneS ⟨25, x, z, sz, n⟩ t y') := by
 rw [done_25] at H
 rw [done_25, done_25]
 cases t with
 | true => exact h.enterS _
 | false => exact h
theorem rel_26 {A : Int → Prop} {y y' : Sy} (h : Rel A y y') (x z sz n : Int) (t : Bool) (H : ∀ c, c ∈ (doneS ⟨26, x, z, sz, n⟩ t y).acc → c.k = 1 → A c.a) : Rel A (doneS ⟨26, x, z, sz, n⟩ t y) (doneS ⟨26, x, z, sz, n⟩ t y') := by
 rw [done_26] at H
 rw [done_26, done_26]
 cases t with
 | true =>
  cases hx : x == 4 with
  | true =>
   rw [hx] at H
   exact h.leaveS (H _ (show _ ∈ (leaveS y).acc from List.mem_append_left _ (mem_pop y).1) rfl) (H _ (show _ ∈ (leaveS y).acc from List.mem_append_left _ (mem_pop y).2) rfl)
  | false =>
   rw [hx] at H
   exact h.idle.leaveS (H _ (show _ ∈ (leaveS (idle y)).acc from List.mem_append_left _ (mem_pop (idle y)).1) rfl) (H _ (show _ ∈ (leaveS (idle y)).acc from List.mem_append_left _ (mem_pop (idle y)).2) rfl)
 | false =>
  cases hx : x == 4 with
  | true => exact h
  | false => exact h.idle
theorem rel_27 {A : Int → Prop} {y y' : Sy} (h : Rel A y y') (x z sz n : Int) (t : Bool) (H : ∀ c, c ∈ (doneS ⟨27, x, z, sz, n⟩ t y).acc → c.k = 1 → A c.a) : Rel A (doneS ⟨27, x, z, sz, n⟩ t y) (doneS ⟨27, x, z, sz, n⟩ t y') := by
 rw [done_27] at H
 rw [done_27, done_27]
 exact (h.leaveS (H _ (show _ ∈ (leaveS y).acc from List.mem_append_left _ (mem_pop y).1) rfl) (H _ (show _ ∈ (leaveS y).acc from List.mem_append_left _ (mem_pop y).2) rfl)).setIme _
theorem rel_28 {A : Int → Prop} {y y' : Sy} (h : Rel A y y') (x z sz n : Int) (t : Bool) (H : ∀ c, c ∈ (doneS ⟨28, x, z, sz, n⟩ t y).acc → c.k = 1 → A c.a) : Rel A (doneS ⟨28, x, z, sz, n⟩ t y) (doneS ⟨28, x, z, sz, n⟩ t y') := by
 rw [done_28] at H
 rw [done_28, done_28]
 exact h.enterS _
theorem rel_29 {A : Int → Prop} {y y' : Sy} (h : Rel A y y') (x z sz n : Int) (t : Bool) (H : ∀ c, c ∈ (doneS ⟨29, x, z, sz, n⟩ t y).acc → c.k = 1 → A c.a) : Rel A (doneS ⟨29, x, z, sz, n⟩ t y) (doneS ⟨29, x, z, sz, n⟩ t y') := by
 rw [done_29] at H
 rw [done_29, done_29]
 rw [h.hl]; exact h.setPC _
theorem rel_30 {A : Int → Prop} {y y' : Sy} (h : Rel A y y') (x z sz n : Int) (t : Bool) (H : ∀ c, c ∈ (doneS ⟨30, x, z, sz, n⟩ t y).acc → c.k = 1 → A c.a) : Rel A (doneS ⟨30, x, z, sz, n⟩ t y) (doneS ⟨30, x, z, sz, n⟩ t y') := by
 rw [done_30] at H
 rw [done_30, done_30]
 rw [h.1]; exact h.pushS _
theorem rel_31 {A : Int → Prop} {y y' : Sy} (h : Rel A y y') (x z sz n : Int) (t : Bool) (H : ∀ c, c ∈ (doneS ⟨31, x, z, sz, n⟩ t y).acc → c.k = 1 → A c.a) : Rel A (doneS ⟨31, x, z, sz, n⟩ t y) (doneS ⟨31, x, z, sz, n⟩ t y') := by
 rw [done_31] at H
 rw [done_31, done_31]
 have q1 := H _ (show _ ∈ (popS y).acc from (mem_pop y).1) rfl
 have q2 := H _ (show _ ∈ (popS y).acc from (mem_pop y).2) rfl
 rw [h.popV q1 q2]; exact (h.popS q1 q2).pairS _ _
theorem rel_32 {A : Int → Prop} {y y' : Sy} (h : Rel A y y') (x z sz n : Int) (t : Bool) (H : ∀ c, c ∈ (doneS ⟨32, x, z, sz, n⟩ t y).acc → c.k = 1 → A c.a) : Rel A (doneS ⟨32, x, z, sz, n⟩ t y) (doneS ⟨32, x, z, sz, n⟩ t y') := by
 rw [done_32] at H
 rw [done_32, done_32]
 have q : A (thruV x y) := H _ (show _ ∈ (rd 1 (thruV x y) (thruS x y)).acc from mem_rd _ _ _) rfl
 rw [h.thruV x, h.2.2 _ q]; exact ((h.thruS x).rd 1 _ q).setA _
theorem rel_33 {A : Int → Prop} {y y' : Sy} (h : Rel A y y') (x z sz n : Int) (t : Bool) (H : ∀ c, c ∈ (doneS ⟨33, x, z, sz, n⟩ t y).acc → c.k = 1 → A c.a) : Rel A (doneS ⟨33, x, z, sz, n⟩ t y) (doneS ⟨33, x, z, sz, n⟩ t y') := by
 rw [done_33] at H
 rw [done_33, done_33]
 rw [h.thruV x, h.1]; exact (h.thruS x).wr _ _
theorem rel_34 {A : Int → Prop} {y y' : Sy} (h : Rel A y y') (x z sz n : Int) (t : Bool) (H : ∀ c, c ∈ (doneS ⟨34, x, z, sz, n⟩ t y).acc → c.k = 1 → A c.a) : Rel A (doneS ⟨34, x, z, sz, n⟩ t y) (doneS ⟨34, x, z, sz, n⟩ t y') := by
 rw [done_34] at H
 rw [done_34, done_34]
 have q : A (65280 + n) := H _ (show _ ∈ (rd 1 (65280 + n) y).acc from mem_rd _ _ _) rfl
 rw [h.2.2 _ q]; exact (h.rd 1 _ q).setA _
theorem rel_35 {A : Int → Prop} {y y' : Sy} (h : Rel A y y') (x z sz n : Int) (t : Bool) (H : ∀ c, c ∈ (doneS ⟨35, x, z, sz, n⟩ t y).acc → c.k = 1 → A c.a) : Rel A (doneS ⟨35, x, z, sz, n⟩ t y) (doneS ⟨35, x, z, sz, n⟩ t y') := by
 rw [done_35] at H
 rw [done_35, done_35]
 rw [h.1]; exact h.wr _ _
theorem rel_36 {A : Int → Prop} {y y' : Sy} (h : Rel A y y') (x z sz n : Int) (t : Bool) (H : ∀ c, c ∈ (doneS ⟨36, x, z, sz, n⟩ t y).acc → c.k = 1 → A c.a) : Rel A (doneS ⟨36, x, z, sz, n⟩ t y) (doneS ⟨36, x, z, sz, n⟩ t y') := by
 rw [done_36] at H
 rw [done_36, done_36]
 have q : A (65280 + y.s.r.c) := H _ (show _ ∈ (rd 1 (65280 + y.s.r.c) y).acc from mem_rd _ _ _) rfl
 rw [h.1]
 rw [h.2.2 _ q]; exact (h.rd 1 _ q).setA _
theorem rel_37 {A : Int → Prop} {y y' : Sy} (h : Rel A y y') (x z sz n : Int) (t : Bool) (H : ∀ c, c ∈ (doneS ⟨37, x, z, sz, n⟩ t y).acc → c.k = 1 → A c.a) : Rel A (doneS ⟨37, x, z, sz, n⟩ t y) (doneS ⟨37, x, z, sz, n⟩ t y') := by
 rw [done_37] at H
 rw [done_37, done_37]
 rw [h.1]; exact h.wr _ _
theorem rel_38 {A : Int → Prop} {y y' : Sy} (h : Rel A y y') (x z sz n : Int) (t : Bool) (H : ∀ c, c ∈ (doneS ⟨38, x, z, sz, n⟩ t y).acc → c.k = 1 → A c.a) : Rel A (doneS ⟨38, x, z, sz, n⟩ t y) (doneS ⟨38, x, z, sz, n⟩ t y') := by
 rw [done_38] at H
 rw [done_38, done_38]
 have q : A n := H _ (show _ ∈ (rd 1 n y).acc from mem_rd _ _ _) rfl
 rw [h.2.2 _ q]; exact (h.rd 1 _ q).setA _
theorem rel_39 {A : Int → Prop} {y y' : Sy} (h : Rel A y y') (x z sz n : Int) (t : Bool) (H : ∀ c, c ∈ (doneS ⟨39, x, z, sz, n⟩ t y).acc → c.k = 1 → A c.a) : Rel A (doneS ⟨39, x, z, sz, n⟩ t y) (doneS ⟨39, x, z, sz, n⟩ t y') := by
 rw [done_39] at H
 rw [done_39, done_39]
 rw [h.1]; exact h.wr _ _
theorem rel_40 {A : Int → Prop} {y y' : Sy} (h : Rel A y y') (x z sz n : Int) (t : Bool) (H : ∀ c, c ∈ (doneS ⟨40, x, z, sz, n⟩ t y).acc → c.k = 1 → A c.a) : Rel A (doneS ⟨40, x, z, sz, n⟩ t y) (doneS ⟨40, x, z, sz, n⟩ t y') := by
 rw [done_40] at H
 rw [done_40, done_40]
 rw [h.1]; exact (h.wr _ _).wr _ _
theorem rel_41 {A : Int → Prop} {y y' : Sy} (h : Rel A y y') (x z sz n : Int) (t : Bool) (H : ∀ c, c ∈ (doneS ⟨41, x, z, sz, n⟩ t y).acc → c.k = 1 → A c.a) : Rel A (doneS ⟨41, x, z, sz, n⟩ t y) (doneS ⟨41, x, z, sz, n⟩ t y') := by
 rw [done_41] at H
 rw [done_41, done_41]
 rw [h.1]; exact (h.idle.idle.setSP _).setF _
theorem rel_42 {A : Int → Prop} {y y' : Sy} (h : Rel A y y') (x z sz n : Int) (t : Bool) (H : ∀ c, c ∈ (doneS ⟨42, x, z, sz, n⟩ t y).acc → c.k = 1 → A c.a) : Rel A (doneS ⟨42, x, z, sz, n⟩ t y) (doneS ⟨42, x, z, sz, n⟩ t y') := by
 rw [done_42] at H
 rw [done_42, done_42]
 rw [h.1]; exact (h.idle.pairS _ _).setF _
theorem rel_43 {A : Int → Prop} {y y' : Sy} (h : Rel A y y') (x z sz n : Int) (t : Bool) (H : ∀ c, c ∈ (doneS ⟨43, x, z, sz, n⟩ t y).acc → c.k = 1 → A c.a) : Rel A (doneS ⟨43, x, z, sz, n⟩ t y) (doneS ⟨43, x, z, sz, n⟩ t y') := by
 rw [done_43] at H
 rw [done_43, done_43]
 rw [h.hl]; exact h.idle.setSP _
theorem rel_44 {A : Int → Prop} {y y' : Sy} (h : Rel A y y') (x z sz n : Int) (t : Bool) (H : ∀ c, c ∈ (doneS ⟨44, x, z, sz, n⟩ t y).acc → c.k = 1 → A c.a) : Rel A (doneS ⟨44, x, z, sz, n⟩ t y) (doneS ⟨44, x, z, sz, n⟩ t y') := by
 rw [done_44] at H
 rw [done_44, done_44]
 have q : z = 6 → A (hlV y) := fun e => H _ (show _ ∈ (getS z y).acc from mem_get e) rfl
 rw [h.getY z q, h.1]; exact (h.getS z q).setF _
theorem rel_45 {A : Int → Prop} {y y' : Sy} (h : Rel A y y') (x z sz n : Int) (t : Bool) (H : ∀ c, c ∈ (doneS ⟨45, x, z, sz, n⟩ t y).acc → c.k = 1 → A c.a) : Rel A (doneS ⟨45, x, z, sz, n⟩ t y) (doneS ⟨45, x, z, sz, n⟩ t y') := by
 rw [done_45] at H
 rw [done_45, done_45]
 have q : z = 6 → A (hlV y) := fun e => H _ (mem_ext (Ext.putS _ _ _) (mem_get e)) rfl
 rw [h.getY z q]; exact (h.getS z q).putS _ _
theorem rel_46 {A : Int → Prop} {y y' : Sy} (h : Rel A y y') (x z sz n : Int) (t : Bool) (H : ∀ c, c ∈ (doneS ⟨46, x, z, sz, n⟩ t y).acc → c.k = 1 → A c.a) : Rel A (doneS ⟨46, x, z, sz, n⟩ t y) (doneS ⟨46, x, z, sz, n⟩ t y') := by
 rw [done_46] at H
 rw [done_46, done_46]
 have q : z = 6 → A (hlV y) := fun e => H _ (mem_ext (Ext.putS _ _ _) (mem_get e)) rfl
 rw [h.getY z q]; exact (h.getS z q).putS _ _
theorem done_rel {A : Int → Prop} {y y' : Sy} (h : Rel A y y') (o : OpV) (t : Bool) (H : ∀ c, c ∈ (doneS o t y).acc → c.k = 1 → A c.a) : Rel A (doneS o t y) (doneS o t y') := by
 by_cases hk : o.k < 2 ∨ 46 < o.k
 ·rw [done_no _ _ _ hk, done_no _ _ _ hk]; exact h
 ·obtain ⟨k, x, z, sz, n⟩ := o
  dsimp only at hk
  rcases (by omega : k = 2 ∨ k = 3 ∨ k = 4 ∨ k = 5 ∨ k = 6 ∨ k = 7 ∨ k = 8 ∨ k = 9 ∨ k = 10 ∨ k = 11 ∨ k = 12 ∨ k = 13 ∨ k = 14 ∨ k = 15 ∨ k = 16 ∨ k = 17 ∨ k = 18 ∨ k = 19 ∨ k = 20 ∨ k = 21 ∨ k = 22 ∨ k = 23 ∨ k = 24 ∨ k = 25 ∨ k = 26 ∨ k = 27 ∨ k = 28 ∨ k = 29 ∨ k = 30 ∨ k = 31 ∨ k = 32 ∨ k = 33 ∨ k = 34 ∨ k = 35 ∨ k = 36 ∨ k = 37 ∨ k = 38 ∨ k = 39 ∨ k = 40 ∨ k = 41 ∨ k = 42 ∨ k = 43 ∨ k = 44 ∨ k = 45 ∨ k = 46) with rfl | rfl | rfl | rfl | rfl | rfl | rfl | rfl | rfl | rfl | rfl | rfl | rfl | rfl | rfl | rfl | rfl | rfl | rfl | rfl | rfl | rfl | rfl | rfl | rfl | rfl | rfl | rfl | rfl | rfl | rfl | rfl | rfl | rfl | rfl | rfl | rfl | rfl | rfl | rfl | rfl | rfl | rfl | rfl | rfl
  ·exact rel_2 h x z sz n t H
  ·exact rel_3 h x z sz n t H
  ·exact rel_4 h x z sz n t H
  ·exact rel_5 h x z sz n t H
  ·exact rel_6 h x z sz n t H
  ·exact rel_7 h x z sz n t H
  ·exact rel_8 h x z sz n t H
  ·exact rel_9 h x z sz n t H
  ·exact rel_10 h x z sz n t H
  ·exact rel_11 h x z sz n t H
  ·exact rel_12 h x z sz n t H
  ·exact rel_13 h x z sz n t H
  ·exact rel_14 h x z sz n t H
  ·exact rel_15 h x z sz n t H
  ·exact rel_16 h x z sz n t H
  ·exact rel_17 h x z sz n t H
  ·exact rel_18 h x z sz n t H
  ·exact rel_19 h x z sz n t H
  ·exact rel_20 h x z sz n t H
  ·exact rel_21 h x z sz n t H
  ·exact rel_22 h x z sz n t H
  ·exact rel_23 h x z sz n t H
  ·exact rel_24 h x z sz n t H
  ·exact rel_25 h x z sz n t H
  ·exact rel_26 h x z sz n t H
  ·exact rel_27 h x z sz n t H
  ·exact rel_28 h x z sz n t H
  ·exact rel_29 h x z sz n t H
  ·exact rel_30 h x z sz n t H
  ·exact rel_31 h x z sz n t H
  ·exact rel_32 h x z sz n t H
  ·exact rel_33 h x z sz n t H
  ·exact rel_34 h x z sz n t H
  ·exact rel_35 h x z sz n t H
  ·exact rel_36 h x z sz n t H
  ·exact rel_37 h x z sz n t H
  ·exact rel_38 h x z sz n t H
  ·exact rel_39 h x z sz n t H
  ·exact rel_40 h x z sz n t H
  ·exact rel_41 h x z sz n t H
  ·exact rel_42 h x z sz n t H
  ·exact rel_43 h x z sz n t H
  ·exact rel_44 h x z sz n t H
  ·exact rel_45 h x z sz n t H
  ·exact rel_46 h x z sz n t H
end Go.Proofs.YtngdogldgcgnjaaGreat
