/-
  What run does: for every world; the processor is there.
-/
import Derived.Test.YtngdogldgcgnjaaGreatZ19
import Derived.Test.YtngdogldgcgnjaaGreatZ20
set_option maxRecDepth 100000
set_option maxHeartbeats 8000000
namespace Go.Proofs.YtngdogldgcgnjaaGreat
open Go.ChangeShapes Go.WideShapes Go.ChangeAt Go.RowKit
open Reg
set_option linter.unusedVariables false
section
variable {w : World} {P R M tb n : Nat} {v : Value} {y : Sy}
theorem fetch_p (h0 : Sys procD ramC w P R M tb v y n) (hn : n < 800000) : Calls Tryz.prog 53 #[.pointer (some ⟨P, 0, none⟩), .pointer (some ⟨tb, 0, none⟩)] w (PE procD ramC P R M tb v w (.agg #[.int .i64 (opV y).k, .int .i64 (opV y).x, .int .i64 (opV y).y, .int .i64 (opV y).s, .int .u16 (opV y).n]) (fetchS y) (n + 3)) := by
 have hb := h0.okm y.s.r.pc; have g := good_dec (y.m y.s.r.pc).toNat 0 0 (by omega) (by decide) (by decide)
 have hs : (decF (y.m y.s.r.pc).toNat 0 0).s = 1 ∨ (decF (y.m y.s.r.pc).toNat 0 0).s = 2 ∨ (decF (y.m y.s.r.pc).toNat 0 0).s = 3 := by have := g.s0; have := g.s1; omega
 rcases hs with h | h | h
 ·exact fetch_1 h0 hn h
 ·exact fetch_2 h0 hn h
 ·exact fetch_3 h0 hn h
theorem opV_good {D : Nat → Array Value} {C : Nat → Int → Value → Array Value} (h : Sys D C w P R M tb v y n) : Good (opV y) := by
 unfold opV
 have h0 := h.okm ((y.s.r.pc + (0 : Nat)) % 65536); have h1 := h.okm ((y.s.r.pc + (1 : Nat)) % 65536); have h2 := h.okm ((y.s.r.pc + (2 : Nat)) % 65536)
 refine good_dec _ _ _ (by unfold byteV; omega) ?_ ?_
 ·split
  ·unfold byteV; omega
  ·decide
 ·split
  ·unfold byteV; omega
  ·decide
def didC (d : DidV) : Array Value := #[.int .i64 d.what, .int .i64 d.n, .int .u16 d.at', .int .i64 d.o.k, .int .i64 d.o.x, .int .i64 d.o.y, .int .i64 d.o.s, .int .u16 d.o.n, .bool d.t]
theorem fetchN_s (k : Nat) : ∀ y : Sy, (fetchN k y).s.ime = y.s.ime ∧ (fetchN k y).s.soon = y.s.soon := by
 induction k with
 | zero => intro y; exact ⟨rfl, rfl⟩
 | succ k ih => intro y; exact ⟨(ih (fetch1 y)).1, (ih (fetch1 y)).2⟩
theorem fetchS_ime (y : Sy) : (fetchS y).s.ime = y.s.ime := (fetchN_s _ y).1
theorem fetchS_soon (y : Sy) : (fetchS y).s.soon = y.s.soon := (fetchN_s _ y).2
theorem run_p (h0 : Sys procD ramC w P R M tb v y n) (hn : n < 700000) : Calls Tryz.prog 30 #[.pointer (some ⟨P, 0, none⟩), .pointer (some ⟨tb, 0, none⟩)] w (PE procD ramC P R M tb v w (.agg (didC ⟨1, 0, 0, opV y, takenV (opV y) (fetchS y)⟩)) (runS y) (n + 10)) := by
 have S0 := Lib.hid (h0.below (own1 w (.cells #[.int .i64 0, .int .i64 0, .int .u16 0, .int .i64 0, .int .i64 0, .int .i64 0, .int .i64 0, .int .u16 0, .bool false] 46)))
 have M0 := Lib.hid (show PM P R M tb v w v (w.alloc (.cells #[.int .i64 0, .int .i64 0, .int .u16 0, .int .i64 0, .int .i64 0, .int .i64 0, .int .i64 0, .int .u16 0, .bool false] 46)) from PM.of (own1 w (.cells #[.int .i64 0, .int .i64 0, .int .u16 0, .int .i64 0, .int .i64 0, .int .i64 0, .int .i64 0, .int .u16 0, .bool false] 46)))
 have HR0 := Lib.hid (Has.new w #[.int .i64 0, .int .i64 0, .int .u16 0, .int .i64 0, .int .i64 0, .int .i64 0, .int .i64 0, .int .u16 0, .bool false] 46); have NR0 := Lib.hid (h0.new (Nat.le_refl w.heap.size)); have G := Lib.hid (opV_good h0); have LR := Lib.hid (Nat.le_refl w.heap.size); clear h0; go_enter Tryz.func30, Tryz.ntmps30; go_wp2_with fail; generalize w.alloc (.cells #[.int .i64 0, .int .i64 0, .int .u16 0, .int .i64 0, .int .i64 0, .int .i64 0, .int .i64 0, .int .u16 0, .bool false] 46) = w0 at S0 M0 HR0 ⊢; obtain ⟨o, hO⟩ : ∃ q_, q_ = opV y := ⟨_, rfl⟩
 with_reducible refine (fetch_p S0.out (by omega)).mono ?_
 rintro e w1 ⟨rfl, v1, s', m'⟩; have HR1 := Lib.hid (m'.has HR0.out NR0.out); have NR1 := Lib.hid (m'.far HR0.out.1 NR0.out); have M1 := M0.tr m'; obtain ⟨y1, hy⟩ : ∃ q_, q_ = fetchS y := ⟨_, rfl⟩; rw [← hy] at s'; have Y1 := Lib.hid hy
 (try clear hc hf)
 obtain ⟨hc, hf⟩ := s'.cp; have S1 := Lib.hid s'; clear s' m' hy; rw [← hO]; rw [← hO] at G; have OO := Lib.hid hO; clear hO; have S1' := Lib.hid (S1.out.below (own1 w1 (.cells #[.int .i64 o.k, .int .i64 o.x, .int .i64 o.y, .int .i64 o.s, .int .u16 o.n] 44))); have M1' := Lib.hid (M1.out.trans (PM.of (own1 w1 (.cells #[.int .i64 o.k, .int .i64 o.x, .int .i64 o.y, .int .i64 o.s, .int .u16 o.n] 44)))); have HR1' := Lib.hid (HR1.out.alloc (.cells #[.int .i64 o.k, .int .i64 o.x, .int .i64 o.y, .int .i64 o.s, .int .u16 o.n] 44)); have HO1 := Lib.hid (Has.new w1 #[.int .i64 o.k, .int .i64 o.x, .int .i64 o.y, .int .i64 o.s, .int .u16 o.n] 44); have NO1 := Lib.hid (S1.out.new (Nat.le_refl w1.heap.size)); clear hc hf; obtain ⟨hc, hf⟩ := S1'.out.cp; have Q1 := Lib.hid (S1'.out.stIme (y1.s.ime || y1.s.soon)); have Q2 := Lib.hid (Q1.out.1.stSoon false); have HO2 := Lib.hid (Q2.out.2.has (Q1.out.2.has HO1.out NO1.out) NO1.out); have HR2 := Lib.hid (Q2.out.2.has (Q1.out.2.has HR1'.out NR1.out) NR1.out); have M2 := Lib.hid ((M1'.out.trans Q1.out.2).trans Q2.out.2)
 have hpk : ∀ (p q : Bool), (if p = true then Value.bool true else Value.bool q) = Value.bool (p || q) := fun p q => by cases p <;> rfl
 cases hime : y1.s.ime
 ·skip
  rw [hime] at hc
  have hor : (y1.s.ime || y1.s.soon) = y1.s.soon := by rw [hime]; rfl
  rw [hor] at Q1 Q2; have HME := Lib.hid hime; have HOR := Lib.hid hor; clear hime hor hpk; go_wp2_with fail; have s' := Q2.out.1; have HO2 := Lib.hid (Q2.out.2.has (Q1.out.2.has HO1.out NO1.out) NO1.out); have HR2 := Lib.hid (Q2.out.2.has (Q1.out.2.has HR1'.out NR1.out) NR1.out); have M2 := Lib.hid ((M1'.out.trans Q1.out.2).trans Q2.out.2); clear Q1 Q2; generalize ((World.setCell (World.alloc w1 (.cells #[.int .i64 o.k, .int .i64 o.x, .int .i64 o.y, .int .i64 o.s, .int .u16 o.n] 44)) ⟨P, 10, none⟩ (.bool (y1.s.soon))).setCell ⟨P, 11, none⟩ (.bool false)) = w2 at s' HO2 HR2 M2 ⊢; generalize w1.heap.size = ob at HO2 NO1 ⊢; obtain ⟨y2, hy⟩ : ∃ q_, q_ = setSoon false (setIme (y1.s.soon) y1) := ⟨_, rfl⟩; rw [← hy] at s'; have Y2 := Lib.hid hy; clear hy hc hf; obtain ⟨hc, hf⟩ := s'.cp; have S2 := Lib.hid s'; clear s'
  with_reducible refine (holds_p S2.out (by omega) o).mono ?_
  rintro e w3 ⟨rfl, v3, s', m'⟩; have HR3 := Lib.hid (m'.has HR2.out NR1.out); have NR3 := Lib.hid (m'.far HR2.out.1 NR1.out); have HO3 := Lib.hid (m'.has HO2.out NO1.out); have NO3 := Lib.hid (m'.far HO2.out.1 NO1.out); have M3 := M2.tr m'; clear hc hf; obtain ⟨hc, hf⟩ := s'.cp; have S3 := Lib.hid s'; clear s' m'; have ho := HO3.out.2.1; obtain ⟨t, ht⟩ : ∃ q_, q_ = takenV o y2 := ⟨_, rfl⟩; rw [← ht]; have TT := Lib.hid ht; clear ht; go_wp2_with fail
  with_reducible refine (perf_p S3.out (by omega) o G.out t).mono ?_
  rintro e w4 ⟨rfl, v4, s', m'⟩; have HR4 := Lib.hid (m'.has HR3.out NR3.out); have NR4 := Lib.hid (m'.far HR3.out.1 NR3.out); have HO4 := Lib.hid (m'.has HO3.out NO3.out); have M4 := M3.tr m'; have S4 := Lib.hid s'; clear s' m' hc hf ho; have ho := HO4.out.2.1; have hr := HR4.out.2.1; have hrf := HR4.out.2.2; go_wp2
  refine bodyPost_ret (v := .agg (didC ⟨1, 0, 0, o, t⟩)) (by simp [results, Tryz.results30, go_sem, hr, didC]) rfl ⟨?_, v4, ?_, ((((((((M4.out.own LR.out 0 _).own LR.out 1 _).own LR.out 2 _).own LR.out 3 _).own LR.out 4 _).own LR.out 5 _).own LR.out 6 _).own LR.out 7 _).own LR.out 8 _⟩
  ·have e1 : takenV (opV y) (fetchS y) = t := by
    rw [TT.out, Y2.out, ← OO.out, ← Y1.out]
    rfl
   rw [e1, ← OO.out]
  ·have q := ((((((((S4.out.own NR4.out 0 (.int .i64 1)).own NR4.out 1 (.int .i64 0)).own NR4.out 2 (.int .u16 0)).own NR4.out 3 (.int .i64 o.k)).own NR4.out 4 (.int .i64 o.x)).own NR4.out 5 (.int .i64 o.y)).own NR4.out 6 (.int .i64 o.s)).own NR4.out 7 (.int .u16 o.n)).own NR4.out 8 (.bool t)
   have e2 : runS y = doneS o t y2 := by
    unfold runS
    have e1 : takenV (opV y) (fetchS y) = t := by
     rw [TT.out, Y2.out, ← OO.out, ← Y1.out]
     rfl
    rw [e1, ← OO.out, ← Y1.out, Y2.out]
    have e3 : (y.s.ime || y.s.soon) = y1.s.soon := by rw [← HOR.out, Y1.out, fetchS_ime, fetchS_soon]
    rw [e3]
   rw [e2]
   exact q.mo
 ·skip
  rw [hime] at hc
  have hor : (y1.s.ime || y1.s.soon) = true := by rw [hime]; rfl
  rw [hor] at Q1 Q2; have HME := Lib.hid hime; have HOR := Lib.hid hor; clear hime hor hpk; go_wp2_with fail; have s' := Q2.out.1; have HO2 := Lib.hid (Q2.out.2.has (Q1.out.2.has HO1.out NO1.out) NO1.out); have HR2 := Lib.hid (Q2.out.2.has (Q1.out.2.has HR1'.out NR1.out) NR1.out); have M2 := Lib.hid ((M1'.out.trans Q1.out.2).trans Q2.out.2); clear Q1 Q2; generalize ((World.setCell (World.alloc w1 (.cells #[.int .i64 o.k, .int .i64 o.x, .int .i64 o.y, .int .i64 o.s, .int .u16 o.n] 44)) ⟨P, 10, none⟩ (.bool (true))).setCell ⟨P, 11, none⟩ (.bool false)) = w2 at s' HO2 HR2 M2 ⊢; generalize w1.heap.size = ob at HO2 NO1 ⊢; obtain ⟨y2, hy⟩ : ∃ q_, q_ = setSoon false (setIme (true) y1) := ⟨_, rfl⟩; rw [← hy] at s'; have Y2 := Lib.hid hy; clear hy hc hf; obtain ⟨hc, hf⟩ := s'.cp; have S2 := Lib.hid s'; clear s'
  with_reducible refine (holds_p S2.out (by omega) o).mono ?_
  rintro e w3 ⟨rfl, v3, s', m'⟩; have HR3 := Lib.hid (m'.has HR2.out NR1.out); have NR3 := Lib.hid (m'.far HR2.out.1 NR1.out); have HO3 := Lib.hid (m'.has HO2.out NO1.out); have NO3 := Lib.hid (m'.far HO2.out.1 NO1.out); have M3 := M2.tr m'; clear hc hf; obtain ⟨hc, hf⟩ := s'.cp; have S3 := Lib.hid s'; clear s' m'; have ho := HO3.out.2.1; obtain ⟨t, ht⟩ : ∃ q_, q_ = takenV o y2 := ⟨_, rfl⟩; rw [← ht]; have TT := Lib.hid ht; clear ht; go_wp2_with fail
  with_reducible refine (perf_p S3.out (by omega) o G.out t).mono ?_
  rintro e w4 ⟨rfl, v4, s', m'⟩; have HR4 := Lib.hid (m'.has HR3.out NR3.out); have NR4 := Lib.hid (m'.far HR3.out.1 NR3.out); have HO4 := Lib.hid (m'.has HO3.out NO3.out); have M4 := M3.tr m'; have S4 := Lib.hid s'; clear s' m' hc hf ho; have ho := HO4.out.2.1; have hr := HR4.out.2.1; have hrf := HR4.out.2.2; go_wp2
  refine bodyPost_ret (v := .agg (didC ⟨1, 0, 0, o, t⟩)) (by simp [results, Tryz.results30, go_sem, hr, didC]) rfl ⟨?_, v4, ?_, ((((((((M4.out.own LR.out 0 _).own LR.out 1 _).own LR.out 2 _).own LR.out 3 _).own LR.out 4 _).own LR.out 5 _).own LR.out 6 _).own LR.out 7 _).own LR.out 8 _⟩
  ·have e1 : takenV (opV y) (fetchS y) = t := by
    rw [TT.out, Y2.out, ← OO.out, ← Y1.out]
    rfl
   rw [e1, ← OO.out]
  ·have q := ((((((((S4.out.own NR4.out 0 (.int .i64 1)).own NR4.out 1 (.int .i64 0)).own NR4.out 2 (.int .u16 0)).own NR4.out 3 (.int .i64 o.k)).own NR4.out 4 (.int .i64 o.x)).own NR4.out 5 (.int .i64 o.y)).own NR4.out 6 (.int .i64 o.s)).own NR4.out 7 (.int .u16 o.n)).own NR4.out 8 (.bool t)
   have e2 : runS y = doneS o t y2 := by
    unfold runS
    have e1 : takenV (opV y) (fetchS y) = t := by
     rw [TT.out, Y2.out, ← OO.out, ← Y1.out]
     rfl
    rw [e1, ← OO.out, ← Y1.out, Y2.out]
    have e3 : (y.s.ime || y.s.soon) = true := by rw [← HOR.out, Y1.out, fetchS_ime, fetchS_soon]
    rw [e3]
   rw [e2]
   exact q.mo
end
end Go.Proofs.YtngdogldgcgnjaaGreat
