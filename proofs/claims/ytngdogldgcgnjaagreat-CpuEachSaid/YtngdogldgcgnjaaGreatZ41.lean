/-
  How the document's Step begins: for every world; the memory is there.
  (Some texts in one.)
-/
import Derived.Test.YtngdogldgcgnjaaGreatZ39
import Derived.Test.YtngdogldgcgnjaaGreatZ40
import Derived.Test.YtngdogldgcgnjaaGreatZ21
import Derived.Deep.Cut
import Derived.LoopN
set_option maxRecDepth 100000
set_option maxHeartbeats 8000000
namespace Go.Proofs.YtngdogldgcgnjaaGreat
open Go.ChangeShapes Go.WideShapes Go.ChangeAt Go.RowKit
open Reg
set_option linter.unusedVariables false
theorem Hd {p : Prop} (h : p) : Hid p := Lib.hid h
theorem sx {w : World} {P R M tb n : Nat} {v : Value} (q : Sy) (s : Sys noD memC w P R M tb v q n) : ∃ y, Hid (y = q) ∧ Hid (Sys noD memC w P R M tb v y n) ∧ (∀ o, w.cell? ⟨P, o, none⟩ = #[.int .u8 y.s.r.a, .int .u8 y.s.r.f, .int .u8 y.s.r.b, .int .u8 y.s.r.c, .int .u8 y.s.r.d, .int .u8 y.s.r.e, .int .u8 y.s.r.h, .int .u8 y.s.r.l, .int .u16 y.s.r.sp, .int .u16 y.s.r.pc, .bool y.s.ime, .bool y.s.soon, .bool y.s.halt, .bool y.s.stop][o]?) ∧ (∀ o, w.frozen? ⟨P, o, none⟩ = false) := ⟨q, Lib.hid rfl, Lib.hid s, s.cm⟩
section
variable {w : World} {P R M tb n : Nat} {v : Value} {y : Sy}
def Kp (P R M tb : Nat) (v : Value) (w : World) (A B_ : Nat) (x z : Array Value) : Prop := Has w A x ∧ ¬ PX P R M tb v A ∧ Has w B_ z ∧ ¬ PX P R M tb v B_
theorem Kp.next {A B_ : Nat} {x z : Array Value} {v1 : Value} {w1 : World} (h : Kp P R M tb v w A B_ x z) (m : PM P R M tb v w v1 w1) : Kp P R M tb v1 w1 A B_ x z := ⟨m.has h.1 h.2.1, m.far h.1.1 h.2.1, m.has h.2.2.1 h.2.2.2, m.far h.2.2.1.1 h.2.2.2⟩
theorem start_m (h0 : Bus memC w R M tb v y.m y.acc n) (ok : y.s.r.ok) : ∃ P A B_ w0, P = w.heap.size ∧ A = w.heap.size + 1 ∧ B_ = w.heap.size + 1 + 1 ∧ w0 = ((w.alloc (.cells #[.int .u8 y.s.r.a, .int .u8 y.s.r.f, .int .u8 y.s.r.b, .int .u8 y.s.r.c, .int .u8 y.s.r.d, .int .u8 y.s.r.e, .int .u8 y.s.r.h, .int .u8 y.s.r.l, .int .u16 y.s.r.sp, .int .u16 y.s.r.pc, .bool y.s.ime, .bool y.s.soon, .bool y.s.halt, .bool y.s.stop] 26)).alloc (.cells #[.int .u8 0, .int .u8 0, .int .u8 0, .int .u8 0, .int .u8 0, .int .u8 0, .int .u8 0, .int .u8 0, .int .u16 0, .int .u16 0, .bool false, .bool false, .bool false, .bool false] 26)).alloc (.cells #[.int .i64 0, .int .i64 0, .int .u16 0, .int .i64 0, .int .i64 0, .int .i64 0, .int .i64 0, .int .u16 0, .bool false] 49) ∧ Hid (w.heap.size ≤ P) ∧ Hid (w.heap.size ≤ A) ∧ Hid (w.heap.size ≤ B_) ∧ Hid (¬ A = P ∧ ¬ B_ = P ∧ ¬ A = B_ ∧ ¬ B_ = A ∧ ¬ P = A ∧ ¬ P = B_) ∧ Hid (Sys noD memC w0 P R M tb v y n) ∧ Hid (Below w.heap.size w w0) ∧ Hid (Kp P R M tb v w0 A B_ #[.int .u8 0, .int .u8 0, .int .u8 0, .int .u8 0, .int .u8 0, .int .u8 0, .int .u8 0, .int .u8 0, .int .u16 0, .int .u16 0, .bool false, .bool false, .bool false, .bool false] #[.int .i64 0, .int .i64 0, .int .u16 0, .int .i64 0, .int .i64 0, .int .i64 0, .int .i64 0, .int .u16 0, .bool false]) := by
 have B0 := own3 w (.cells #[.int .u8 y.s.r.a, .int .u8 y.s.r.f, .int .u8 y.s.r.b, .int .u8 y.s.r.c, .int .u8 y.s.r.d, .int .u8 y.s.r.e, .int .u8 y.s.r.h, .int .u8 y.s.r.l, .int .u16 y.s.r.sp, .int .u16 y.s.r.pc, .bool y.s.ime, .bool y.s.soon, .bool y.s.halt, .bool y.s.stop] 26) (.cells #[.int .u8 0, .int .u8 0, .int .u8 0, .int .u8 0, .int .u8 0, .int .u8 0, .int .u8 0, .int .u8 0, .int .u16 0, .int .u16 0, .bool false, .bool false, .bool false, .bool false] 26) (.cells #[.int .i64 0, .int .i64 0, .int .u16 0, .int .i64 0, .int .i64 0, .int .i64 0, .int .i64 0, .int .u16 0, .bool false] 49); have hp0 := ((Has.new w #[.int .u8 y.s.r.a, .int .u8 y.s.r.f, .int .u8 y.s.r.b, .int .u8 y.s.r.c, .int .u8 y.s.r.d, .int .u8 y.s.r.e, .int .u8 y.s.r.h, .int .u8 y.s.r.l, .int .u16 y.s.r.sp, .int .u16 y.s.r.pc, .bool y.s.ime, .bool y.s.soon, .bool y.s.halt, .bool y.s.stop] 26).alloc (.cells #[.int .u8 0, .int .u8 0, .int .u8 0, .int .u8 0, .int .u8 0, .int .u8 0, .int .u8 0, .int .u8 0, .int .u16 0, .int .u16 0, .bool false, .bool false, .bool false, .bool false] 26)).alloc (.cells #[.int .i64 0, .int .i64 0, .int .u16 0, .int .i64 0, .int .i64 0, .int .i64 0, .int .i64 0, .int .u16 0, .bool false] 49)
 have ha0 : Has (((w.alloc (.cells #[.int .u8 y.s.r.a, .int .u8 y.s.r.f, .int .u8 y.s.r.b, .int .u8 y.s.r.c, .int .u8 y.s.r.d, .int .u8 y.s.r.e, .int .u8 y.s.r.h, .int .u8 y.s.r.l, .int .u16 y.s.r.sp, .int .u16 y.s.r.pc, .bool y.s.ime, .bool y.s.soon, .bool y.s.halt, .bool y.s.stop] 26)).alloc (.cells #[.int .u8 0, .int .u8 0, .int .u8 0, .int .u8 0, .int .u8 0, .int .u8 0, .int .u8 0, .int .u8 0, .int .u16 0, .int .u16 0, .bool false, .bool false, .bool false, .bool false] 26)).alloc (.cells #[.int .i64 0, .int .i64 0, .int .u16 0, .int .i64 0, .int .i64 0, .int .i64 0, .int .i64 0, .int .u16 0, .bool false] 49)) (w.heap.size + 1) #[.int .u8 0, .int .u8 0, .int .u8 0, .int .u8 0, .int .u8 0, .int .u8 0, .int .u8 0, .int .u8 0, .int .u16 0, .int .u16 0, .bool false, .bool false, .bool false, .bool false] := by simpa using (Has.new (w.alloc (.cells #[.int .u8 y.s.r.a, .int .u8 y.s.r.f, .int .u8 y.s.r.b, .int .u8 y.s.r.c, .int .u8 y.s.r.d, .int .u8 y.s.r.e, .int .u8 y.s.r.h, .int .u8 y.s.r.l, .int .u16 y.s.r.sp, .int .u16 y.s.r.pc, .bool y.s.ime, .bool y.s.soon, .bool y.s.halt, .bool y.s.stop] 26)) #[.int .u8 0, .int .u8 0, .int .u8 0, .int .u8 0, .int .u8 0, .int .u8 0, .int .u8 0, .int .u8 0, .int .u16 0, .int .u16 0, .bool false, .bool false, .bool false, .bool false] 26).alloc (.cells #[.int .i64 0, .int .i64 0, .int .u16 0, .int .i64 0, .int .i64 0, .int .i64 0, .int .i64 0, .int .u16 0, .bool false] 49)
 have hd0 : Has (((w.alloc (.cells #[.int .u8 y.s.r.a, .int .u8 y.s.r.f, .int .u8 y.s.r.b, .int .u8 y.s.r.c, .int .u8 y.s.r.d, .int .u8 y.s.r.e, .int .u8 y.s.r.h, .int .u8 y.s.r.l, .int .u16 y.s.r.sp, .int .u16 y.s.r.pc, .bool y.s.ime, .bool y.s.soon, .bool y.s.halt, .bool y.s.stop] 26)).alloc (.cells #[.int .u8 0, .int .u8 0, .int .u8 0, .int .u8 0, .int .u8 0, .int .u8 0, .int .u8 0, .int .u8 0, .int .u16 0, .int .u16 0, .bool false, .bool false, .bool false, .bool false] 26)).alloc (.cells #[.int .i64 0, .int .i64 0, .int .u16 0, .int .i64 0, .int .i64 0, .int .i64 0, .int .i64 0, .int .u16 0, .bool false] 49)) (w.heap.size + 1 + 1) #[.int .i64 0, .int .i64 0, .int .u16 0, .int .i64 0, .int .i64 0, .int .i64 0, .int .i64 0, .int .u16 0, .bool false] := by simpa using Has.new ((w.alloc (.cells #[.int .u8 y.s.r.a, .int .u8 y.s.r.f, .int .u8 y.s.r.b, .int .u8 y.s.r.c, .int .u8 y.s.r.d, .int .u8 y.s.r.e, .int .u8 y.s.r.h, .int .u8 y.s.r.l, .int .u16 y.s.r.sp, .int .u16 y.s.r.pc, .bool y.s.ime, .bool y.s.soon, .bool y.s.halt, .bool y.s.stop] 26)).alloc (.cells #[.int .u8 0, .int .u8 0, .int .u8 0, .int .u8 0, .int .u8 0, .int .u8 0, .int .u8 0, .int .u8 0, .int .u16 0, .int .u16 0, .bool false, .bool false, .bool false, .bool false] 26)) #[.int .i64 0, .int .i64 0, .int .u16 0, .int .i64 0, .int .i64 0, .int .i64 0, .int .i64 0, .int .u16 0, .bool false] 49
 have hb0 := h0.below B0
 have nb : ∀ k, w.heap.size ≤ k → ¬ BX R M tb v k := fun k hk hx => by have := h0.lt hx; omega
 have nP : ∀ k, w.heap.size < k → ¬ PX w.heap.size R M tb v k := fun k hk hx => hx.elim (fun e => by omega) (nb k (by omega))
 exact ⟨_, _, _, _, rfl, rfl, rfl, rfl, Hd (by omega), Hd (by omega), Hd (by omega), Hd ⟨by omega, by omega, by omega, by omega, by omega, by omega⟩, Hd ⟨by simpa [St.cells, noD] using hp0, hb0, nb _ (Nat.le_refl _), ok⟩, Hd B0, Hd ⟨ha0, nP _ (by omega), hd0, nP _ (by omega)⟩⟩
theorem Off.s {X : Nat → Prop} {w w1 : World} (h : Off X w w1) {b : Nat} (hx : X b) (o : Nat) (x : Value) : Off X w (w1.setCell ⟨b, o, none⟩ x) := h.trans (Off.setCell w1 b o x hx) (fun _ _ h => h)
theorem off23 {A B_ : Nat} {w : World} {x0 x1 x2 x3 x4 x5 x6 x7 x8 x9 x10 x11 x12 x13 z0 z1 z2 z3 z4 z5 z6 z7 z8 : Value} : Off (fun k => k = A ∨ k = B_) w (World.setCell (World.setCell (World.setCell (World.setCell (World.setCell (World.setCell (World.setCell (World.setCell (World.setCell (World.setCell (World.setCell (World.setCell (World.setCell (World.setCell (World.setCell (World.setCell (World.setCell (World.setCell (World.setCell (World.setCell (World.setCell (World.setCell (World.setCell w ⟨A, 0, none⟩ x0) ⟨A, 1, none⟩ x1) ⟨A, 2, none⟩ x2) ⟨A, 3, none⟩ x3) ⟨A, 4, none⟩ x4) ⟨A, 5, none⟩ x5) ⟨A, 6, none⟩ x6) ⟨A, 7, none⟩ x7) ⟨A, 8, none⟩ x8) ⟨A, 9, none⟩ x9) ⟨A, 10, none⟩ x10) ⟨A, 11, none⟩ x11) ⟨A, 12, none⟩ x12) ⟨A, 13, none⟩ x13) ⟨B_, 0, none⟩ z0) ⟨B_, 1, none⟩ z1) ⟨B_, 2, none⟩ z2) ⟨B_, 3, none⟩ z3) ⟨B_, 4, none⟩ z4) ⟨B_, 5, none⟩ z5) ⟨B_, 6, none⟩ z6) ⟨B_, 7, none⟩ z7) ⟨B_, 8, none⟩ z8) := (((((((((((((((((((((((Off.refl (fun k => k = A ∨ k = B_) w).s (.inl rfl) 0 x0).s (.inl rfl) 1 x1).s (.inl rfl) 2 x2).s (.inl rfl) 3 x3).s (.inl rfl) 4 x4).s (.inl rfl) 5 x5).s (.inl rfl) 6 x6).s (.inl rfl) 7 x7).s (.inl rfl) 8 x8).s (.inl rfl) 9 x9).s (.inl rfl) 10 x10).s (.inl rfl) 11 x11).s (.inl rfl) 12 x12).s (.inl rfl) 13 x13).s (.inr rfl) 0 z0).s (.inr rfl) 1 z1).s (.inr rfl) 2 z2).s (.inr rfl) 3 z3).s (.inr rfl) 4 z4).s (.inr rfl) 5 z5).s (.inr rfl) 6 z6).s (.inr rfl) 7 z7).s (.inr rfl) 8 z8
end
end Go.Proofs.YtngdogldgcgnjaaGreat
namespace Go.Proofs.YtngdogldgcgnjaaGreat
open Go.ChangeShapes Go.WideShapes Go.ChangeAt Go.RowKit
open Reg
set_option linter.unusedVariables false
section
variable {w : World} {P R M tb n : Nat} {v : Value} {y : Sy}
theorem mstep_end {w w0 wc wz : World} {P R M tb n A B_ : Nat} {v v1 : Value} {y1 : Sy} (S : Sys noD memC wc P R M tb v1 y1 n) (M1 : PM P R M tb v w0 v1 wc) (B0 : Below w.heap.size w w0) (LP : w.heap.size ≤ P) (LA : w.heap.size ≤ A) (LB : w.heap.size ≤ B_)
  (NA : ¬ PX P R M tb v1 A) (NB : ¬ PX P R M tb v1 B_) (hO : Off (fun k => k = A ∨ k = B_) wc wz) : y1.s.r.ok ∧ ∃ v', Bus memC wz R M tb v' y1.m y1.acc n ∧ BM R M tb v w v' wz := by
 refine ⟨S.ok, v1, S.bus.keep hO (fun k hk e => e.elim (fun e => NA (e ▸ Or.inr hk)) (fun e => NB (e ▸ Or.inr hk))), ?_, fun k hk => (M1.2 k hk).imp id (fun h => Nat.le_trans B0.size h)⟩
 exact ((Off.of (BX R M tb v) B0).trans M1.1 (fun b hb hx => hx.elim (fun e => absurd LP (by omega)) id)).trans hO (fun b hb hx => hx.elim (fun e => absurd LA (by omega)) (fun e => absurd LB (by omega)))
def ME (R M tb : Nat) (v : Value) (w : World) (y : Sy) (d : DidV) (n : Nat) (e : Ending) (w' : World) : Prop :=
 e = .returned (.tuple #[.agg y.s.cells, .agg (didC d)]) ∧ y.s.r.ok ∧ ∃ v', Bus memC w' R M tb v' y.m y.acc n ∧ BM R M tb v w v' w'
theorem mstep_s1 (h0 : Bus memC w R M tb v y.m y.acc n) (hn : n < 500000) (ok : y.s.r.ok) (hst : y.s.stop = true) (g : pend y.m / 16 % 2 = 1) : Calls Tryz.prog 15 #[.agg #[.int .u8 y.s.r.a, .int .u8 y.s.r.f, .int .u8 y.s.r.b, .int .u8 y.s.r.c, .int .u8 y.s.r.d, .int .u8 y.s.r.e, .int .u8 y.s.r.h, .int .u8 y.s.r.l, .int .u16 y.s.r.sp, .int .u16 y.s.r.pc, .bool y.s.ime, .bool y.s.soon, .bool y.s.halt, .bool y.s.stop], .pointer (some ⟨R, 0, none⟩)] w (ME R M tb v w (setStop false (idle y)) (⟨0, 0, y.s.r.pc, noOp, false⟩) (n + 12)) := by
 have pb := pend_bd y.m h0.okm; have PB := Hd pb; clear pb; have HST := Hd hst; clear hst; obtain ⟨P, A, B_, w0, hP, hA, hB, hw, LP, LA, LB, H1_, S0, B0, KP⟩ := start_m h0 ok; clear h0; go_enter Tryz.func15, Tryz.ntmps15; go_upto_region 1 with (fail); rw [← hw, ← hB, ← hA, ← hP]; clear hP hA hB hw; have M0 := Hd (PM.refl P R M tb v w0); obtain ⟨hc, hf⟩ := S0.out.cm; have hst := HST.out; go_upto_region 3 with (fail); clear hst; go_wp2_with fail
 with_reducible refine (midle_p S0.out (by omega)).mono ?_
 rintro e w1 ⟨rfl, v1, s', m'⟩; replace KP := Hd (KP.out.next m'); have M1 := M0.tr m'; clear hc hf; obtain ⟨y1, Y1, S1, hc, hf⟩ := sx (idle y) s'; clear s' m'
 have zm : y1.m = y.m := by rw [Y1.out]; rfl
 have g' := g; rw [← zm] at g'; have pb := PB.out; rw [← zm] at pb; generalize hp_ : pend y1.m = p at g' pb; have CP := Hd (mpend_p S1.out); rw [hp_] at CP; obtain ⟨p0, p1⟩ := pb; clear hp_ zm g; go_wp2_with fail
 with_reducible refine (CP.out).mono ?_
 rintro e w2 ⟨rfl, v2, s', m'⟩; replace KP := Hd (KP.out.next m'); have M2 := M1.tr m'; clear hc hf; obtain ⟨hc, hf⟩ := s'.cm; have S2 := Hd s'; clear s' m'; go_upto_region 5 with (fail); go_upto_region 6 with (fail); have q := S2.out.stStop false; have s' := q.1; have m' := q.2; clear q; generalize (World.setCell w2 ⟨P, 13, none⟩ (.bool false)) = w3 at s' m' ⊢; replace KP := Hd (KP.out.next m'); have M3 := M2.tr m'; clear hc hf; obtain ⟨y3, Y3, S3, hc, hf⟩ := sx (setStop false y1) s'; clear s' m'
 have zp : y3.s.r.pc = y.s.r.pc := by rw [Y3.out, Y1.out]; rfl
 clear zp; have SM := Hd (S3.out.mono (n' := n + 12) (by omega))
 have yf : y3 = setStop false (idle y) := by rw [Y3.out, Y1.out]
 have YF := Hd yf; clear yf; obtain ⟨nAP, nBP, nAB, nBA, nPA, nPB⟩ := H1_.out; obtain ⟨⟨_, ca, fa⟩, NA, ⟨_, cd, fd⟩, ND⟩ := KP.out; go_wp2
 refine bodyPost_ret (v := .tuple #[.agg y3.s.cells, .agg (didC ⟨0, 0, y.s.r.pc, ⟨0, 0, 0, 0, 0⟩, false⟩)]) ?_ rfl ⟨?_, ?_⟩
 ·simp [results, Tryz.results15, go_sem, St.cells, didC, ca, cd]
 ·rw [← YF.out]
  rfl
 ·rw [← YF.out]
  exact mstep_end SM.out M3.out B0.out LP.out LA.out LB.out NA ND off23
theorem mstep_s2 (h0 : Bus memC w R M tb v y.m y.acc n) (hn : n < 500000) (ok : y.s.r.ok) (hst : y.s.stop = true) (g : ¬ pend y.m / 16 % 2 = 1) : Calls Tryz.prog 15 #[.agg #[.int .u8 y.s.r.a, .int .u8 y.s.r.f, .int .u8 y.s.r.b, .int .u8 y.s.r.c, .int .u8 y.s.r.d, .int .u8 y.s.r.e, .int .u8 y.s.r.h, .int .u8 y.s.r.l, .int .u16 y.s.r.sp, .int .u16 y.s.r.pc, .bool y.s.ime, .bool y.s.soon, .bool y.s.halt, .bool y.s.stop], .pointer (some ⟨R, 0, none⟩)] w (ME R M tb v w (idle y) (⟨0, 0, y.s.r.pc, noOp, false⟩) (n + 12)) := by
 have pb := pend_bd y.m h0.okm; have PB := Hd pb; clear pb; have HST := Hd hst; clear hst; obtain ⟨P, A, B_, w0, hP, hA, hB, hw, LP, LA, LB, H1_, S0, B0, KP⟩ := start_m h0 ok; clear h0; go_enter Tryz.func15, Tryz.ntmps15; go_upto_region 1 with (fail); rw [← hw, ← hB, ← hA, ← hP]; clear hP hA hB hw; have M0 := Hd (PM.refl P R M tb v w0); obtain ⟨hc, hf⟩ := S0.out.cm; have hst := HST.out; go_upto_region 3 with (fail); clear hst; go_wp2_with fail
 with_reducible refine (midle_p S0.out (by omega)).mono ?_
 rintro e w1 ⟨rfl, v1, s', m'⟩; replace KP := Hd (KP.out.next m'); have M1 := M0.tr m'; clear hc hf; obtain ⟨y1, Y1, S1, hc, hf⟩ := sx (idle y) s'; clear s' m'
 have zm : y1.m = y.m := by rw [Y1.out]; rfl
 have g' := g; rw [← zm] at g'; have pb := PB.out; rw [← zm] at pb; generalize hp_ : pend y1.m = p at g' pb; have CP := Hd (mpend_p S1.out); rw [hp_] at CP; obtain ⟨p0, p1⟩ := pb; clear hp_ zm g; go_wp2_with fail
 with_reducible refine (CP.out).mono ?_
 rintro e w2 ⟨rfl, v2, s', m'⟩; replace KP := Hd (KP.out.next m'); have M2 := M1.tr m'; clear hc hf; obtain ⟨hc, hf⟩ := s'.cm; have S2 := Hd s'; clear s' m'; go_upto_region 6 with (fail)
 have zp : y1.s.r.pc = y.s.r.pc := by rw [Y1.out]; rfl
 clear zp; have SM := Hd (S2.out.mono (n' := n + 12) (by omega))
 have yf : y1 = idle y := by exact Y1.out
 have YF := Hd yf; clear yf; obtain ⟨nAP, nBP, nAB, nBA, nPA, nPB⟩ := H1_.out; obtain ⟨⟨_, ca, fa⟩, NA, ⟨_, cd, fd⟩, ND⟩ := KP.out; go_wp2
 refine bodyPost_ret (v := .tuple #[.agg y1.s.cells, .agg (didC ⟨0, 0, y.s.r.pc, ⟨0, 0, 0, 0, 0⟩, false⟩)]) ?_ rfl ⟨?_, ?_⟩
 ·simp [results, Tryz.results15, go_sem, St.cells, didC, ca, cd]
 ·rw [← YF.out]
  rfl
 ·rw [← YF.out]
  exact mstep_end SM.out M2.out B0.out LP.out LA.out LB.out NA ND off23
theorem mstep_h (h0 : Bus memC w R M tb v y.m y.acc n) (hn : n < 500000) (ok : y.s.r.ok) (hst : y.s.stop = false) (hht : y.s.halt = true) (hp : pend y.m = 0) : Calls Tryz.prog 15 #[.agg #[.int .u8 y.s.r.a, .int .u8 y.s.r.f, .int .u8 y.s.r.b, .int .u8 y.s.r.c, .int .u8 y.s.r.d, .int .u8 y.s.r.e, .int .u8 y.s.r.h, .int .u8 y.s.r.l, .int .u16 y.s.r.sp, .int .u16 y.s.r.pc, .bool y.s.ime, .bool y.s.soon, .bool y.s.halt, .bool y.s.stop], .pointer (some ⟨R, 0, none⟩)] w (ME R M tb v w (idle y) (⟨0, 0, y.s.r.pc, noOp, false⟩) (n + 12)) := by
 have HST := Hd hst; have HHT := Hd hht; clear hst hht; obtain ⟨P, A, B_, w0, hP, hA, hB, hw, LP, LA, LB, H1_, S0, B0, KP⟩ := start_m h0 ok; clear h0; go_enter Tryz.func15, Tryz.ntmps15; go_upto_region 1 with (fail); rw [← hw, ← hB, ← hA, ← hP]; clear hP hA hB hw; have M0 := Hd (PM.refl P R M tb v w0); obtain ⟨hc, hf⟩ := S0.out.cm; have hst := HST.out; have CP := Hd (mpend_p S0.out); rw [hp] at CP; go_upto_region 7 with (fail); clear hst; go_wp2_with fail
 with_reducible refine (CP.out).mono ?_
 rintro e w1 ⟨rfl, v1, s', m'⟩; replace KP := Hd (KP.out.next m'); have M1 := M0.tr m'; clear hc hf; obtain ⟨hc, hf⟩ := s'.cm; have S1 := Hd s'; clear s' m'; have hht := HHT.out; go_upto_region 9 with (fail); clear hht; go_wp2_with fail
 with_reducible refine (midle_p S1.out (by omega)).mono ?_
 rintro e w2 ⟨rfl, v2, s', m'⟩; replace KP := Hd (KP.out.next m'); have M2 := M1.tr m'; clear hc hf; obtain ⟨y2, Y2, S2, hc, hf⟩ := sx (idle y) s'; clear s' m'; go_upto_region 10 with (fail); have SM := Hd (S2.out.mono (n' := n + 12) (by omega)); have YF := Hd Y2.out; obtain ⟨nAP, nBP, nAB, nBA, nPA, nPB⟩ := H1_.out; obtain ⟨⟨_, ca, fa⟩, NA, ⟨_, cd, fd⟩, ND⟩ := KP.out; go_wp2
 refine bodyPost_ret (v := .tuple #[.agg y2.s.cells, .agg (didC ⟨0, 0, y.s.r.pc, ⟨0, 0, 0, 0, 0⟩, false⟩)]) ?_ rfl ⟨?_, ?_⟩
 ·simp [results, Tryz.results15, go_sem, St.cells, didC, ca, cd]
 ·rw [← YF.out]
  rfl
 ·rw [← YF.out]
  exact mstep_end SM.out M2.out B0.out LP.out LA.out LB.out NA ND off23
end
end Go.Proofs.YtngdogldgcgnjaaGreat
namespace Go.Proofs.YtngdogldgcgnjaaGreat
open Go.ChangeShapes Go.WideShapes Go.ChangeAt Go.RowKit
open Reg
set_option linter.unusedVariables false
section
variable {w : World} {P R M tb n : Nat} {v : Value} {y : Sy}
def Kp1 (P R M tb : Nat) (v : Value) (w : World) (b : Nat) (x : Array Value) : Prop := Has w b x ∧ ¬ PX P R M tb v b
theorem Kp1.next {b : Nat} {x : Array Value} {v1 : Value} {w1 : World} (h : Kp1 P R M tb v w b x) (m : PM P R M tb v w v1 w1) : Kp1 P R M tb v1 w1 b x := ⟨m.has h.1 h.2, m.far h.1.1 h.2⟩
theorem Kp1.off {X : Nat → Prop} {b : Nat} {x : Array Value} {w1 : World} (h : Kp1 P R M tb v w b x) (o : Off X w w1) (n : ¬ X b) : Kp1 P R M tb v w1 b x := ⟨h.1.off o n, h.2⟩
theorem Kp.off {X : Nat → Prop} {A B_ : Nat} {x z : Array Value} {w1 : World} (h : Kp P R M tb v w A B_ x z) (o : Off X w w1) (n : ¬ X A) (m : ¬ X B_) : Kp P R M tb v w1 A B_ x z := ⟨h.1.off o n, h.2.1, h.2.2.1.off o m, h.2.2.2⟩
theorem sz_ok : ∀ n : Fin 256, (pfT n.val).s = (2 : Int) := by decide +kernel
theorem dec_sm (a b c : Nat) (hb : b < 256) : (decF a b c).s = (decF a 0 0).s := by
 have h1 := sz_ok ⟨b, hb⟩
 have h2 := sz_ok ⟨0, by decide⟩
 unfold decF
 by_cases h : a = 203
 ·rw [if_pos h, if_pos h]
  exact h1.trans h2.symm
 ·rw [if_neg h, if_neg h]
  generalize plT a = t
  unfold decN
  by_cases e2 : t.s = 2
  ·rw [if_pos e2, if_pos e2]
  ·rw [if_neg e2, if_neg e2]
   by_cases e3 : t.s = 3
   ·rw [if_pos e3, if_pos e3]
   ·rw [if_neg e3, if_neg e3]
def mrun (k : Nat) (o : OpV) (t : Bool) (y : Sy) : Sy := if (y.s.soon && o.k != 5) = true then setIme true (doneS o t (fetchN k (setSoon false (setHalt false y)))) else doneS o t (fetchN k (setSoon false (setHalt false y)))
theorem mrun_f {y : Sy} (k : Nat) (o : OpV) (t : Bool) (h : y.s.soon = false) : mrun k o t y = doneS o t (fetchN k (setSoon false (setHalt false y))) := by
 unfold mrun
 rw [h]
 rfl
theorem mrun_5 {y : Sy} (k : Nat) (o : OpV) (t : Bool) (h : y.s.soon = true) (h5 : o.k = 5) : mrun k o t y = doneS o t (fetchN k (setSoon false (setHalt false y))) := by
 unfold mrun
 rw [h, h5]
 rfl
theorem mrun_t {y : Sy} (k : Nat) (o : OpV) (t : Bool) (h : y.s.soon = true) (h5 : ¬ o.k = 5) : mrun k o t y = setIme true (doneS o t (fetchN k (setSoon false (setHalt false y)))) := by
 unfold mrun
 rw [h, bne, beq_eq_false_iff_ne.mpr h5]
 rfl
end
end Go.Proofs.YtngdogldgcgnjaaGreat
