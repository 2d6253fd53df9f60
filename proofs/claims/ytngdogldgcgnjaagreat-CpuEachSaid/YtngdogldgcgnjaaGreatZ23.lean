/-
  What Step does: for every world; the bus and the table are there.
  (Some texts in one.)
-/
import Derived.Test.YtngdogldgcgnjaaGreatZ22
import Derived.Laws.MakeOwn
set_option maxRecDepth 100000
set_option maxHeartbeats 8000000
namespace Go.Proofs.YtngdogldgcgnjaaGreat
open Go.ChangeShapes Go.WideShapes Go.ChangeAt Go.RowKit
open Reg
set_option linter.unusedVariables false
section
variable {w : World} {R M tb n : Nat} {v : Value} {m : Int → Int} {acc : List Ac}
theorem nilI (x : Value) (w : World) : (binOp .eql 83 (.iface 31 x) .nilIface).run Tryz.prog w = .ok (.bool false) w := rfl
theorem Off.s {X : Nat → Prop} {w w' : World} (h : Off X w w') {b : Nat} (hx : X b) (o : Nat) (x : Value) : Off X w (w'.setCell ⟨b, o, none⟩ x) := h.trans (Off.setCell w' b o x hx) (fun _ _ h => h)
theorem stepD_at (y : Sy) : (stepD y).at' = y.s.r.pc := by
 unfold stepD
 repeat (first | rfl | split)
def SE (R M tb : Nat) (v : Value) (w : World) (y : Sy) (n : Nat) (e : Ending) (w' : World) : Prop :=
 e = .returned (.tuple #[.agg (stepS y).s.cells, .agg (didC (stepD y))]) ∧ (stepS y).s.r.ok ∧ ∃ v', Bus ramC w' R M tb v' (stepS y).m (stepS y).acc n ∧ BM R M tb v w v' w'
theorem Step_t (h : Bus ramC w R M tb v m acc n) (hn : n < 500000) (s : St) (ok : s.r.ok) : Calls Tryz.prog 14 #[.pointer (some ⟨tb, 0, none⟩), .agg #[.int .u8 s.r.a, .int .u8 s.r.f, .int .u8 s.r.b, .int .u8 s.r.c, .int .u8 s.r.d, .int .u8 s.r.e, .int .u8 s.r.h, .int .u8 s.r.l, .int .u16 s.r.sp, .int .u16 s.r.pc, .bool s.ime, .bool s.soon, .bool s.halt, .bool s.stop], .iface 31 (.pointer (some ⟨R, 0, none⟩))] w (SE R M tb v w ⟨s, m, acc⟩ (n + 12)) := by
 have hq := nilI (.pointer (some ⟨R, 0, none⟩)); have hb := own4 w (.cells #[.int .u8 s.r.a, .int .u8 s.r.f, .int .u8 s.r.b, .int .u8 s.r.c, .int .u8 s.r.d, .int .u8 s.r.e, .int .u8 s.r.h, .int .u8 s.r.l, .int .u16 s.r.sp, .int .u16 s.r.pc, .bool s.ime, .bool s.soon, .bool s.halt, .bool s.stop] 41) (.cells #[.int .u8 0, .int .u8 0, .int .u8 0, .int .u8 0, .int .u8 0, .int .u8 0, .int .u8 0, .int .u8 0, .int .u16 0, .int .u16 0, .bool false, .bool false, .bool false, .bool false] 41) (.cells #[.int .i64 0, .int .i64 0, .int .u16 0, .int .i64 0, .int .i64 0, .int .i64 0, .int .i64 0, .int .u16 0, .bool false] 46) (.cells #[.int .u8 s.r.a, .int .u8 s.r.f, .int .u8 s.r.b, .int .u8 s.r.c, .int .u8 s.r.d, .int .u8 s.r.e, .int .u8 s.r.h, .int .u8 s.r.l, .int .u16 s.r.sp, .int .u16 s.r.pc, .bool s.ime, .bool s.soon, .bool s.halt, .bool s.stop, .iface 31 (.pointer (some ⟨R, 0, none⟩))] 85); have h1 := (((Has.new (w.alloc (.cells #[.int .u8 s.r.a, .int .u8 s.r.f, .int .u8 s.r.b, .int .u8 s.r.c, .int .u8 s.r.d, .int .u8 s.r.e, .int .u8 s.r.h, .int .u8 s.r.l, .int .u16 s.r.sp, .int .u16 s.r.pc, .bool s.ime, .bool s.soon, .bool s.halt, .bool s.stop] 41)) #[.int .u8 0, .int .u8 0, .int .u8 0, .int .u8 0, .int .u8 0, .int .u8 0, .int .u8 0, .int .u8 0, .int .u16 0, .int .u16 0, .bool false, .bool false, .bool false, .bool false] 41).alloc (.cells #[.int .i64 0, .int .i64 0, .int .u16 0, .int .i64 0, .int .i64 0, .int .i64 0, .int .i64 0, .int .u16 0, .bool false] 46)).alloc (.cells #[.int .u8 s.r.a, .int .u8 s.r.f, .int .u8 s.r.b, .int .u8 s.r.c, .int .u8 s.r.d, .int .u8 s.r.e, .int .u8 s.r.h, .int .u8 s.r.l, .int .u16 s.r.sp, .int .u16 s.r.pc, .bool s.ime, .bool s.soon, .bool s.halt, .bool s.stop, .iface 31 (.pointer (some ⟨R, 0, none⟩))] 85))
 have h2 := ((Has.new ((w.alloc (.cells #[.int .u8 s.r.a, .int .u8 s.r.f, .int .u8 s.r.b, .int .u8 s.r.c, .int .u8 s.r.d, .int .u8 s.r.e, .int .u8 s.r.h, .int .u8 s.r.l, .int .u16 s.r.sp, .int .u16 s.r.pc, .bool s.ime, .bool s.soon, .bool s.halt, .bool s.stop] 41)).alloc (.cells #[.int .u8 0, .int .u8 0, .int .u8 0, .int .u8 0, .int .u8 0, .int .u8 0, .int .u8 0, .int .u8 0, .int .u16 0, .int .u16 0, .bool false, .bool false, .bool false, .bool false] 41)) #[.int .i64 0, .int .i64 0, .int .u16 0, .int .i64 0, .int .i64 0, .int .i64 0, .int .i64 0, .int .u16 0, .bool false] 46).alloc (.cells #[.int .u8 s.r.a, .int .u8 s.r.f, .int .u8 s.r.b, .int .u8 s.r.c, .int .u8 s.r.d, .int .u8 s.r.e, .int .u8 s.r.h, .int .u8 s.r.l, .int .u16 s.r.sp, .int .u16 s.r.pc, .bool s.ime, .bool s.soon, .bool s.halt, .bool s.stop, .iface 31 (.pointer (some ⟨R, 0, none⟩))] 85)); have h3 := Has.new (((w.alloc (.cells #[.int .u8 s.r.a, .int .u8 s.r.f, .int .u8 s.r.b, .int .u8 s.r.c, .int .u8 s.r.d, .int .u8 s.r.e, .int .u8 s.r.h, .int .u8 s.r.l, .int .u16 s.r.sp, .int .u16 s.r.pc, .bool s.ime, .bool s.soon, .bool s.halt, .bool s.stop] 41)).alloc (.cells #[.int .u8 0, .int .u8 0, .int .u8 0, .int .u8 0, .int .u8 0, .int .u8 0, .int .u8 0, .int .u8 0, .int .u16 0, .int .u16 0, .bool false, .bool false, .bool false, .bool false] 41)).alloc (.cells #[.int .i64 0, .int .i64 0, .int .u16 0, .int .i64 0, .int .i64 0, .int .i64 0, .int .i64 0, .int .u16 0, .bool false] 46)) #[.int .u8 s.r.a, .int .u8 s.r.f, .int .u8 s.r.b, .int .u8 s.r.c, .int .u8 s.r.d, .int .u8 s.r.e, .int .u8 s.r.h, .int .u8 s.r.l, .int .u16 s.r.sp, .int .u16 s.r.pc, .bool s.ime, .bool s.soon, .bool s.halt, .bool s.stop, .iface 31 (.pointer (some ⟨R, 0, none⟩))] 85
 have e1 : (w.alloc (.cells #[.int .u8 s.r.a, .int .u8 s.r.f, .int .u8 s.r.b, .int .u8 s.r.c, .int .u8 s.r.d, .int .u8 s.r.e, .int .u8 s.r.h, .int .u8 s.r.l, .int .u16 s.r.sp, .int .u16 s.r.pc, .bool s.ime, .bool s.soon, .bool s.halt, .bool s.stop] 41)).heap.size = w.heap.size + 1 := by simp
 have e2 : ((w.alloc (.cells #[.int .u8 s.r.a, .int .u8 s.r.f, .int .u8 s.r.b, .int .u8 s.r.c, .int .u8 s.r.d, .int .u8 s.r.e, .int .u8 s.r.h, .int .u8 s.r.l, .int .u16 s.r.sp, .int .u16 s.r.pc, .bool s.ime, .bool s.soon, .bool s.halt, .bool s.stop] 41)).alloc (.cells #[.int .u8 0, .int .u8 0, .int .u8 0, .int .u8 0, .int .u8 0, .int .u8 0, .int .u8 0, .int .u8 0, .int .u16 0, .int .u16 0, .bool false, .bool false, .bool false, .bool false] 41)).heap.size = w.heap.size + 1 + 1 := by simp
 have e3 : (((w.alloc (.cells #[.int .u8 s.r.a, .int .u8 s.r.f, .int .u8 s.r.b, .int .u8 s.r.c, .int .u8 s.r.d, .int .u8 s.r.e, .int .u8 s.r.h, .int .u8 s.r.l, .int .u16 s.r.sp, .int .u16 s.r.pc, .bool s.ime, .bool s.soon, .bool s.halt, .bool s.stop] 41)).alloc (.cells #[.int .u8 0, .int .u8 0, .int .u8 0, .int .u8 0, .int .u8 0, .int .u8 0, .int .u8 0, .int .u8 0, .int .u16 0, .int .u16 0, .bool false, .bool false, .bool false, .bool false] 41)).alloc (.cells #[.int .i64 0, .int .i64 0, .int .u16 0, .int .i64 0, .int .i64 0, .int .i64 0, .int .i64 0, .int .u16 0, .bool false] 46)).heap.size = w.heap.size + 1 + 1 + 1 := by simp
 rw [e1] at h1; rw [e2] at h2; rw [e3] at h3
 have S0 := Lib.hid (show Sys procD ramC ((((w.alloc (.cells #[.int .u8 s.r.a, .int .u8 s.r.f, .int .u8 s.r.b, .int .u8 s.r.c, .int .u8 s.r.d, .int .u8 s.r.e, .int .u8 s.r.h, .int .u8 s.r.l, .int .u16 s.r.sp, .int .u16 s.r.pc, .bool s.ime, .bool s.soon, .bool s.halt, .bool s.stop] 41)).alloc (.cells #[.int .u8 0, .int .u8 0, .int .u8 0, .int .u8 0, .int .u8 0, .int .u8 0, .int .u8 0, .int .u8 0, .int .u16 0, .int .u16 0, .bool false, .bool false, .bool false, .bool false] 41)).alloc (.cells #[.int .i64 0, .int .i64 0, .int .u16 0, .int .i64 0, .int .i64 0, .int .i64 0, .int .i64 0, .int .u16 0, .bool false] 46)).alloc (.cells #[.int .u8 s.r.a, .int .u8 s.r.f, .int .u8 s.r.b, .int .u8 s.r.c, .int .u8 s.r.d, .int .u8 s.r.e, .int .u8 s.r.h, .int .u8 s.r.l, .int .u16 s.r.sp, .int .u16 s.r.pc, .bool s.ime, .bool s.soon, .bool s.halt, .bool s.stop, .iface 31 (.pointer (some ⟨R, 0, none⟩))] 85)) (w.heap.size + 1 + 1 + 1) R M tb v ⟨s, m, acc⟩ n from ⟨h3, h.below hb, fun hx => by have := h.lt hx; omega, ok⟩)
 have H1 := Lib.hid h1; have H2 := Lib.hid h2; have B0 := Lib.hid hb
 have NB : ∀ k, w.heap.size ≤ k → ¬ BX R M tb v k := fun k hk hx => by have := h.lt hx; omega
 have NB' := Lib.hid NB; clear h1 h2 h3 hb e1 e2 e3 h NB; go_enter Tryz.func14, Tryz.ntmps14; go_wp2_with fail; generalize ((((w.alloc (.cells #[.int .u8 s.r.a, .int .u8 s.r.f, .int .u8 s.r.b, .int .u8 s.r.c, .int .u8 s.r.d, .int .u8 s.r.e, .int .u8 s.r.h, .int .u8 s.r.l, .int .u16 s.r.sp, .int .u16 s.r.pc, .bool s.ime, .bool s.soon, .bool s.halt, .bool s.stop] 41)).alloc (.cells #[.int .u8 0, .int .u8 0, .int .u8 0, .int .u8 0, .int .u8 0, .int .u8 0, .int .u8 0, .int .u8 0, .int .u16 0, .int .u16 0, .bool false, .bool false, .bool false, .bool false] 41)).alloc (.cells #[.int .i64 0, .int .i64 0, .int .u16 0, .int .i64 0, .int .i64 0, .int .i64 0, .int .i64 0, .int .u16 0, .bool false] 46)).alloc (.cells #[.int .u8 s.r.a, .int .u8 s.r.f, .int .u8 s.r.b, .int .u8 s.r.c, .int .u8 s.r.d, .int .u8 s.r.e, .int .u8 s.r.h, .int .u8 s.r.l, .int .u16 s.r.sp, .int .u16 s.r.pc, .bool s.ime, .bool s.soon, .bool s.halt, .bool s.stop, .iface 31 (.pointer (some ⟨R, 0, none⟩))] 85)) = w0 at S0 H1 H2 B0 ⊢; obtain ⟨P, hP⟩ : ∃ q, q = w.heap.size + 1 + 1 + 1 := ⟨_, rfl⟩; obtain ⟨r2, hr2⟩ : ∃ q, q = w.heap.size + 1 + 1 := ⟨_, rfl⟩; obtain ⟨r1, hr1⟩ : ∃ q, q = w.heap.size + 1 := ⟨_, rfl⟩
 have L1 := Lib.hid (show w.heap.size ≤ r1 by omega)
 have L2 := Lib.hid (show w.heap.size ≤ r2 by omega)
 have LP := Lib.hid (show w.heap.size ≤ P by omega)
 have n12 : r1 ≠ r2 := by omega
 have n1P : r1 ≠ P := by omega
 have n2P : r2 ≠ P := by omega
 rw [← hP] at S0 ⊢; rw [← hr2] at H2 ⊢; rw [← hr1] at H1 ⊢; clear hP hr2 hr1
 have nx1 : ¬ PX P R M tb v r1 := fun hx => hx.elim n1P (NB'.out r1 L1.out)
 have nx2 : ¬ PX P R M tb v r2 := fun hx => hx.elim n2P (NB'.out r2 L2.out)
 with_reducible refine (step_p S0.out (by omega)).mono ?_
 rintro e w1 ⟨rfl, v1, s', m'⟩; have H1' := Lib.hid (m'.has H1.out nx1); have H2' := Lib.hid (m'.has H2.out nx2); have mx1 := m'.far H1.out.1 nx1; have mx2 := m'.far H2.out.1 nx2
 have BMM := Lib.hid (show BM R M tb v w v1 w1 from ⟨(Off.of _ B0.out).trans m'.1 (fun b hb hx => hx.elim (fun e => absurd LP.out (by omega)) id), fun k hk => (m'.2 k hk).imp id (fun h => Nat.le_trans B0.out.size h)⟩)
 obtain ⟨y1, hy⟩ : ∃ q_, q_ = stepS ⟨s, m, acc⟩ := ⟨_, rfl⟩; obtain ⟨D, hD⟩ : ∃ q_, q_ = stepD0 ⟨s, m, acc⟩ := ⟨_, rfl⟩; rw [← hD]; rw [← hy] at s'; have Y1 := Lib.hid hy; have D1 := Lib.hid hD
 have w1n : ¬ r1 = w1.heap.size := by have := H1'.out.1; omega
 have w2n : ¬ r2 = w1.heap.size := by have := H2'.out.1; omega
 have wPn : ¬ P = w1.heap.size := by have := s'.reg.1; omega
 unfold didC
 have S1 := Lib.hid s'; have hok := s'.ok; clear s' m' hy hD S0 H1 H2 hq; go_wp2; have S2 := Lib.hid (S1.out.below (own1 w1 (.cells #[.int .i64 D.what, .int .i64 D.n, .int .u16 s.r.pc, .int .i64 D.o.k, .int .i64 D.o.x, .int .i64 D.o.y, .int .i64 D.o.s, .int .u16 D.o.n, .bool D.t] 46))); have H12 := (H1'.out.alloc (.cells #[.int .i64 D.what, .int .i64 D.n, .int .u16 s.r.pc, .int .i64 D.o.k, .int .i64 D.o.x, .int .i64 D.o.y, .int .i64 D.o.s, .int .u16 D.o.n, .bool D.t] 46)); have H22 := (H2'.out.alloc (.cells #[.int .i64 D.what, .int .i64 D.n, .int .u16 s.r.pc, .int .i64 D.o.k, .int .i64 D.o.x, .int .i64 D.o.y, .int .i64 D.o.s, .int .u16 D.o.n, .bool D.t] 46)); have HD2 := Has.new w1 #[.int .i64 D.what, .int .i64 D.n, .int .u16 s.r.pc, .int .i64 D.o.k, .int .i64 D.o.x, .int .i64 D.o.y, .int .i64 D.o.s, .int .u16 D.o.n, .bool D.t] 46; have B2 := Lib.hid (BMM.out.trans (BM.of (own1 w1 (.cells #[.int .i64 D.what, .int .i64 D.n, .int .u16 s.r.pc, .int .i64 D.o.k, .int .i64 D.o.x, .int .i64 D.o.y, .int .i64 D.o.s, .int .u16 D.o.n, .bool D.t] 46)))); obtain ⟨hc, hf⟩ := S2.out.cp; have hc1 := H12.2.1; have hf1 := H12.2.2; have hc2 := H22.2.1; have hf2 := H22.2.2; have hd := HD2.2.1; generalize w1.alloc (.cells #[.int .i64 D.what, .int .i64 D.n, .int .u16 s.r.pc, .int .i64 D.o.k, .int .i64 D.o.x, .int .i64 D.o.y, .int .i64 D.o.s, .int .u16 D.o.n, .bool D.t] 46) = W2 at S2 hc hf hc1 hf1 hc2 hf2 hd B2 H12 H22 HD2 ⊢; clear H12 H22 HD2; generalize w1.heap.size = db at hd w1n w2n wPn ⊢
 go_region
 all_goals
  go_wp2
  refine bodyPost_ret (v := .tuple #[.agg y1.s.cells, .agg (didC ⟨D.what, D.n, s.r.pc, ⟨D.o.k, D.o.x, D.o.y, D.o.s, D.o.n⟩, D.t⟩)]) (by simp [results, Tryz.results14, go_sem, St.cells, didC, hc1, hc2]) rfl ⟨?_, ?_, v1, ?_, ?_⟩
  ·have q : didC (stepD ⟨s, m, acc⟩) = #[.int .i64 D.what, .int .i64 D.n, .int .u16 s.r.pc, .int .i64 D.o.k, .int .i64 D.o.x, .int .i64 D.o.y, .int .i64 D.o.s, .int .u16 D.o.n, .bool D.t] := by
    rw [D1.out]
    unfold didC stepD0
    rw [stepD_at]
   rw [q, ← Y1.out]
   rfl
  ·rw [← Y1.out]
   exact hok
  ·rw [← Y1.out]
   exact S2.out.bus.keep (X := fun k => k = r1 ∨ k = r2) ((((((((((((((((((((((((Off.refl (fun k => k = r1 ∨ k = r2) W2).s (.inl rfl) 0 _).s (.inl rfl) 1 _).s (.inl rfl) 2 _).s (.inl rfl) 3 _).s (.inl rfl) 4 _).s (.inl rfl) 5 _).s (.inl rfl) 6 _).s (.inl rfl) 7 _).s (.inl rfl) 8 _).s (.inl rfl) 9 _).s (.inl rfl) 10 _).s (.inl rfl) 11 _).s (.inl rfl) 12 _).s (.inl rfl) 13 _).s (.inr rfl) 0 _).s (.inr rfl) 1 _).s (.inr rfl) 2 _).s (.inr rfl) 3 _).s (.inr rfl) 4 _).s (.inr rfl) 5 _).s (.inr rfl) 6 _).s (.inr rfl) 7 _).s (.inr rfl) 8 _).drew (fun k hk e => e.elim (fun e => mx1 (by rw [← e]; exact .inr hk)) (fun e => mx2 (by rw [← e]; exact .inr hk)))
  ·exact ⟨B2.out.1.trans (Y := fun k => k = r1 ∨ k = r2) ((((((((((((((((((((((((Off.refl (fun k => k = r1 ∨ k = r2) W2).s (.inl rfl) 0 _).s (.inl rfl) 1 _).s (.inl rfl) 2 _).s (.inl rfl) 3 _).s (.inl rfl) 4 _).s (.inl rfl) 5 _).s (.inl rfl) 6 _).s (.inl rfl) 7 _).s (.inl rfl) 8 _).s (.inl rfl) 9 _).s (.inl rfl) 10 _).s (.inl rfl) 11 _).s (.inl rfl) 12 _).s (.inl rfl) 13 _).s (.inr rfl) 0 _).s (.inr rfl) 1 _).s (.inr rfl) 2 _).s (.inr rfl) 3 _).s (.inr rfl) 4 _).s (.inr rfl) 5 _).s (.inr rfl) 6 _).s (.inr rfl) 7 _).s (.inr rfl) 8 _).drew (fun b hb e => by have := L1.out; have := L2.out; have e' : b = r1 ∨ b = r2 := e; omega), B2.out.2⟩
end
end Go.Proofs.YtngdogldgcgnjaaGreat
namespace Go.Proofs.YtngdogldgcgnjaaGreat
open Go.ChangeShapes Go.WideShapes Go.ChangeAt Go.RowKit
open Reg
set_option linter.unusedVariables false
section
def zeroM : Array Value := madeCells (Value.int .u8 0).cells 65536
theorem zeroM_get (a : Nat) (h : a < 65536) : zeroM[a]? = some (.int .u8 0) := by
 unfold zeroM madeCells
 rw [Array.getElem?_map, Array.getElem?_range]; rw [if_pos h]
 show some ((Value.int .u8 0).cells[a % 1]!) = _
 rw [Nat.mod_one]
 rfl
theorem infoB : (Tryz.prog.info? 5).map (fun i => (i.zero, i.size, i.bytes)) = some (some (.int .u8 0), 1, 1) := by kernel_rfl
theorem mk_run (w : World) : (Instr.makeSlice 27 (.int .i64 65536) (.int .i64 65536)).run Tryz.prog w = .ok (.slice (some ⟨w.heap.size, 0, none⟩) 65536 65536) (w.alloc (.cells zeroM 5)) := by
 obtain ⟨i0, hi, hz0, hz1, hz2⟩ := info_parts infoB; have h := run_make (P := Tryz.prog) w 27 5 i0 _ Tryz.underlying27 hi hz0 .i64 .i64 65536 65536 (by decide) (by decide) (by rw [hz2]; decide) (by decide); rw [hz1] at h
 exact h
structure Ram (w : World) (R M : Nat) (m : Int → Int) : Prop where
 ram : Has w R (ramC M 0 (.slice none 0 0))
 mem : ∀ a : Nat, a < 65536 → w.cell? ⟨M, a, none⟩ = some (.int .u8 (m a))
 free : ∀ a, w.frozen? ⟨M, a, none⟩ = false
 mlt : M < w.heap.size
 rm : R ≠ M
 okm : ∀ a, 0 ≤ m a ∧ m a < 256
theorem Ram.off {w w' : World} {R M : Nat} {m : Int → Int} {X : Nat → Prop} (h : Ram w R M m) (ho : Off X w w') (h1 : ¬ X R) (h2 : ¬ X M) : Ram w' R M m :=
 ⟨h.ram.off ho h1, fun a ha => (ho.cell (p := ⟨M, a, none⟩) h.mlt h2).trans (h.mem a ha), fun a => (ho.frozen (p := ⟨M, a, none⟩) h.mlt h2).trans (h.free a), Nat.lt_of_lt_of_le h.mlt ho.size, h.rm, h.okm⟩
theorem Ram.below {w w' : World} {R M : Nat} {m : Int → Int} (h : Ram w R M m) (hb : Below w.heap.size w w') : Ram w' R M m := h.off (Off.of (fun _ => False) hb) id id
theorem Ram.poke {w : World} {R M : Nat} {m : Int → Int} (h : Ram w R M m) (a : Nat) (ha : a < 65536) (x : Int) (h0 : 0 ≤ x) (h1 : x < 256) : Ram (w.setCell ⟨M, a, none⟩ (.int .u8 x)) R M (upd m a x) := by
 have hO : Off (fun k => k = M) w (w.setCell ⟨M, a, none⟩ (.int .u8 x)) := Off.setCell w M a _ rfl
 refine ⟨h.ram.off hO h.rm, fun b hb => ?_, fun b => by simpa [go_sem] using h.free b, Nat.lt_of_lt_of_le h.mlt hO.size, h.rm, fun b => ?_⟩
 ·unfold upd
  by_cases e : b = a
  ·subst e
   rw [if_pos rfl]
   exact World.cell?_setCell_same w _ _ (h.mem b hb)
  ·rw [if_neg (by omega), World.cell?_setCell_other _ _ _ _ (fun h => e (by injection h with _ h; exact h.symm))]
   exact h.mem b hb
 ·unfold upd
  split
  ·exact ⟨h0, h1⟩
  ·exact h.okm b
theorem Ram.bus {w : World} {R M tb : Nat} {m : Int → Int} (h : Ram w R M m) (T : TabAny w tb) (h1 : R ≠ tb) (h2 : M ≠ tb) : Bus ramC w R M tb (.slice none 0 0) m [] 0 :=
 ⟨⟨0, h.ram⟩, h.mem, h.free, h.mlt, World.ownsRow_nil _ _ _ _, T, h.rm, h1, h2, fun k hk => by simp [Value.ownBlock] at hk, h.okm, Nat.le_refl _⟩
theorem Ram.zero (w : World) : Ram ((w.alloc (.cells zeroM 5)).alloc (.cells #[.slice (some ⟨w.heap.size, 0, none⟩) 65536 65536, .slice none 0 0] 35)) (w.heap.size + 1) w.heap.size (fun _ => 0) := by
 have h1 := (Has.new w zeroM 5).alloc (.cells #[.slice (some ⟨w.heap.size, 0, none⟩) 65536 65536, .slice none 0 0] 35); have h2 := Has.new (w.alloc (.cells zeroM 5)) #[.slice (some ⟨w.heap.size, 0, none⟩) 65536 65536, .slice none 0 0] 35
 have e : (w.alloc (.cells zeroM 5)).heap.size = w.heap.size + 1 := by simp
 rw [e] at h2
 exact ⟨h2, fun a ha => (h1.2.1 a).trans (zeroM_get a ha), h1.2.2, h1.1, by omega, fun _ => by decide⟩
def aw0 : Sy := ⟨⟨⟨0, 0, 0, 0, 0, 0, 0, 0, 0, 256⟩, false, false, false, false⟩, upd (upd (fun _ => 0) 256 62) 257 18, []⟩
theorem aw_a : (stepS aw0).s.r.a = 18 := by kernel_rfl
theorem aw_pc : (stepS aw0).s.r.pc = 258 := by kernel_rfl
theorem aw_n : (stepS aw0).acc.length = 2 := by kernel_rfl
theorem aw_w : (stepD aw0).what = 1 := by kernel_rfl
theorem Bus.form {C : Nat → Int → Value → Array Value} {w : World} {R M tb n : Nat} {v : Value} {m : Int → Int} {acc : List Ac} (h : Bus C w R M tb v m acc n) : ∃ a c, v = .slice a acc.length c := by
 rcases h.own.2 with ⟨e, e'⟩ | ⟨g, cap, cur, e, _⟩
 ·exact ⟨none, 0, by rw [e, e']⟩
 ·exact ⟨_, _, e⟩
theorem aw_step {w : World} {R M tb : Nat} {v : Value} (h : Bus ramC w R M tb v aw0.m [] 0) : Calls Tryz.prog 14 #[.pointer (some ⟨tb, 0, none⟩), .agg #[.int .u8 0, .int .u8 0, .int .u8 0, .int .u8 0, .int .u8 0, .int .u8 0, .int .u8 0, .int .u8 0, .int .u16 0, .int .u16 256, .bool false, .bool false, .bool false, .bool false], .iface 31 (.pointer (some ⟨R, 0, none⟩))] w (SE R M tb v w aw0 12) :=
 Step_t h (by decide) aw0.s (by unfold RR.ok; decide)
theorem awake_c (w : World) : Calls Tryz.prog 10 #[] w fun e w' => e = .returned (.bool true) ∧ Below w.heap.size w w' := by
 have hmk := mk_run; have r0 := Ram.zero w; have B0 := Lib.hid (own2 w (.cells zeroM 5) (.cells #[.slice (some ⟨w.heap.size, 0, none⟩) 65536 65536, .slice none 0 0] 35)); go_enter Tryz.func10, Tryz.ntmps10; go_wp2; clear hmk; generalize ((w.alloc (.cells zeroM 5)).alloc (.cells #[.slice (some ⟨w.heap.size, 0, none⟩) 65536 65536, .slice none 0 0] 35)) = w0 at B0 r0 ⊢; generalize hM : w.heap.size = M at r0 ⊢
 have LM := Lib.hid (show w.heap.size ≤ M by omega)
 clear hM; generalize hR : M + 1 = R at r0 ⊢
 have LR := Lib.hid (show w.heap.size ≤ R by have := LM.out; omega)
 clear hR; have R1 := Lib.hid (r0.below (Below.refl _ _).drew); have B1 := Lib.hid (B0.out.drew); clear r0 B0
 refine wp_region_held_drew (S := (fun w' => (w'.cell? ⟨R, 0, none⟩ = some (.slice (some ⟨M, 0, none⟩) 65536 65536)) ∧ True)) (by kernel_rfl) ⟨R1.out.ram.2.1 0, trivial⟩ (fun hHeld => ?_)
 generalize World.drew w0 = u1 at hHeld R1 B1 ⊢; refine tz 0 ?_; refine tz 1 ?_; refine tz 2 ?_; refine tz 3 ?_; refine tz 4 ?_; refine tz 5 ?_; refine tz 6 ?_; refine tz 7 ?_; refine tz 8 ?_
 refine re1 9 (fun K hK => ?_)
 have hm := R1.out.mem 256 (by decide); have hf := R1.out.free; go_simp; have R2 := Lib.hid (R1.out.poke 256 (by decide) 62 (by decide) (by decide)); have B2 := Lib.hid (B1.out.setCell (p := ⟨M, 256, none⟩) LM.out (.int .u8 62))
 refine hK.out _ _ ?s10 (fun hNew => ?r10)
 case s10 => exact ⟨R2.out.ram.2.1 0, trivial⟩
 clear hK K hHeld hm hf; have hHeld := hNew; clear hNew; generalize World.setCell u1 ⟨M, 256, none⟩ (.int .u8 62) = u2 at hHeld R2 B2 ⊢; refine tz 10 ?_
 refine re1 11 (fun K hK => ?_)
 have hm := R2.out.mem 257 (by decide); have hf := R2.out.free; go_simp; have R3 := Lib.hid (R2.out.poke 257 (by decide) 18 (by decide) (by decide)); have B3 := Lib.hid (B2.out.setCell (p := ⟨M, 257, none⟩) LM.out (.int .u8 18))
 refine hK.out _ _ ?s12 (fun hNew => ?r12)
 case s12 => exact ⟨R3.out.ram.2.1 0, trivial⟩
 clear hK K hHeld hm hf; have hHeld := hNew; clear hNew; generalize World.setCell u2 ⟨M, 257, none⟩ (.int .u8 18) = u3 at hHeld R3 B3 ⊢
 refine wpAnyH_done (by kernel_rfl) ?_ _
 go_wp2_with fail
 with_reducible refine (new_c _).mono ?_
 rintro e w' ⟨rfl, rfl⟩; have T1 := Tab.new u3 81; have R4 := R3.out.below (own1 u3 (.cells Tryz.zeroCells81 81)); have B4 := Lib.hid (via B3.out (own1 u3 (.cells Tryz.zeroCells81 81))); have LT := Lib.hid B3.out.size; have b3 := R4.bus (Or.inl T1) (by have := R3.out.ram.1; omega) (by have := R3.out.mlt; omega); have BB := Lib.hid b3; clear T1 R4 b3 R3 B3 R2 B2 R1 B1 hHeld; generalize u3.alloc (.cells Tryz.zeroCells81 81) = w2 at B4 BB ⊢; generalize u3.heap.size = tb at LT BB ⊢; go_wp2_with fail
 with_reducible refine (aw_step BB.out).mono ?_
 rintro e w3 ⟨rfl, -, v3, b3, m3⟩; obtain ⟨A3, c3, hv⟩ := b3.form; rw [aw_n] at hv; subst hv; obtain ⟨q, hR⟩ := b3.ram; have hr : w3.cell? ⟨R, 1, none⟩ = some (.slice A3 2 c3) := hR.2.1 1; have hlt := hR.1
 have B5 := Lib.hid (B4.out.trans (m3.1.below (fun k hk hx => by
  have := LM.out; have := LT.out; have := LR.out
  rcases hx with hx | hx | hx | hx
  ·omega
  ·omega
  ·omega
  ·simp [Value.ownBlock] at hx) B4.out.size))
 clear b3 m3 BB B4 hR; have ha := aw_a; have hp := aw_pc; have hw := aw_w; generalize stepS aw0 = y1 at ha hp ⊢; generalize stepD aw0 = D at hw ⊢
 unfold St.cells didC
 rw [ha, hp, hw]; clear ha hp hw
 have hne1 : ¬ R = w3.heap.size := by omega
 have hne2 : ¬ R = w3.heap.size + 1 := by omega
 go_wp2; go_ret
 exact ⟨rfl, via B5.out (own2 _ _ _)⟩
end
end Go.Proofs.YtngdogldgcgnjaaGreat
