/-
  What Step does: for every world; the bus and the table are there.
-/
import Derived.Test.YtngdogldgcgnjaaGreatP12
namespace Go.Proofs.YtngdogldgcgnjaaGreat
open Go.ChangeShapes Go.WideShapes Go.ChangeAt Go.RowKit
open Reg
set_option linter.unusedVariables false
set_option maxRecDepth 100000
section
variable {w : World} {R M tb n : Nat} {v : Value} {m : Int → Int} {acc : List Ac}
theorem nilI (x : Value) (w : World) : (binOp .eql 83 (.iface 31 x) .nilIface).run Tryz.prog w = .ok (.bool false) w := rfl
theorem Off.s {X : Nat → Prop} {w w' : World} (h : Off X w w') {b : Nat} (hx : X b) (o : Nat) (x : Value) : Off X w (w'.setCell ⟨b, o, none⟩ x) := h.trans (Off.setCell w' b o x hx) (fun _ _ h => h)
theorem stepD_at (y : Sy) : (stepD y).at' = y.s.r.pc := by
 unfold stepD
 repeat (first | rfl | split)
/-- How Step ends. -/
def SE (R M tb : Nat) (v : Value) (w : World) (y : Sy) (n : Nat) (e : Ending) (w' : World) : Prop :=
 e = .returned (.tuple #[.agg (stepS y).s.cells, .agg (didC (stepD y))]) ∧ (stepS y).s.r.ok ∧ ∃ v', Bus ramC w' R M tb v' (stepS y).m (stepS y).acc n ∧ BM R M tb v w v' w'
set_option maxHeartbeats 2000000 in
theorem Step_t (h : Bus ramC w R M tb v m acc n) (hn : n < 500000) (s : St) (ok : s.r.ok) : Calls Tryz.prog 14 #[.pointer (some ⟨tb, 0, none⟩), .agg #[.int .u8 s.r.a, .int .u8 s.r.f, .int .u8 s.r.b, .int .u8 s.r.c, .int .u8 s.r.d, .int .u8 s.r.e, .int .u8 s.r.h, .int .u8 s.r.l, .int .u16 s.r.sp, .int .u16 s.r.pc, .bool s.ime, .bool s.soon, .bool s.halt, .bool s.stop], .iface 31 (.pointer (some ⟨R, 0, none⟩))] w (SE R M tb v w ⟨s, m, acc⟩ (n + 12)) := by
 have hq := nilI (.pointer (some ⟨R, 0, none⟩))
 have hb := own4 w (.cells #[.int .u8 s.r.a, .int .u8 s.r.f, .int .u8 s.r.b, .int .u8 s.r.c, .int .u8 s.r.d, .int .u8 s.r.e, .int .u8 s.r.h, .int .u8 s.r.l, .int .u16 s.r.sp, .int .u16 s.r.pc, .bool s.ime, .bool s.soon, .bool s.halt, .bool s.stop] 41) (.cells #[.int .u8 0, .int .u8 0, .int .u8 0, .int .u8 0, .int .u8 0, .int .u8 0, .int .u8 0, .int .u8 0, .int .u16 0, .int .u16 0, .bool false, .bool false, .bool false, .bool false] 41) (.cells #[.int .i64 0, .int .i64 0, .int .u16 0, .int .i64 0, .int .i64 0, .int .i64 0, .int .i64 0, .int .u16 0, .bool false] 46) (.cells #[.int .u8 s.r.a, .int .u8 s.r.f, .int .u8 s.r.b, .int .u8 s.r.c, .int .u8 s.r.d, .int .u8 s.r.e, .int .u8 s.r.h, .int .u8 s.r.l, .int .u16 s.r.sp, .int .u16 s.r.pc, .bool s.ime, .bool s.soon, .bool s.halt, .bool s.stop, .iface 31 (.pointer (some ⟨R, 0, none⟩))] 85)
 have h1 := (((Has.new (w.alloc (.cells #[.int .u8 s.r.a, .int .u8 s.r.f, .int .u8 s.r.b, .int .u8 s.r.c, .int .u8 s.r.d, .int .u8 s.r.e, .int .u8 s.r.h, .int .u8 s.r.l, .int .u16 s.r.sp, .int .u16 s.r.pc, .bool s.ime, .bool s.soon, .bool s.halt, .bool s.stop] 41)) #[.int .u8 0, .int .u8 0, .int .u8 0, .int .u8 0, .int .u8 0, .int .u8 0, .int .u8 0, .int .u8 0, .int .u16 0, .int .u16 0, .bool false, .bool false, .bool false, .bool false] 41).alloc (.cells #[.int .i64 0, .int .i64 0, .int .u16 0, .int .i64 0, .int .i64 0, .int .i64 0, .int .i64 0, .int .u16 0, .bool false] 46)).alloc (.cells #[.int .u8 s.r.a, .int .u8 s.r.f, .int .u8 s.r.b, .int .u8 s.r.c, .int .u8 s.r.d, .int .u8 s.r.e, .int .u8 s.r.h, .int .u8 s.r.l, .int .u16 s.r.sp, .int .u16 s.r.pc, .bool s.ime, .bool s.soon, .bool s.halt, .bool s.stop, .iface 31 (.pointer (some ⟨R, 0, none⟩))] 85))
 have h2 := ((Has.new ((w.alloc (.cells #[.int .u8 s.r.a, .int .u8 s.r.f, .int .u8 s.r.b, .int .u8 s.r.c, .int .u8 s.r.d, .int .u8 s.r.e, .int .u8 s.r.h, .int .u8 s.r.l, .int .u16 s.r.sp, .int .u16 s.r.pc, .bool s.ime, .bool s.soon, .bool s.halt, .bool s.stop] 41)).alloc (.cells #[.int .u8 0, .int .u8 0, .int .u8 0, .int .u8 0, .int .u8 0, .int .u8 0, .int .u8 0, .int .u8 0, .int .u16 0, .int .u16 0, .bool false, .bool false, .bool false, .bool false] 41)) #[.int .i64 0, .int .i64 0, .int .u16 0, .int .i64 0, .int .i64 0, .int .i64 0, .int .i64 0, .int .u16 0, .bool false] 46).alloc (.cells #[.int .u8 s.r.a, .int .u8 s.r.f, .int .u8 s.r.b, .int .u8 s.r.c, .int .u8 s.r.d, .int .u8 s.r.e, .int .u8 s.r.h, .int .u8 s.r.l, .int .u16 s.r.sp, .int .u16 s.r.pc, .bool s.ime, .bool s.soon, .bool s.halt, .bool s.stop, .iface 31 (.pointer (some ⟨R, 0, none⟩))] 85))
 have h3 := Has.new (((w.alloc (.cells #[.int .u8 s.r.a, .int .u8 s.r.f, .int .u8 s.r.b, .int .u8 s.r.c, .int .u8 s.r.d, .int .u8 s.r.e, .int .u8 s.r.h, .int .u8 s.r.l, .int .u16 s.r.sp, .int .u16 s.r.pc, .bool s.ime, .bool s.soon, .bool s.halt, .bool s.stop] 41)).alloc (.cells #[.int .u8 0, .int .u8 0, .int .u8 0, .int .u8 0, .int .u8 0, .int .u8 0, .int .u8 0, .int .u8 0, .int .u16 0, .int .u16 0, .bool false, .bool false, .bool false, .bool false] 41)).alloc (.cells #[.int .i64 0, .int .i64 0, .int .u16 0, .int .i64 0, .int .i64 0, .int .i64 0, .int .i64 0, .int .u16 0, .bool false] 46)) #[.int .u8 s.r.a, .int .u8 s.r.f, .int .u8 s.r.b, .int .u8 s.r.c, .int .u8 s.r.d, .int .u8 s.r.e, .int .u8 s.r.h, .int .u8 s.r.l, .int .u16 s.r.sp, .int .u16 s.r.pc, .bool s.ime, .bool s.soon, .bool s.halt, .bool s.stop, .iface 31 (.pointer (some ⟨R, 0, none⟩))] 85
 have e1 : (w.alloc (.cells #[.int .u8 s.r.a, .int .u8 s.r.f, .int .u8 s.r.b, .int .u8 s.r.c, .int .u8 s.r.d, .int .u8 s.r.e, .int .u8 s.r.h, .int .u8 s.r.l, .int .u16 s.r.sp, .int .u16 s.r.pc, .bool s.ime, .bool s.soon, .bool s.halt, .bool s.stop] 41)).heap.size = w.heap.size + 1 := by simp
 have e2 : ((w.alloc (.cells #[.int .u8 s.r.a, .int .u8 s.r.f, .int .u8 s.r.b, .int .u8 s.r.c, .int .u8 s.r.d, .int .u8 s.r.e, .int .u8 s.r.h, .int .u8 s.r.l, .int .u16 s.r.sp, .int .u16 s.r.pc, .bool s.ime, .bool s.soon, .bool s.halt, .bool s.stop] 41)).alloc (.cells #[.int .u8 0, .int .u8 0, .int .u8 0, .int .u8 0, .int .u8 0, .int .u8 0, .int .u8 0, .int .u8 0, .int .u16 0, .int .u16 0, .bool false, .bool false, .bool false, .bool false] 41)).heap.size = w.heap.size + 1 + 1 := by simp
 have e3 : (((w.alloc (.cells #[.int .u8 s.r.a, .int .u8 s.r.f, .int .u8 s.r.b, .int .u8 s.r.c, .int .u8 s.r.d, .int .u8 s.r.e, .int .u8 s.r.h, .int .u8 s.r.l, .int .u16 s.r.sp, .int .u16 s.r.pc, .bool s.ime, .bool s.soon, .bool s.halt, .bool s.stop] 41)).alloc (.cells #[.int .u8 0, .int .u8 0, .int .u8 0, .int .u8 0, .int .u8 0, .int .u8 0, .int .u8 0, .int .u8 0, .int .u16 0, .int .u16 0, .bool false, .bool false, .bool false, .bool false] 41)).alloc (.cells #[.int .i64 0, .int .i64 0, .int .u16 0, .int .i64 0, .int .i64 0, .int .i64 0, .int .i64 0, .int .u16 0, .bool false] 46)).heap.size = w.heap.size + 1 + 1 + 1 := by simp
 rw [e1] at h1
 rw [e2] at h2
 rw [e3] at h3
 have S0 := Lib.hid (show Sys procD ramC ((((w.alloc (.cells #[.int .u8 s.r.a, .int .u8 s.r.f, .int .u8 s.r.b, .int .u8 s.r.c, .int .u8 s.r.d, .int .u8 s.r.e, .int .u8 s.r.h, .int .u8 s.r.l, .int .u16 s.r.sp, .int .u16 s.r.pc, .bool s.ime, .bool s.soon, .bool s.halt, .bool s.stop] 41)).alloc (.cells #[.int .u8 0, .int .u8 0, .int .u8 0, .int .u8 0, .int .u8 0, .int .u8 0, .int .u8 0, .int .u8 0, .int .u16 0, .int .u16 0, .bool false, .bool false, .bool false, .bool false] 41)).alloc (.cells #[.int .i64 0, .int .i64 0, .int .u16 0, .int .i64 0, .int .i64 0, .int .i64 0, .int .i64 0, .int .u16 0, .bool false] 46)).alloc (.cells #[.int .u8 s.r.a, .int .u8 s.r.f, .int .u8 s.r.b, .int .u8 s.r.c, .int .u8 s.r.d, .int .u8 s.r.e, .int .u8 s.r.h, .int .u8 s.r.l, .int .u16 s.r.sp, .int .u16 s.r.pc, .bool s.ime, .bool s.soon, .bool s.halt, .bool s.stop, .iface 31 (.pointer (some ⟨R, 0, none⟩))] 85)) (w.heap.size + 1 + 1 + 1) R M tb v ⟨s, m, acc⟩ n from ⟨h3, h.below hb, fun hx => by have := h.lt hx; omega, ok⟩)
 have H1 := Lib.hid h1
 have H2 := Lib.hid h2
 have B0 := Lib.hid hb
 have NB : ∀ k, w.heap.size ≤ k → ¬ BX R M tb v k := fun k hk hx => by have := h.lt hx; omega
 have NB' := Lib.hid NB
 clear h1 h2 h3 hb e1 e2 e3 h NB
 go_enter Tryz.func14, Tryz.ntmps14
 go_wp2_with fail
 generalize ((((w.alloc (.cells #[.int .u8 s.r.a, .int .u8 s.r.f, .int .u8 s.r.b, .int .u8 s.r.c, .int .u8 s.r.d, .int .u8 s.r.e, .int .u8 s.r.h, .int .u8 s.r.l, .int .u16 s.r.sp, .int .u16 s.r.pc, .bool s.ime, .bool s.soon, .bool s.halt, .bool s.stop] 41)).alloc (.cells #[.int .u8 0, .int .u8 0, .int .u8 0, .int .u8 0, .int .u8 0, .int .u8 0, .int .u8 0, .int .u8 0, .int .u16 0, .int .u16 0, .bool false, .bool false, .bool false, .bool false] 41)).alloc (.cells #[.int .i64 0, .int .i64 0, .int .u16 0, .int .i64 0, .int .i64 0, .int .i64 0, .int .i64 0, .int .u16 0, .bool false] 46)).alloc (.cells #[.int .u8 s.r.a, .int .u8 s.r.f, .int .u8 s.r.b, .int .u8 s.r.c, .int .u8 s.r.d, .int .u8 s.r.e, .int .u8 s.r.h, .int .u8 s.r.l, .int .u16 s.r.sp, .int .u16 s.r.pc, .bool s.ime, .bool s.soon, .bool s.halt, .bool s.stop, .iface 31 (.pointer (some ⟨R, 0, none⟩))] 85)) = w0 at S0 H1 H2 B0 ⊢
 obtain ⟨P, hP⟩ : ∃ q, q = w.heap.size + 1 + 1 + 1 := ⟨_, rfl⟩
 obtain ⟨r2, hr2⟩ : ∃ q, q = w.heap.size + 1 + 1 := ⟨_, rfl⟩
 obtain ⟨r1, hr1⟩ : ∃ q, q = w.heap.size + 1 := ⟨_, rfl⟩
 have L1 := Lib.hid (show w.heap.size ≤ r1 by omega)
 have L2 := Lib.hid (show w.heap.size ≤ r2 by omega)
 have LP := Lib.hid (show w.heap.size ≤ P by omega)
 have n12 : r1 ≠ r2 := by omega
 have n1P : r1 ≠ P := by omega
 have n2P : r2 ≠ P := by omega
 rw [← hP] at S0 ⊢
 rw [← hr2] at H2 ⊢
 rw [← hr1] at H1 ⊢
 clear hP hr2 hr1
 have nx1 : ¬ PX P R M tb v r1 := fun hx => hx.elim n1P (NB'.out r1 L1.out)
 have nx2 : ¬ PX P R M tb v r2 := fun hx => hx.elim n2P (NB'.out r2 L2.out)
 with_reducible refine (step_p S0.out (by omega)).mono ?_
 rintro e w1 ⟨rfl, v1, s', m'⟩
 have H1' := Lib.hid (m'.has H1.out nx1)
 have H2' := Lib.hid (m'.has H2.out nx2)
 have mx1 := m'.far H1.out.1 nx1
 have mx2 := m'.far H2.out.1 nx2
 have BMM := Lib.hid (show BM R M tb v w v1 w1 from ⟨(Off.of _ B0.out).trans m'.1 (fun b hb hx => hx.elim (fun e => absurd LP.out (by omega)) id), fun k hk => (m'.2 k hk).imp id (fun h => Nat.le_trans B0.out.size h)⟩)
 obtain ⟨y1, hy⟩ : ∃ q_, q_ = stepS ⟨s, m, acc⟩ := ⟨_, rfl⟩
 obtain ⟨D, hD⟩ : ∃ q_, q_ = stepD0 ⟨s, m, acc⟩ := ⟨_, rfl⟩
 rw [← hD]
 rw [← hy] at s'
 have Y1 := Lib.hid hy
 have D1 := Lib.hid hD
 have w1n : ¬ r1 = w1.heap.size := by have := H1'.out.1; omega
 have w2n : ¬ r2 = w1.heap.size := by have := H2'.out.1; omega
 have wPn : ¬ P = w1.heap.size := by have := s'.reg.1; omega
 unfold didC
 have S1 := Lib.hid s'
 have hok := s'.ok
 clear s' m' hy hD S0 H1 H2 hq
 go_wp2
 have S2 := Lib.hid (S1.out.below (own1 w1 (.cells #[.int .i64 D.what, .int .i64 D.n, .int .u16 s.r.pc, .int .i64 D.o.k, .int .i64 D.o.x, .int .i64 D.o.y, .int .i64 D.o.s, .int .u16 D.o.n, .bool D.t] 46)))
 have H12 := (H1'.out.alloc (.cells #[.int .i64 D.what, .int .i64 D.n, .int .u16 s.r.pc, .int .i64 D.o.k, .int .i64 D.o.x, .int .i64 D.o.y, .int .i64 D.o.s, .int .u16 D.o.n, .bool D.t] 46))
 have H22 := (H2'.out.alloc (.cells #[.int .i64 D.what, .int .i64 D.n, .int .u16 s.r.pc, .int .i64 D.o.k, .int .i64 D.o.x, .int .i64 D.o.y, .int .i64 D.o.s, .int .u16 D.o.n, .bool D.t] 46))
 have HD2 := Has.new w1 #[.int .i64 D.what, .int .i64 D.n, .int .u16 s.r.pc, .int .i64 D.o.k, .int .i64 D.o.x, .int .i64 D.o.y, .int .i64 D.o.s, .int .u16 D.o.n, .bool D.t] 46
 have B2 := Lib.hid (BMM.out.trans (BM.of (own1 w1 (.cells #[.int .i64 D.what, .int .i64 D.n, .int .u16 s.r.pc, .int .i64 D.o.k, .int .i64 D.o.x, .int .i64 D.o.y, .int .i64 D.o.s, .int .u16 D.o.n, .bool D.t] 46))))
 obtain ⟨hc, hf⟩ := S2.out.cp
 have hc1 := H12.2.1
 have hf1 := H12.2.2
 have hc2 := H22.2.1
 have hf2 := H22.2.2
 have hd := HD2.2.1
 generalize w1.alloc (.cells #[.int .i64 D.what, .int .i64 D.n, .int .u16 s.r.pc, .int .i64 D.o.k, .int .i64 D.o.x, .int .i64 D.o.y, .int .i64 D.o.s, .int .u16 D.o.n, .bool D.t] 46) = W2 at S2 hc hf hc1 hf1 hc2 hf2 hd B2 H12 H22 HD2 ⊢
 clear H12 H22 HD2
 generalize w1.heap.size = db at hd w1n w2n wPn ⊢
 go_region
 all_goals
  go_wp2
  refine bodyPost_ret (v := .tuple #[.agg #[.int .u8 y1.s.r.a, .int .u8 y1.s.r.f, .int .u8 y1.s.r.b, .int .u8 y1.s.r.c, .int .u8 y1.s.r.d, .int .u8 y1.s.r.e, .int .u8 y1.s.r.h, .int .u8 y1.s.r.l, .int .u16 y1.s.r.sp, .int .u16 y1.s.r.pc, .bool y1.s.ime, .bool y1.s.soon, .bool y1.s.halt, .bool y1.s.stop], .agg #[.int .i64 D.what, .int .i64 D.n, .int .u16 s.r.pc, .int .i64 D.o.k, .int .i64 D.o.x, .int .i64 D.o.y, .int .i64 D.o.s, .int .u16 D.o.n, .bool D.t]]) (by simp [results, Tryz.results14, go_sem, hc1, hc2]) rfl ⟨?_, ?_, v1, ?_, ?_⟩
  ·have q : didC (stepD ⟨s, m, acc⟩) = #[.int .i64 D.what, .int .i64 D.n, .int .u16 s.r.pc, .int .i64 D.o.k, .int .i64 D.o.x, .int .i64 D.o.y, .int .i64 D.o.s, .int .u16 D.o.n, .bool D.t] := by
    rw [D1.out]
    unfold didC stepD0
    rw [stepD_at]
   rw [q, ← Y1.out]
   rfl
  ·rw [← Y1.out]
   exact hok
  ·rw [← Y1.out]
   exact S2.out.bus.keep (X := fun k => k = r1 ∨ k = r2) ((((((((((((((((((((((((Off.refl (fun k => k = r1 ∨ k = r2) W2).s (.inl rfl) 0 _).s (.inl rfl) 1 _).s (.inl rfl) 2 _).s (.inl rfl) 3 _).s (.inl rfl) 4 _).s (.inl rfl) 5 _).s (.inl rfl) 6 _).s (.inl rfl) 7 _).s (.inl rfl) 8 _).s (.inl rfl) 9 _).s (.inl rfl) 10 _).s (.inl rfl) 11 _).s (.inl rfl) 12 _).s (.inl rfl) 13 _).s (.inr rfl) 0 _).s (.inr rfl) 1 _).s (.inr rfl) 2 _).s (.inr rfl) 3 _).s (.inr rfl) 4 _).s (.inr rfl) 5 _).s (.inr rfl) 6 _).s (.inr rfl) 7 _).s (.inr rfl) 8 _).drew (fun k hk e => e.elim (fun e => mx1 (by rw [← e]; exact .inr hk)) (fun e => mx2 (by rw [← e]; exact .inr hk)))
  ·exact ⟨B2.out.1.trans (Y := fun k => k = r1 ∨ k = r2) ((((((((((((((((((((((((Off.refl (fun k => k = r1 ∨ k = r2) W2).s (.inl rfl) 0 _).s (.inl rfl) 1 _).s (.inl rfl) 2 _).s (.inl rfl) 3 _).s (.inl rfl) 4 _).s (.inl rfl) 5 _).s (.inl rfl) 6 _).s (.inl rfl) 7 _).s (.inl rfl) 8 _).s (.inl rfl) 9 _).s (.inl rfl) 10 _).s (.inl rfl) 11 _).s (.inl rfl) 12 _).s (.inl rfl) 13 _).s (.inr rfl) 0 _).s (.inr rfl) 1 _).s (.inr rfl) 2 _).s (.inr rfl) 3 _).s (.inr rfl) 4 _).s (.inr rfl) 5 _).s (.inr rfl) 6 _).s (.inr rfl) 7 _).s (.inr rfl) 8 _).drew (fun b hb e => by have := L1.out; have := L2.out; have e' : b = r1 ∨ b = r2 := e; omega), B2.out.2⟩
end
end Go.Proofs.YtngdogldgcgnjaaGreat
