/-
  What change does: for every world; the processor is there.
-/
import Derived.Test.YtngdogldgcgnjaaGreatZ11
set_option maxRecDepth 100000
set_option maxHeartbeats 8000000
namespace Go.Proofs.YtngdogldgcgnjaaGreat
open Go.ChangeShapes Go.WideShapes Go.ChangeAt Go.RowKit
open Reg
set_option linter.unusedVariables false
section
variable {w : World} {P R M tb n : Nat} {v : Value} {y : Sy}
theorem change_Inc (h0 : Sys procD ramC w P R M tb v y n) (hn : n < 970000) (k : Int) : Calls Tryz.prog 92 #[.pointer (some ⟨P, 0, none⟩), .int .i64 k, .func (.func 93) #[] #[]] w (PE procD ramC P R M tb v w (.tuple #[]) (setF (Alu.incF (getY k y) y.s.r.f) (putS k ((getY k y + 1) % 256) (getS k y))) (n + 2)) := by
 have fb := h0.fb; have gb := h0.getb k; have S0 := Lib.hid h0; have M0 := Lib.hid (PM.refl P R M tb v w); obtain ⟨hc, hf⟩ := h0.cp; clear h0; go_enter Tryz.func92, Tryz.ntmps92; go_wp2; have S0' := Lib.hid S0.out.drew; have M0' := Lib.hid (M0.out.trans (PM.drew P R M tb v w)); clear hc hf
 refine wp_region_held_drew (S := (fun w' => (w'.cell? ⟨P, 1, none⟩ = some (.int .u8 y.s.r.f)) ∧ True)) (by kernel_rfl) ⟨S0'.out.cp.1 1, trivial⟩ (fun hHeld => ?_)
 generalize World.drew w = u0 at hHeld S0' M0' ⊢; clear S0 M0; have S0 := S0'; have M0 := M0'; clear S0' M0'; refine tz 0 ?_; refine tz 1 ?_; refine tz 2 ?_; refine tz 4 ?_; refine tz 5 ?_; refine tz 6 ?_; refine tz 7 ?_; refine tz 8 ?_; refine tz 9 ?_
 refine re1 3 (fun K hK => ?_)
 go_simp
 go_wp2_with (go_at_call 89; (with_reducible refine (get_p S0.out (by omega) k).mono ?_); rintro e w1 ⟨rfl, v1, s', m'⟩)
 refine hK.out _ _ ⟨(s'.cp.1 1).trans (by rw [getS_s]; rfl), trivial⟩ (fun hNew => ?_); clear hK K hHeld; have hHeld := hNew; clear hNew
 have M1 := M0.tr m'; obtain ⟨y1, hy⟩ : ∃ q_, q_ = getS k y := ⟨_, rfl⟩; rw [← hy] at s'; have Y1 := Lib.hid hy; have S1 := Lib.hid s'; clear s' m' hy
 refine re1 10 (fun K hK => ?_)
 go_simp
 go_wp2_with (go_at_call 93; (with_reducible refine (Alu.inc_c _ _ gb.1 gb.2 fb.1 fb.2 _).mono ?_); rintro e u' ⟨rfl, rfl⟩)
 refine hK.out _ _ hHeld (fun hNew => ?_); clear hK K hHeld; have hHeld := hNew; clear hNew
 refine tz 11 ?_; refine tz 12 ?_; refine tz 13 ?_; refine tz 14 ?_; refine tz 15 ?_
 refine wpAnyH_done (by kernel_rfl) ?_ _
 obtain ⟨hc, hf⟩ := S1.out.cp; go_wp2_with fail
 with_reducible refine (set_p S1.out (by omega) k ((getY k y + 1) % 256) (by omega) (by omega)).mono ?_
 rintro e w2 ⟨rfl, v2, s', m'⟩; have M2 := M1.tr m'; obtain ⟨y2, hy⟩ : ∃ q_, q_ = putS k ((getY k y + 1) % 256) y1 := ⟨_, rfl⟩; rw [← hy] at s'; have Y2 := Lib.hid hy; clear hc hf; obtain ⟨hc, hf⟩ := s'.cp; have S2 := Lib.hid s'; clear s' m' hy; go_wp2; have Q := Lib.hid (S2.out.stF (Alu.incF (getY k y) y.s.r.f) (Alu.FL_b _ _ _ _).1 (Alu.FL_b _ _ _ _).2)
 go_end0
 refine ⟨rfl, v2, ?_, M2.out.trans Q.out.2⟩
 have q := Q.out.1; have e := Y2.out.symm; subst e; have e := Y1.out.symm; subst e
 exact q.mo
theorem change_Dec (h0 : Sys procD ramC w P R M tb v y n) (hn : n < 970000) (k : Int) : Calls Tryz.prog 92 #[.pointer (some ⟨P, 0, none⟩), .int .i64 k, .func (.func 94) #[] #[]] w (PE procD ramC P R M tb v w (.tuple #[]) (setF (Alu.decF (getY k y) y.s.r.f) (putS k ((getY k y - 1) % 256) (getS k y))) (n + 2)) := by
 have fb := h0.fb; have gb := h0.getb k; have S0 := Lib.hid h0; have M0 := Lib.hid (PM.refl P R M tb v w); obtain ⟨hc, hf⟩ := h0.cp; clear h0; go_enter Tryz.func92, Tryz.ntmps92; go_wp2; have S0' := Lib.hid S0.out.drew; have M0' := Lib.hid (M0.out.trans (PM.drew P R M tb v w)); clear hc hf
 refine wp_region_held_drew (S := (fun w' => (w'.cell? ⟨P, 1, none⟩ = some (.int .u8 y.s.r.f)) ∧ True)) (by kernel_rfl) ⟨S0'.out.cp.1 1, trivial⟩ (fun hHeld => ?_)
 generalize World.drew w = u0 at hHeld S0' M0' ⊢; clear S0 M0; have S0 := S0'; have M0 := M0'; clear S0' M0'; refine tz 0 ?_; refine tz 1 ?_; refine tz 2 ?_; refine tz 4 ?_; refine tz 5 ?_; refine tz 6 ?_; refine tz 7 ?_; refine tz 8 ?_; refine tz 9 ?_
 refine re1 3 (fun K hK => ?_)
 go_simp
 go_wp2_with (go_at_call 89; (with_reducible refine (get_p S0.out (by omega) k).mono ?_); rintro e w1 ⟨rfl, v1, s', m'⟩)
 refine hK.out _ _ ⟨(s'.cp.1 1).trans (by rw [getS_s]; rfl), trivial⟩ (fun hNew => ?_); clear hK K hHeld; have hHeld := hNew; clear hNew
 have M1 := M0.tr m'; obtain ⟨y1, hy⟩ : ∃ q_, q_ = getS k y := ⟨_, rfl⟩; rw [← hy] at s'; have Y1 := Lib.hid hy; have S1 := Lib.hid s'; clear s' m' hy
 refine re1 10 (fun K hK => ?_)
 go_simp
 go_wp2_with (go_at_call 94; (with_reducible refine (Alu.dec_c _ _ gb.1 gb.2 fb.1 fb.2 _).mono ?_); rintro e u' ⟨rfl, rfl⟩)
 refine hK.out _ _ hHeld (fun hNew => ?_); clear hK K hHeld; have hHeld := hNew; clear hNew
 refine tz 11 ?_; refine tz 12 ?_; refine tz 13 ?_; refine tz 14 ?_; refine tz 15 ?_
 refine wpAnyH_done (by kernel_rfl) ?_ _
 obtain ⟨hc, hf⟩ := S1.out.cp; go_wp2_with fail
 with_reducible refine (set_p S1.out (by omega) k ((getY k y - 1) % 256) (by omega) (by omega)).mono ?_
 rintro e w2 ⟨rfl, v2, s', m'⟩; have M2 := M1.tr m'; obtain ⟨y2, hy⟩ : ∃ q_, q_ = putS k ((getY k y - 1) % 256) y1 := ⟨_, rfl⟩; rw [← hy] at s'; have Y2 := Lib.hid hy; clear hc hf; obtain ⟨hc, hf⟩ := s'.cp; have S2 := Lib.hid s'; clear s' m' hy; go_wp2; have Q := Lib.hid (S2.out.stF (Alu.decF (getY k y) y.s.r.f) (Alu.FL_b _ _ _ _).1 (Alu.FL_b _ _ _ _).2)
 go_end0
 refine ⟨rfl, v2, ?_, M2.out.trans Q.out.2⟩
 have q := Q.out.1; have e := Y2.out.symm; subst e; have e := Y1.out.symm; subst e
 exact q.mo
end
end Go.Proofs.YtngdogldgcgnjaaGreat
