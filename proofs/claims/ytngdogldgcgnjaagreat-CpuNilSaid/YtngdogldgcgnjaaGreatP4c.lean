/-
  What change does: for every world; the processor is there.
-/
import Derived.Test.YtngdogldgcgnjaaGreatP4a
namespace Go.Proofs.YtngdogldgcgnjaaGreat
open Go.ChangeShapes Go.WideShapes Go.ChangeAt Go.RowKit
open Reg
set_option linter.unusedVariables false
set_option maxRecDepth 100000
section
variable {w : World} {P R M tb n : Nat} {v : Value} {y : Sy}
set_option maxHeartbeats 2000000 in
theorem change_Inc (h0 : Sys procD ramC w P R M tb v y n) (hn : n < 970000) (k : Int) : Calls Tryz.prog 92 #[.pointer (some ⟨P, 0, none⟩), .int .i64 k, .func (.func 93) #[] #[]] w (PE procD ramC P R M tb v w (.tuple #[]) (setF (Alu.incF (getY k y) y.s.r.f) (putS k ((getY k y + 1) % 256) (getS k y))) (n + 2)) := by
 have fb := h0.fb
 have gb := h0.getb k
 have S0 := Lib.hid h0
 have M0 := Lib.hid (PM.refl P R M tb v w)
 obtain ⟨hc, hf⟩ := h0.cp
 clear h0
 go_enter Tryz.func92, Tryz.ntmps92
 go_wp2
 have S0' := Lib.hid S0.out.drew
 have M0' := Lib.hid (M0.out.trans (PM.drew P R M tb v w))
 clear hc hf
 refine wp_region_held_drew (S := (fun w' => (w'.cell? ⟨P, 1, none⟩ = some (.int .u8 y.s.r.f)) ∧ True)) (by kernel_rfl) ⟨S0'.out.cp.1 1, trivial⟩ (fun hHeld => ?_)
 generalize World.drew w = u0 at hHeld S0' M0' ⊢
 clear S0 M0
 have S0 := S0'
 have M0 := M0'
 clear S0' M0'
 refine tk 0 rfl (v := ?v1) ?y1 ?z1
 case y1 => (intro w hSw; (try dsimp only at hSw); go_simp) <;> with_reducible rfl
 try simp only [Act.put, qqA, qqB, qqC]
 refine tk 1 rfl (v := ?v2) ?y2 ?z2
 case y2 => (intro w hSw; (try dsimp only at hSw); go_simp) <;> with_reducible rfl
 try simp only [Act.put, qqA, qqB, qqC]
 refine tk 2 rfl (v := ?v3) ?y3 ?z3
 case y3 => (intro w hSw; (try dsimp only at hSw); go_simp) <;> with_reducible rfl
 try simp only [Act.put, qqA, qqB, qqC]
 refine tk 4 rfl (v := ?v4) ?y4 ?z4
 case y4 => (intro w hSw; (try dsimp only at hSw); go_simp) <;> with_reducible rfl
 try simp only [Act.put, qqA, qqB, qqC]
 refine tk 5 rfl (v := ?v5) ?y5 ?z5
 case y5 => (intro w hSw; (try dsimp only at hSw); go_simp) <;> with_reducible rfl
 try simp only [Act.put, qqA, qqB, qqC]
 refine tk 6 rfl (v := ?v6) ?y6 ?z6
 case y6 => (intro w hSw; (try dsimp only at hSw); go_simp) <;> with_reducible rfl
 try simp only [Act.put, qqA, qqB, qqC]
 refine tk 7 rfl (v := ?v7) ?y7 ?z7
 case y7 => (intro w hSw; (try dsimp only at hSw); go_simp) <;> with_reducible rfl
 try simp only [Act.put, qqA, qqB, qqC]
 refine tk 8 rfl (v := ?v8) ?y8 ?z8
 case y8 => (intro w hSw; (try dsimp only at hSw); go_simp) <;> with_reducible rfl
 try simp only [Act.put, qqA, qqB, qqC]
 refine tk 9 rfl (v := ?v9) ?y9 ?z9
 case y9 => (intro w hSw; (try dsimp only at hSw); go_simp) <;> with_reducible rfl
 try simp only [Act.put, qqA, qqB, qqC]
 refine wpAnyH_ready (rs := [3]) (by kernel_rfl) (by simp) ?_
 refine (ac rfl (fun K hK => ?_) AllReadyH.nil)
 ·skip
  go_simp
  go_wp2_with (go_at_call 89; (with_reducible refine (get_p S0.out (by omega) k).mono ?_); rintro e w1 ⟨rfl, v1, s', m'⟩)
  refine hK.out _ _ ?s10 (fun hNew => ?r10)
  case s10 => exact ⟨(s'.cp.1 1).trans (by rw [getS_s]; rfl), trivial⟩
  clear hK K hHeld
  have hHeld := hNew
  clear hNew
  have M1 := Lib.hid (M0.out.trans m')
  obtain ⟨y1, hy⟩ : ∃ q_, q_ = getS k y := ⟨_, rfl⟩
  rw [← hy] at s'
  have Y1 := Lib.hid hy
  have S1 := Lib.hid s'
  clear s' m' hy
  refine wpAnyH_ready (rs := [10]) (by kernel_rfl) (by simp) ?_
  refine (ac rfl (fun K hK => ?_) AllReadyH.nil)
  ·skip
   go_simp
   go_wp2_with (go_at_call 93; (with_reducible refine (Alu.inc_c _ _ gb.1 gb.2 fb.1 fb.2 _).mono ?_); rintro e u' ⟨rfl, rfl⟩)
   refine hK.out _ _ ?s11 (fun hNew => ?r11)
   case s11 => exact hHeld
   clear hK K hHeld
   have hHeld := hNew
   clear hNew
   refine tk 11 rfl (v := ?v12) ?y12 ?z12
   case y12 => (intro w hSw; (try dsimp only at hSw); go_simp) <;> with_reducible rfl
   try simp only [Act.put, qqA, qqB, qqC]
   refine tk 12 rfl (v := ?v13) ?y13 ?z13
   case y13 => (intro w hSw; (try dsimp only at hSw); go_simp) <;> with_reducible rfl
   try simp only [Act.put, qqA, qqB, qqC]
   refine tk 13 rfl (v := ?v14) ?y14 ?z14
   case y14 => (intro w hSw; (try dsimp only at hSw); go_simp) <;> with_reducible rfl
   try simp only [Act.put, qqA, qqB, qqC]
   refine tk 14 rfl (v := ?v15) ?y15 ?z15
   case y15 => (intro w hSw; (try dsimp only at hSw); go_simp) <;> with_reducible rfl
   try simp only [Act.put, qqA, qqB, qqC]
   refine tk 15 rfl (v := ?v16) ?y16 ?z16
   case y16 => (intro w hSw; (try dsimp only at hSw); go_simp) <;> with_reducible rfl
   try simp only [Act.put, qqA, qqB, qqC]
   refine wpAnyH_done (by kernel_rfl) ?_ _
   obtain ⟨hc, hf⟩ := S1.out.cp
   go_wp2_with fail
   with_reducible refine (set_p S1.out (by omega) k ((getY k y + 1) % 256) (by omega) (by omega)).mono ?_
   rintro e w2 ⟨rfl, v2, s', m'⟩
   have M2 := Lib.hid (M1.out.trans m')
   obtain ⟨y2, hy⟩ : ∃ q_, q_ = putS k ((getY k y + 1) % 256) y1 := ⟨_, rfl⟩
   rw [← hy] at s'
   have Y2 := Lib.hid hy
   clear hc hf
   obtain ⟨hc, hf⟩ := s'.cp
   have S2 := Lib.hid s'
   clear s' m' hy
   go_wp2
   have Q := Lib.hid (S2.out.stF (Alu.incF (getY k y) y.s.r.f) (Alu.FL_b _ _ _ _).1 (Alu.FL_b _ _ _ _).2)
   go_end0
   refine ⟨rfl, v2, ?_, M2.out.trans Q.out.2⟩
   have q := Q.out.1
   have e := Y2.out.symm
   subst e
   have e := Y1.out.symm
   subst e
   exact Sys.mono (n' := n + 2) q (by omega)
set_option maxHeartbeats 2000000 in
theorem change_Dec (h0 : Sys procD ramC w P R M tb v y n) (hn : n < 970000) (k : Int) : Calls Tryz.prog 92 #[.pointer (some ⟨P, 0, none⟩), .int .i64 k, .func (.func 94) #[] #[]] w (PE procD ramC P R M tb v w (.tuple #[]) (setF (Alu.decF (getY k y) y.s.r.f) (putS k ((getY k y - 1) % 256) (getS k y))) (n + 2)) := by
 have fb := h0.fb
 have gb := h0.getb k
 have S0 := Lib.hid h0
 have M0 := Lib.hid (PM.refl P R M tb v w)
 obtain ⟨hc, hf⟩ := h0.cp
 clear h0
 go_enter Tryz.func92, Tryz.ntmps92
 go_wp2
 have S0' := Lib.hid S0.out.drew
 have M0' := Lib.hid (M0.out.trans (PM.drew P R M tb v w))
 clear hc hf
 refine wp_region_held_drew (S := (fun w' => (w'.cell? ⟨P, 1, none⟩ = some (.int .u8 y.s.r.f)) ∧ True)) (by kernel_rfl) ⟨S0'.out.cp.1 1, trivial⟩ (fun hHeld => ?_)
 generalize World.drew w = u0 at hHeld S0' M0' ⊢
 clear S0 M0
 have S0 := S0'
 have M0 := M0'
 clear S0' M0'
 refine tk 0 rfl (v := ?v1) ?y1 ?z1
 case y1 => (intro w hSw; (try dsimp only at hSw); go_simp) <;> with_reducible rfl
 try simp only [Act.put, qqA, qqB, qqC]
 refine tk 1 rfl (v := ?v2) ?y2 ?z2
 case y2 => (intro w hSw; (try dsimp only at hSw); go_simp) <;> with_reducible rfl
 try simp only [Act.put, qqA, qqB, qqC]
 refine tk 2 rfl (v := ?v3) ?y3 ?z3
 case y3 => (intro w hSw; (try dsimp only at hSw); go_simp) <;> with_reducible rfl
 try simp only [Act.put, qqA, qqB, qqC]
 refine tk 4 rfl (v := ?v4) ?y4 ?z4
 case y4 => (intro w hSw; (try dsimp only at hSw); go_simp) <;> with_reducible rfl
 try simp only [Act.put, qqA, qqB, qqC]
 refine tk 5 rfl (v := ?v5) ?y5 ?z5
 case y5 => (intro w hSw; (try dsimp only at hSw); go_simp) <;> with_reducible rfl
 try simp only [Act.put, qqA, qqB, qqC]
 refine tk 6 rfl (v := ?v6) ?y6 ?z6
 case y6 => (intro w hSw; (try dsimp only at hSw); go_simp) <;> with_reducible rfl
 try simp only [Act.put, qqA, qqB, qqC]
 refine tk 7 rfl (v := ?v7) ?y7 ?z7
 case y7 => (intro w hSw; (try dsimp only at hSw); go_simp) <;> with_reducible rfl
 try simp only [Act.put, qqA, qqB, qqC]
 refine tk 8 rfl (v := ?v8) ?y8 ?z8
 case y8 => (intro w hSw; (try dsimp only at hSw); go_simp) <;> with_reducible rfl
 try simp only [Act.put, qqA, qqB, qqC]
 refine tk 9 rfl (v := ?v9) ?y9 ?z9
 case y9 => (intro w hSw; (try dsimp only at hSw); go_simp) <;> with_reducible rfl
 try simp only [Act.put, qqA, qqB, qqC]
 refine wpAnyH_ready (rs := [3]) (by kernel_rfl) (by simp) ?_
 refine (ac rfl (fun K hK => ?_) AllReadyH.nil)
 ·skip
  go_simp
  go_wp2_with (go_at_call 89; (with_reducible refine (get_p S0.out (by omega) k).mono ?_); rintro e w1 ⟨rfl, v1, s', m'⟩)
  refine hK.out _ _ ?s10 (fun hNew => ?r10)
  case s10 => exact ⟨(s'.cp.1 1).trans (by rw [getS_s]; rfl), trivial⟩
  clear hK K hHeld
  have hHeld := hNew
  clear hNew
  have M1 := Lib.hid (M0.out.trans m')
  obtain ⟨y1, hy⟩ : ∃ q_, q_ = getS k y := ⟨_, rfl⟩
  rw [← hy] at s'
  have Y1 := Lib.hid hy
  have S1 := Lib.hid s'
  clear s' m' hy
  refine wpAnyH_ready (rs := [10]) (by kernel_rfl) (by simp) ?_
  refine (ac rfl (fun K hK => ?_) AllReadyH.nil)
  ·skip
   go_simp
   go_wp2_with (go_at_call 94; (with_reducible refine (Alu.dec_c _ _ gb.1 gb.2 fb.1 fb.2 _).mono ?_); rintro e u' ⟨rfl, rfl⟩)
   refine hK.out _ _ ?s11 (fun hNew => ?r11)
   case s11 => exact hHeld
   clear hK K hHeld
   have hHeld := hNew
   clear hNew
   refine tk 11 rfl (v := ?v12) ?y12 ?z12
   case y12 => (intro w hSw; (try dsimp only at hSw); go_simp) <;> with_reducible rfl
   try simp only [Act.put, qqA, qqB, qqC]
   refine tk 12 rfl (v := ?v13) ?y13 ?z13
   case y13 => (intro w hSw; (try dsimp only at hSw); go_simp) <;> with_reducible rfl
   try simp only [Act.put, qqA, qqB, qqC]
   refine tk 13 rfl (v := ?v14) ?y14 ?z14
   case y14 => (intro w hSw; (try dsimp only at hSw); go_simp) <;> with_reducible rfl
   try simp only [Act.put, qqA, qqB, qqC]
   refine tk 14 rfl (v := ?v15) ?y15 ?z15
   case y15 => (intro w hSw; (try dsimp only at hSw); go_simp) <;> with_reducible rfl
   try simp only [Act.put, qqA, qqB, qqC]
   refine tk 15 rfl (v := ?v16) ?y16 ?z16
   case y16 => (intro w hSw; (try dsimp only at hSw); go_simp) <;> with_reducible rfl
   try simp only [Act.put, qqA, qqB, qqC]
   refine wpAnyH_done (by kernel_rfl) ?_ _
   obtain ⟨hc, hf⟩ := S1.out.cp
   go_wp2_with fail
   with_reducible refine (set_p S1.out (by omega) k ((getY k y - 1) % 256) (by omega) (by omega)).mono ?_
   rintro e w2 ⟨rfl, v2, s', m'⟩
   have M2 := Lib.hid (M1.out.trans m')
   obtain ⟨y2, hy⟩ : ∃ q_, q_ = putS k ((getY k y - 1) % 256) y1 := ⟨_, rfl⟩
   rw [← hy] at s'
   have Y2 := Lib.hid hy
   clear hc hf
   obtain ⟨hc, hf⟩ := s'.cp
   have S2 := Lib.hid s'
   clear s' m' hy
   go_wp2
   have Q := Lib.hid (S2.out.stF (Alu.decF (getY k y) y.s.r.f) (Alu.FL_b _ _ _ _).1 (Alu.FL_b _ _ _ _).2)
   go_end0
   refine ⟨rfl, v2, ?_, M2.out.trans Q.out.2⟩
   have q := Q.out.1
   have e := Y2.out.symm
   subst e
   have e := Y1.out.symm
   subst e
   exact Sys.mono (n' := n + 2) q (by omega)
end
end Go.Proofs.YtngdogldgcgnjaaGreat
