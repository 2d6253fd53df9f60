/-
  What the document's Step does at an interrupt: for every world; the memory is there.
-/
import Derived.Test.YtngdogldgcgnjaaGreatZ41
set_option maxRecDepth 100000
set_option maxHeartbeats 8000000
namespace Go.Proofs.YtngdogldgcgnjaaGreat
open Go.ChangeShapes Go.WideShapes Go.ChangeAt Go.RowKit
open Reg
set_option linter.unusedVariables false
section
variable {w : World} {P R M tb n : Nat} {v : Value} {y : Sy}
theorem mstep_i0t (h0 : Bus memC w R M tb v y.m y.acc n) (hn : n < 500000) (ok : y.s.r.ok) (p : Int) (hst : y.s.stop = false) (hht : y.s.halt = true) (him : y.s.ime = true) (hp : pend y.m = p) (g0 : p % 2 = 1) : Calls Tryz.prog 15 #[.agg #[.int .u8 y.s.r.a, .int .u8 y.s.r.f, .int .u8 y.s.r.b, .int .u8 y.s.r.c, .int .u8 y.s.r.d, .int .u8 y.s.r.e, .int .u8 y.s.r.h, .int .u8 y.s.r.l, .int .u16 y.s.r.sp, .int .u16 y.s.r.pc, .bool y.s.ime, .bool y.s.soon, .bool y.s.halt, .bool y.s.stop], .pointer (some ⟨R, 0, none⟩)] w (ME R M tb v w (interS 0 (setHalt false y)) (⟨2, 0, y.s.r.pc, noOp, false⟩) (n + 12)) := by
 have pb := pend_bd y.m h0.okm; rw [hp] at pb; obtain ⟨p0, p1⟩ := pb; have HST := Hd hst; have HIM := Hd him; have HHT := Hd hht; clear hst him hht
 have pn : ¬ p = 0 := by omega
 have hpn : (p == 0) = false := by rw [beq_eq_false_iff_ne]; exact pn
 obtain ⟨P, A, B_, w0, hP, hA, hB, hw, LP, LA, LB, H1_, S0, B0, KP⟩ := start_m h0 ok; clear h0; go_enter Tryz.func15, Tryz.ntmps15; go_upto_region 1 with (fail); rw [← hw, ← hB, ← hA, ← hP]; clear hP hA hB hw; have M0 := Hd (PM.refl P R M tb v w0); obtain ⟨hc, hf⟩ := S0.out.cm; have hst := HST.out; have CP := Hd (mpend_p S0.out); rw [hp] at CP; go_upto_region 7 with (fail); clear hst; go_wp2_with fail
 with_reducible refine (CP.out).mono ?_
 rintro e w1 ⟨rfl, v1, s', m'⟩; replace KP := Hd (KP.out.next m'); have M1 := M0.tr m'; clear hc hf; obtain ⟨hc, hf⟩ := s'.cm; have S1 := Hd s'; clear s' m'; go_upto_region 8 with (fail); have hht := HHT.out; go_upto_region 11 with (fail); clear hht; go_upto_region 12 with (fail); have q := S1.out.stHalt false; have s' := q.1; have m' := q.2; clear q; generalize (World.setCell w1 ⟨P, 12, none⟩ (.bool false)) = w2 at s' m' ⊢; replace KP := Hd (KP.out.next m'); have M2 := M1.tr m'; clear hc hf; obtain ⟨y2, Y2, S2, hc, hf⟩ := sx (setHalt false y) s'; clear s' m'
 have z2 : y2.s.ime = true := by rw [Y2.out]; exact HIM.out
 go_upto_region 13 with (fail); clear z2; go_wp2
 refine wp_loop_rounds 6 ?_
 rw [rounds_succ]; go_wp2_with fail
 with_reducible refine (midle_p S2.out (by omega)).mono ?_
 rintro e w3 ⟨rfl, v3, s', m'⟩; replace KP := Hd (KP.out.next m'); have M3 := M2.tr m'; clear hc hf; obtain ⟨y3, Y3, S3, hc, hf⟩ := sx (idle y2) s'; clear s' m'; go_wp2_with fail
 with_reducible refine (midle_p S3.out (by omega)).mono ?_
 rintro e w4 ⟨rfl, v4, s', m'⟩; replace KP := Hd (KP.out.next m'); have M4 := M3.tr m'; clear hc hf; obtain ⟨y4, Y4, S4, hc, hf⟩ := sx (idle y3) s'; clear s' m'; go_wp2_with fail
 with_reducible refine (mpush_p S4.out (by omega) y4.s.r.pc S4.out.pcb.1 S4.out.pcb.2).mono ?_
 rintro e w5 ⟨rfl, v5, s', m'⟩; replace KP := Hd (KP.out.next m'); have M5 := M4.tr m'; clear hc hf; obtain ⟨y5, Y5, S5, hc, hf⟩ := sx (storeS y4.s.r.pc y4) s'; clear s' m'; have AK : Calls Tryz.prog 22 #[.pointer (some ⟨R, 0, none⟩), .int .i64 0] w5 (PE noD memC P R M tb v5 w5 (.tuple #[]) (setM (ackM 0 y5.m) y5) _) := mack_p S5.out 0 (by decide); have AK := Hd AK; go_wp2_with fail
 with_reducible refine (AK.out).mono ?_
 rintro e w6 ⟨rfl, v6, s', m'⟩; replace KP := Hd (KP.out.next m'); have M6 := M5.tr m'; clear hc hf; obtain ⟨y6, Y6, S6, hc, hf⟩ := sx (setM (ackM 0 y5.m) y5) s'; clear s' m'; go_wp2_with fail
 with_reducible refine (midle_p S6.out (by omega)).mono ?_
 rintro e w7 ⟨rfl, v7, s', m'⟩; replace KP := Hd (KP.out.next m'); have M7 := M6.tr m'; clear hc hf; obtain ⟨y7, Y7, S7, hc, hf⟩ := sx (idle y6) s'; clear s' m'; go_upto_region 24 with (fail); have q := S7.out.stIme false; have s' := q.1; have m' := q.2; clear q; generalize (World.setCell w7 ⟨P, 10, none⟩ (.bool false)) = w8 at s' m' ⊢; replace KP := Hd (KP.out.next m'); have M8 := M7.tr m'; clear hc hf; obtain ⟨y8, Y8, S8, hc, hf⟩ := sx (setIme false y7) s'; clear s' m'; have q := S8.out.stSoon false; have s' := q.1; have m' := q.2; clear q; generalize (World.setCell w8 ⟨P, 11, none⟩ (.bool false)) = w9 at s' m' ⊢; replace KP := Hd (KP.out.next m'); have M9 := M8.tr m'; clear hc hf; obtain ⟨y9, Y9, S9, hc, hf⟩ := sx (setSoon false y8) s'; clear s' m'; go_upto_region 25 with (fail); have q := S9.out.stPC 64 (by decide) (by decide); have s' := q.1; have m' := q.2; clear q; generalize (World.setCell w9 ⟨P, 9, none⟩ (.int .u16 64)) = w10 at s' m' ⊢; replace KP := Hd (KP.out.next m'); have M10 := M9.tr m'; clear hc hf; obtain ⟨y10, Y10, S10, hc, hf⟩ := sx (setPC 64 y9) s'; clear s' m'; have SM := Hd (S10.out.mono (n' := n + 12) (by omega))
 have yf : y10 = interS 0 (setHalt false y) := by rw [Y10.out, Y9.out, Y8.out, Y7.out, Y6.out, Y5.out, Y4.out, Y3.out, Y2.out]; rfl
 have YF := Hd yf; clear yf; obtain ⟨nAP, nBP, nAB, nBA, nPA, nPB⟩ := H1_.out; obtain ⟨⟨_, ca, fa⟩, NA, ⟨_, cd, fd⟩, ND⟩ := KP.out; go_wp2
 refine bodyPost_ret (v := .tuple #[.agg y10.s.cells, .agg (didC ⟨2, 0, y.s.r.pc, ⟨0, 0, 0, 0, 0⟩, false⟩)]) ?_ rfl ⟨?_, ?_⟩
 ·simp [results, Tryz.results15, go_sem, St.cells, didC, ca, cd]
 ·rw [← YF.out]
  rfl
 ·rw [← YF.out]
  exact mstep_end SM.out M10.out B0.out LP.out LA.out LB.out NA ND off23
theorem mstep_i0f (h0 : Bus memC w R M tb v y.m y.acc n) (hn : n < 500000) (ok : y.s.r.ok) (p : Int) (hst : y.s.stop = false) (hht : y.s.halt = false) (him : y.s.ime = true) (hp : pend y.m = p) (g0 : p % 2 = 1) : Calls Tryz.prog 15 #[.agg #[.int .u8 y.s.r.a, .int .u8 y.s.r.f, .int .u8 y.s.r.b, .int .u8 y.s.r.c, .int .u8 y.s.r.d, .int .u8 y.s.r.e, .int .u8 y.s.r.h, .int .u8 y.s.r.l, .int .u16 y.s.r.sp, .int .u16 y.s.r.pc, .bool y.s.ime, .bool y.s.soon, .bool y.s.halt, .bool y.s.stop], .pointer (some ⟨R, 0, none⟩)] w (ME R M tb v w (interS 0 (setHalt false y)) (⟨2, 0, y.s.r.pc, noOp, false⟩) (n + 12)) := by
 have pb := pend_bd y.m h0.okm; rw [hp] at pb; obtain ⟨p0, p1⟩ := pb; have HST := Hd hst; have HIM := Hd him; have HHT := Hd hht; clear hst him hht
 have pn : ¬ p = 0 := by omega
 have hpn : (p == 0) = false := by rw [beq_eq_false_iff_ne]; exact pn
 obtain ⟨P, A, B_, w0, hP, hA, hB, hw, LP, LA, LB, H1_, S0, B0, KP⟩ := start_m h0 ok; clear h0; go_enter Tryz.func15, Tryz.ntmps15; go_upto_region 1 with (fail); rw [← hw, ← hB, ← hA, ← hP]; clear hP hA hB hw; have M0 := Hd (PM.refl P R M tb v w0); obtain ⟨hc, hf⟩ := S0.out.cm; have hst := HST.out; have CP := Hd (mpend_p S0.out); rw [hp] at CP; go_upto_region 7 with (fail); clear hst; go_wp2_with fail
 with_reducible refine (CP.out).mono ?_
 rintro e w1 ⟨rfl, v1, s', m'⟩; replace KP := Hd (KP.out.next m'); have M1 := M0.tr m'; clear hc hf; obtain ⟨hc, hf⟩ := s'.cm; have S1 := Hd s'; clear s' m'; go_upto_region 8 with (fail); have hht := HHT.out; go_upto_region 11 with (fail); clear hht; go_upto_region 12 with (fail); have q := S1.out.stHalt false; have s' := q.1; have m' := q.2; clear q; generalize (World.setCell w1 ⟨P, 12, none⟩ (.bool false)) = w2 at s' m' ⊢; replace KP := Hd (KP.out.next m'); have M2 := M1.tr m'; clear hc hf; obtain ⟨y2, Y2, S2, hc, hf⟩ := sx (setHalt false y) s'; clear s' m'
 have z2 : y2.s.ime = true := by rw [Y2.out]; exact HIM.out
 go_upto_region 13 with (fail); clear z2; go_wp2
 refine wp_loop_rounds 6 ?_
 rw [rounds_succ]; go_wp2_with fail
 with_reducible refine (midle_p S2.out (by omega)).mono ?_
 rintro e w3 ⟨rfl, v3, s', m'⟩; replace KP := Hd (KP.out.next m'); have M3 := M2.tr m'; clear hc hf; obtain ⟨y3, Y3, S3, hc, hf⟩ := sx (idle y2) s'; clear s' m'; go_wp2_with fail
 with_reducible refine (midle_p S3.out (by omega)).mono ?_
 rintro e w4 ⟨rfl, v4, s', m'⟩; replace KP := Hd (KP.out.next m'); have M4 := M3.tr m'; clear hc hf; obtain ⟨y4, Y4, S4, hc, hf⟩ := sx (idle y3) s'; clear s' m'; go_wp2_with fail
 with_reducible refine (mpush_p S4.out (by omega) y4.s.r.pc S4.out.pcb.1 S4.out.pcb.2).mono ?_
 rintro e w5 ⟨rfl, v5, s', m'⟩; replace KP := Hd (KP.out.next m'); have M5 := M4.tr m'; clear hc hf; obtain ⟨y5, Y5, S5, hc, hf⟩ := sx (storeS y4.s.r.pc y4) s'; clear s' m'; have AK : Calls Tryz.prog 22 #[.pointer (some ⟨R, 0, none⟩), .int .i64 0] w5 (PE noD memC P R M tb v5 w5 (.tuple #[]) (setM (ackM 0 y5.m) y5) _) := mack_p S5.out 0 (by decide); have AK := Hd AK; go_wp2_with fail
 with_reducible refine (AK.out).mono ?_
 rintro e w6 ⟨rfl, v6, s', m'⟩; replace KP := Hd (KP.out.next m'); have M6 := M5.tr m'; clear hc hf; obtain ⟨y6, Y6, S6, hc, hf⟩ := sx (setM (ackM 0 y5.m) y5) s'; clear s' m'; go_wp2_with fail
 with_reducible refine (midle_p S6.out (by omega)).mono ?_
 rintro e w7 ⟨rfl, v7, s', m'⟩; replace KP := Hd (KP.out.next m'); have M7 := M6.tr m'; clear hc hf; obtain ⟨y7, Y7, S7, hc, hf⟩ := sx (idle y6) s'; clear s' m'; go_upto_region 24 with (fail); have q := S7.out.stIme false; have s' := q.1; have m' := q.2; clear q; generalize (World.setCell w7 ⟨P, 10, none⟩ (.bool false)) = w8 at s' m' ⊢; replace KP := Hd (KP.out.next m'); have M8 := M7.tr m'; clear hc hf; obtain ⟨y8, Y8, S8, hc, hf⟩ := sx (setIme false y7) s'; clear s' m'; have q := S8.out.stSoon false; have s' := q.1; have m' := q.2; clear q; generalize (World.setCell w8 ⟨P, 11, none⟩ (.bool false)) = w9 at s' m' ⊢; replace KP := Hd (KP.out.next m'); have M9 := M8.tr m'; clear hc hf; obtain ⟨y9, Y9, S9, hc, hf⟩ := sx (setSoon false y8) s'; clear s' m'; go_upto_region 25 with (fail); have q := S9.out.stPC 64 (by decide) (by decide); have s' := q.1; have m' := q.2; clear q; generalize (World.setCell w9 ⟨P, 9, none⟩ (.int .u16 64)) = w10 at s' m' ⊢; replace KP := Hd (KP.out.next m'); have M10 := M9.tr m'; clear hc hf; obtain ⟨y10, Y10, S10, hc, hf⟩ := sx (setPC 64 y9) s'; clear s' m'; have SM := Hd (S10.out.mono (n' := n + 12) (by omega))
 have yf : y10 = interS 0 (setHalt false y) := by rw [Y10.out, Y9.out, Y8.out, Y7.out, Y6.out, Y5.out, Y4.out, Y3.out, Y2.out]; rfl
 have YF := Hd yf; clear yf; obtain ⟨nAP, nBP, nAB, nBA, nPA, nPB⟩ := H1_.out; obtain ⟨⟨_, ca, fa⟩, NA, ⟨_, cd, fd⟩, ND⟩ := KP.out; go_wp2
 refine bodyPost_ret (v := .tuple #[.agg y10.s.cells, .agg (didC ⟨2, 0, y.s.r.pc, ⟨0, 0, 0, 0, 0⟩, false⟩)]) ?_ rfl ⟨?_, ?_⟩
 ·simp [results, Tryz.results15, go_sem, St.cells, didC, ca, cd]
 ·rw [← YF.out]
  rfl
 ·rw [← YF.out]
  exact mstep_end SM.out M10.out B0.out LP.out LA.out LB.out NA ND off23
theorem mstep_i1t (h0 : Bus memC w R M tb v y.m y.acc n) (hn : n < 500000) (ok : y.s.r.ok) (p : Int) (hst : y.s.stop = false) (hht : y.s.halt = true) (him : y.s.ime = true) (hp : pend y.m = p) (g0 : p % 2 = 0) (g1 : p / 2 % 2 = 1) : Calls Tryz.prog 15 #[.agg #[.int .u8 y.s.r.a, .int .u8 y.s.r.f, .int .u8 y.s.r.b, .int .u8 y.s.r.c, .int .u8 y.s.r.d, .int .u8 y.s.r.e, .int .u8 y.s.r.h, .int .u8 y.s.r.l, .int .u16 y.s.r.sp, .int .u16 y.s.r.pc, .bool y.s.ime, .bool y.s.soon, .bool y.s.halt, .bool y.s.stop], .pointer (some ⟨R, 0, none⟩)] w (ME R M tb v w (interS 1 (setHalt false y)) (⟨2, 1, y.s.r.pc, noOp, false⟩) (n + 12)) := by
 have pb := pend_bd y.m h0.okm; rw [hp] at pb; obtain ⟨p0, p1⟩ := pb; have HST := Hd hst; have HIM := Hd him; have HHT := Hd hht; clear hst him hht
 have pn : ¬ p = 0 := by omega
 have hpn : (p == 0) = false := by rw [beq_eq_false_iff_ne]; exact pn
 obtain ⟨P, A, B_, w0, hP, hA, hB, hw, LP, LA, LB, H1_, S0, B0, KP⟩ := start_m h0 ok; clear h0; go_enter Tryz.func15, Tryz.ntmps15; go_upto_region 1 with (fail); rw [← hw, ← hB, ← hA, ← hP]; clear hP hA hB hw; have M0 := Hd (PM.refl P R M tb v w0); obtain ⟨hc, hf⟩ := S0.out.cm; have hst := HST.out; have CP := Hd (mpend_p S0.out); rw [hp] at CP; go_upto_region 7 with (fail); clear hst; go_wp2_with fail
 with_reducible refine (CP.out).mono ?_
 rintro e w1 ⟨rfl, v1, s', m'⟩; replace KP := Hd (KP.out.next m'); have M1 := M0.tr m'; clear hc hf; obtain ⟨hc, hf⟩ := s'.cm; have S1 := Hd s'; clear s' m'; go_upto_region 8 with (fail); have hht := HHT.out; go_upto_region 11 with (fail); clear hht; go_upto_region 12 with (fail); have q := S1.out.stHalt false; have s' := q.1; have m' := q.2; clear q; generalize (World.setCell w1 ⟨P, 12, none⟩ (.bool false)) = w2 at s' m' ⊢; replace KP := Hd (KP.out.next m'); have M2 := M1.tr m'; clear hc hf; obtain ⟨y2, Y2, S2, hc, hf⟩ := sx (setHalt false y) s'; clear s' m'
 have z2 : y2.s.ime = true := by rw [Y2.out]; exact HIM.out
 go_upto_region 13 with (fail); clear z2; go_wp2
 refine wp_loop_rounds 6 ?_
 rw [rounds_succ]; go_wp2_with fail; rw [rounds_succ]; go_wp2_with fail
 with_reducible refine (midle_p S2.out (by omega)).mono ?_
 rintro e w3 ⟨rfl, v3, s', m'⟩; replace KP := Hd (KP.out.next m'); have M3 := M2.tr m'; clear hc hf; obtain ⟨y3, Y3, S3, hc, hf⟩ := sx (idle y2) s'; clear s' m'; go_wp2_with fail
 with_reducible refine (midle_p S3.out (by omega)).mono ?_
 rintro e w4 ⟨rfl, v4, s', m'⟩; replace KP := Hd (KP.out.next m'); have M4 := M3.tr m'; clear hc hf; obtain ⟨y4, Y4, S4, hc, hf⟩ := sx (idle y3) s'; clear s' m'; go_wp2_with fail
 with_reducible refine (mpush_p S4.out (by omega) y4.s.r.pc S4.out.pcb.1 S4.out.pcb.2).mono ?_
 rintro e w5 ⟨rfl, v5, s', m'⟩; replace KP := Hd (KP.out.next m'); have M5 := M4.tr m'; clear hc hf; obtain ⟨y5, Y5, S5, hc, hf⟩ := sx (storeS y4.s.r.pc y4) s'; clear s' m'; have AK : Calls Tryz.prog 22 #[.pointer (some ⟨R, 0, none⟩), .int .i64 1] w5 (PE noD memC P R M tb v5 w5 (.tuple #[]) (setM (ackM 1 y5.m) y5) _) := mack_p S5.out 1 (by decide); have AK := Hd AK; go_wp2_with fail
 with_reducible refine (AK.out).mono ?_
 rintro e w6 ⟨rfl, v6, s', m'⟩; replace KP := Hd (KP.out.next m'); have M6 := M5.tr m'; clear hc hf; obtain ⟨y6, Y6, S6, hc, hf⟩ := sx (setM (ackM 1 y5.m) y5) s'; clear s' m'; go_wp2_with fail
 with_reducible refine (midle_p S6.out (by omega)).mono ?_
 rintro e w7 ⟨rfl, v7, s', m'⟩; replace KP := Hd (KP.out.next m'); have M7 := M6.tr m'; clear hc hf; obtain ⟨y7, Y7, S7, hc, hf⟩ := sx (idle y6) s'; clear s' m'; go_upto_region 24 with (fail); have q := S7.out.stIme false; have s' := q.1; have m' := q.2; clear q; generalize (World.setCell w7 ⟨P, 10, none⟩ (.bool false)) = w8 at s' m' ⊢; replace KP := Hd (KP.out.next m'); have M8 := M7.tr m'; clear hc hf; obtain ⟨y8, Y8, S8, hc, hf⟩ := sx (setIme false y7) s'; clear s' m'; have q := S8.out.stSoon false; have s' := q.1; have m' := q.2; clear q; generalize (World.setCell w8 ⟨P, 11, none⟩ (.bool false)) = w9 at s' m' ⊢; replace KP := Hd (KP.out.next m'); have M9 := M8.tr m'; clear hc hf; obtain ⟨y9, Y9, S9, hc, hf⟩ := sx (setSoon false y8) s'; clear s' m'; go_upto_region 25 with (fail); have q := S9.out.stPC 72 (by decide) (by decide); have s' := q.1; have m' := q.2; clear q; generalize (World.setCell w9 ⟨P, 9, none⟩ (.int .u16 72)) = w10 at s' m' ⊢; replace KP := Hd (KP.out.next m'); have M10 := M9.tr m'; clear hc hf; obtain ⟨y10, Y10, S10, hc, hf⟩ := sx (setPC 72 y9) s'; clear s' m'; have SM := Hd (S10.out.mono (n' := n + 12) (by omega))
 have yf : y10 = interS 1 (setHalt false y) := by rw [Y10.out, Y9.out, Y8.out, Y7.out, Y6.out, Y5.out, Y4.out, Y3.out, Y2.out]; rfl
 have YF := Hd yf; clear yf; obtain ⟨nAP, nBP, nAB, nBA, nPA, nPB⟩ := H1_.out; obtain ⟨⟨_, ca, fa⟩, NA, ⟨_, cd, fd⟩, ND⟩ := KP.out; go_wp2
 refine bodyPost_ret (v := .tuple #[.agg y10.s.cells, .agg (didC ⟨2, 1, y.s.r.pc, ⟨0, 0, 0, 0, 0⟩, false⟩)]) ?_ rfl ⟨?_, ?_⟩
 ·simp [results, Tryz.results15, go_sem, St.cells, didC, ca, cd]
 ·rw [← YF.out]
  rfl
 ·rw [← YF.out]
  exact mstep_end SM.out M10.out B0.out LP.out LA.out LB.out NA ND off23
theorem mstep_i1f (h0 : Bus memC w R M tb v y.m y.acc n) (hn : n < 500000) (ok : y.s.r.ok) (p : Int) (hst : y.s.stop = false) (hht : y.s.halt = false) (him : y.s.ime = true) (hp : pend y.m = p) (g0 : p % 2 = 0) (g1 : p / 2 % 2 = 1) : Calls Tryz.prog 15 #[.agg #[.int .u8 y.s.r.a, .int .u8 y.s.r.f, .int .u8 y.s.r.b, .int .u8 y.s.r.c, .int .u8 y.s.r.d, .int .u8 y.s.r.e, .int .u8 y.s.r.h, .int .u8 y.s.r.l, .int .u16 y.s.r.sp, .int .u16 y.s.r.pc, .bool y.s.ime, .bool y.s.soon, .bool y.s.halt, .bool y.s.stop], .pointer (some ⟨R, 0, none⟩)] w (ME R M tb v w (interS 1 (setHalt false y)) (⟨2, 1, y.s.r.pc, noOp, false⟩) (n + 12)) := by
 have pb := pend_bd y.m h0.okm; rw [hp] at pb; obtain ⟨p0, p1⟩ := pb; have HST := Hd hst; have HIM := Hd him; have HHT := Hd hht; clear hst him hht
 have pn : ¬ p = 0 := by omega
 have hpn : (p == 0) = false := by rw [beq_eq_false_iff_ne]; exact pn
 obtain ⟨P, A, B_, w0, hP, hA, hB, hw, LP, LA, LB, H1_, S0, B0, KP⟩ := start_m h0 ok; clear h0; go_enter Tryz.func15, Tryz.ntmps15; go_upto_region 1 with (fail); rw [← hw, ← hB, ← hA, ← hP]; clear hP hA hB hw; have M0 := Hd (PM.refl P R M tb v w0); obtain ⟨hc, hf⟩ := S0.out.cm; have hst := HST.out; have CP := Hd (mpend_p S0.out); rw [hp] at CP; go_upto_region 7 with (fail); clear hst; go_wp2_with fail
 with_reducible refine (CP.out).mono ?_
 rintro e w1 ⟨rfl, v1, s', m'⟩; replace KP := Hd (KP.out.next m'); have M1 := M0.tr m'; clear hc hf; obtain ⟨hc, hf⟩ := s'.cm; have S1 := Hd s'; clear s' m'; go_upto_region 8 with (fail); have hht := HHT.out; go_upto_region 11 with (fail); clear hht; go_upto_region 12 with (fail); have q := S1.out.stHalt false; have s' := q.1; have m' := q.2; clear q; generalize (World.setCell w1 ⟨P, 12, none⟩ (.bool false)) = w2 at s' m' ⊢; replace KP := Hd (KP.out.next m'); have M2 := M1.tr m'; clear hc hf; obtain ⟨y2, Y2, S2, hc, hf⟩ := sx (setHalt false y) s'; clear s' m'
 have z2 : y2.s.ime = true := by rw [Y2.out]; exact HIM.out
 go_upto_region 13 with (fail); clear z2; go_wp2
 refine wp_loop_rounds 6 ?_
 rw [rounds_succ]; go_wp2_with fail; rw [rounds_succ]; go_wp2_with fail
 with_reducible refine (midle_p S2.out (by omega)).mono ?_
 rintro e w3 ⟨rfl, v3, s', m'⟩; replace KP := Hd (KP.out.next m'); have M3 := M2.tr m'; clear hc hf; obtain ⟨y3, Y3, S3, hc, hf⟩ := sx (idle y2) s'; clear s' m'; go_wp2_with fail
 with_reducible refine (midle_p S3.out (by omega)).mono ?_
 rintro e w4 ⟨rfl, v4, s', m'⟩; replace KP := Hd (KP.out.next m'); have M4 := M3.tr m'; clear hc hf; obtain ⟨y4, Y4, S4, hc, hf⟩ := sx (idle y3) s'; clear s' m'; go_wp2_with fail
 with_reducible refine (mpush_p S4.out (by omega) y4.s.r.pc S4.out.pcb.1 S4.out.pcb.2).mono ?_
 rintro e w5 ⟨rfl, v5, s', m'⟩; replace KP := Hd (KP.out.next m'); have M5 := M4.tr m'; clear hc hf; obtain ⟨y5, Y5, S5, hc, hf⟩ := sx (storeS y4.s.r.pc y4) s'; clear s' m'; have AK : Calls Tryz.prog 22 #[.pointer (some ⟨R, 0, none⟩), .int .i64 1] w5 (PE noD memC P R M tb v5 w5 (.tuple #[]) (setM (ackM 1 y5.m) y5) _) := mack_p S5.out 1 (by decide); have AK := Hd AK; go_wp2_with fail
 with_reducible refine (AK.out).mono ?_
 rintro e w6 ⟨rfl, v6, s', m'⟩; replace KP := Hd (KP.out.next m'); have M6 := M5.tr m'; clear hc hf; obtain ⟨y6, Y6, S6, hc, hf⟩ := sx (setM (ackM 1 y5.m) y5) s'; clear s' m'; go_wp2_with fail
 with_reducible refine (midle_p S6.out (by omega)).mono ?_
 rintro e w7 ⟨rfl, v7, s', m'⟩; replace KP := Hd (KP.out.next m'); have M7 := M6.tr m'; clear hc hf; obtain ⟨y7, Y7, S7, hc, hf⟩ := sx (idle y6) s'; clear s' m'; go_upto_region 24 with (fail); have q := S7.out.stIme false; have s' := q.1; have m' := q.2; clear q; generalize (World.setCell w7 ⟨P, 10, none⟩ (.bool false)) = w8 at s' m' ⊢; replace KP := Hd (KP.out.next m'); have M8 := M7.tr m'; clear hc hf; obtain ⟨y8, Y8, S8, hc, hf⟩ := sx (setIme false y7) s'; clear s' m'; have q := S8.out.stSoon false; have s' := q.1; have m' := q.2; clear q; generalize (World.setCell w8 ⟨P, 11, none⟩ (.bool false)) = w9 at s' m' ⊢; replace KP := Hd (KP.out.next m'); have M9 := M8.tr m'; clear hc hf; obtain ⟨y9, Y9, S9, hc, hf⟩ := sx (setSoon false y8) s'; clear s' m'; go_upto_region 25 with (fail); have q := S9.out.stPC 72 (by decide) (by decide); have s' := q.1; have m' := q.2; clear q; generalize (World.setCell w9 ⟨P, 9, none⟩ (.int .u16 72)) = w10 at s' m' ⊢; replace KP := Hd (KP.out.next m'); have M10 := M9.tr m'; clear hc hf; obtain ⟨y10, Y10, S10, hc, hf⟩ := sx (setPC 72 y9) s'; clear s' m'; have SM := Hd (S10.out.mono (n' := n + 12) (by omega))
 have yf : y10 = interS 1 (setHalt false y) := by rw [Y10.out, Y9.out, Y8.out, Y7.out, Y6.out, Y5.out, Y4.out, Y3.out, Y2.out]; rfl
 have YF := Hd yf; clear yf; obtain ⟨nAP, nBP, nAB, nBA, nPA, nPB⟩ := H1_.out; obtain ⟨⟨_, ca, fa⟩, NA, ⟨_, cd, fd⟩, ND⟩ := KP.out; go_wp2
 refine bodyPost_ret (v := .tuple #[.agg y10.s.cells, .agg (didC ⟨2, 1, y.s.r.pc, ⟨0, 0, 0, 0, 0⟩, false⟩)]) ?_ rfl ⟨?_, ?_⟩
 ·simp [results, Tryz.results15, go_sem, St.cells, didC, ca, cd]
 ·rw [← YF.out]
  rfl
 ·rw [← YF.out]
  exact mstep_end SM.out M10.out B0.out LP.out LA.out LB.out NA ND off23
theorem mstep_i2t (h0 : Bus memC w R M tb v y.m y.acc n) (hn : n < 500000) (ok : y.s.r.ok) (p : Int) (hst : y.s.stop = false) (hht : y.s.halt = true) (him : y.s.ime = true) (hp : pend y.m = p) (g0 : p % 2 = 0) (g1 : p / 2 % 2 = 0) (g2 : p / 4 % 2 = 1) : Calls Tryz.prog 15 #[.agg #[.int .u8 y.s.r.a, .int .u8 y.s.r.f, .int .u8 y.s.r.b, .int .u8 y.s.r.c, .int .u8 y.s.r.d, .int .u8 y.s.r.e, .int .u8 y.s.r.h, .int .u8 y.s.r.l, .int .u16 y.s.r.sp, .int .u16 y.s.r.pc, .bool y.s.ime, .bool y.s.soon, .bool y.s.halt, .bool y.s.stop], .pointer (some ⟨R, 0, none⟩)] w (ME R M tb v w (interS 2 (setHalt false y)) (⟨2, 2, y.s.r.pc, noOp, false⟩) (n + 12)) := by
 have pb := pend_bd y.m h0.okm; rw [hp] at pb; obtain ⟨p0, p1⟩ := pb; have HST := Hd hst; have HIM := Hd him; have HHT := Hd hht; clear hst him hht
 have pn : ¬ p = 0 := by omega
 have hpn : (p == 0) = false := by rw [beq_eq_false_iff_ne]; exact pn
 obtain ⟨P, A, B_, w0, hP, hA, hB, hw, LP, LA, LB, H1_, S0, B0, KP⟩ := start_m h0 ok; clear h0; go_enter Tryz.func15, Tryz.ntmps15; go_upto_region 1 with (fail); rw [← hw, ← hB, ← hA, ← hP]; clear hP hA hB hw; have M0 := Hd (PM.refl P R M tb v w0); obtain ⟨hc, hf⟩ := S0.out.cm; have hst := HST.out; have CP := Hd (mpend_p S0.out); rw [hp] at CP; go_upto_region 7 with (fail); clear hst; go_wp2_with fail
 with_reducible refine (CP.out).mono ?_
 rintro e w1 ⟨rfl, v1, s', m'⟩; replace KP := Hd (KP.out.next m'); have M1 := M0.tr m'; clear hc hf; obtain ⟨hc, hf⟩ := s'.cm; have S1 := Hd s'; clear s' m'; go_upto_region 8 with (fail); have hht := HHT.out; go_upto_region 11 with (fail); clear hht; go_upto_region 12 with (fail); have q := S1.out.stHalt false; have s' := q.1; have m' := q.2; clear q; generalize (World.setCell w1 ⟨P, 12, none⟩ (.bool false)) = w2 at s' m' ⊢; replace KP := Hd (KP.out.next m'); have M2 := M1.tr m'; clear hc hf; obtain ⟨y2, Y2, S2, hc, hf⟩ := sx (setHalt false y) s'; clear s' m'
 have z2 : y2.s.ime = true := by rw [Y2.out]; exact HIM.out
 go_upto_region 13 with (fail); clear z2; go_wp2
 refine wp_loop_rounds 6 ?_
 rw [rounds_succ]; go_wp2_with fail; rw [rounds_succ]; go_wp2_with fail; rw [rounds_succ]; go_wp2_with fail
 with_reducible refine (midle_p S2.out (by omega)).mono ?_
 rintro e w3 ⟨rfl, v3, s', m'⟩; replace KP := Hd (KP.out.next m'); have M3 := M2.tr m'; clear hc hf; obtain ⟨y3, Y3, S3, hc, hf⟩ := sx (idle y2) s'; clear s' m'; go_wp2_with fail
 with_reducible refine (midle_p S3.out (by omega)).mono ?_
 rintro e w4 ⟨rfl, v4, s', m'⟩; replace KP := Hd (KP.out.next m'); have M4 := M3.tr m'; clear hc hf; obtain ⟨y4, Y4, S4, hc, hf⟩ := sx (idle y3) s'; clear s' m'; go_wp2_with fail
 with_reducible refine (mpush_p S4.out (by omega) y4.s.r.pc S4.out.pcb.1 S4.out.pcb.2).mono ?_
 rintro e w5 ⟨rfl, v5, s', m'⟩; replace KP := Hd (KP.out.next m'); have M5 := M4.tr m'; clear hc hf; obtain ⟨y5, Y5, S5, hc, hf⟩ := sx (storeS y4.s.r.pc y4) s'; clear s' m'; have AK : Calls Tryz.prog 22 #[.pointer (some ⟨R, 0, none⟩), .int .i64 2] w5 (PE noD memC P R M tb v5 w5 (.tuple #[]) (setM (ackM 2 y5.m) y5) _) := mack_p S5.out 2 (by decide); have AK := Hd AK; go_wp2_with fail
 with_reducible refine (AK.out).mono ?_
 rintro e w6 ⟨rfl, v6, s', m'⟩; replace KP := Hd (KP.out.next m'); have M6 := M5.tr m'; clear hc hf; obtain ⟨y6, Y6, S6, hc, hf⟩ := sx (setM (ackM 2 y5.m) y5) s'; clear s' m'; go_wp2_with fail
 with_reducible refine (midle_p S6.out (by omega)).mono ?_
 rintro e w7 ⟨rfl, v7, s', m'⟩; replace KP := Hd (KP.out.next m'); have M7 := M6.tr m'; clear hc hf; obtain ⟨y7, Y7, S7, hc, hf⟩ := sx (idle y6) s'; clear s' m'; go_upto_region 24 with (fail); have q := S7.out.stIme false; have s' := q.1; have m' := q.2; clear q; generalize (World.setCell w7 ⟨P, 10, none⟩ (.bool false)) = w8 at s' m' ⊢; replace KP := Hd (KP.out.next m'); have M8 := M7.tr m'; clear hc hf; obtain ⟨y8, Y8, S8, hc, hf⟩ := sx (setIme false y7) s'; clear s' m'; have q := S8.out.stSoon false; have s' := q.1; have m' := q.2; clear q; generalize (World.setCell w8 ⟨P, 11, none⟩ (.bool false)) = w9 at s' m' ⊢; replace KP := Hd (KP.out.next m'); have M9 := M8.tr m'; clear hc hf; obtain ⟨y9, Y9, S9, hc, hf⟩ := sx (setSoon false y8) s'; clear s' m'; go_upto_region 25 with (fail); have q := S9.out.stPC 80 (by decide) (by decide); have s' := q.1; have m' := q.2; clear q; generalize (World.setCell w9 ⟨P, 9, none⟩ (.int .u16 80)) = w10 at s' m' ⊢; replace KP := Hd (KP.out.next m'); have M10 := M9.tr m'; clear hc hf; obtain ⟨y10, Y10, S10, hc, hf⟩ := sx (setPC 80 y9) s'; clear s' m'; have SM := Hd (S10.out.mono (n' := n + 12) (by omega))
 have yf : y10 = interS 2 (setHalt false y) := by rw [Y10.out, Y9.out, Y8.out, Y7.out, Y6.out, Y5.out, Y4.out, Y3.out, Y2.out]; rfl
 have YF := Hd yf; clear yf; obtain ⟨nAP, nBP, nAB, nBA, nPA, nPB⟩ := H1_.out; obtain ⟨⟨_, ca, fa⟩, NA, ⟨_, cd, fd⟩, ND⟩ := KP.out; go_wp2
 refine bodyPost_ret (v := .tuple #[.agg y10.s.cells, .agg (didC ⟨2, 2, y.s.r.pc, ⟨0, 0, 0, 0, 0⟩, false⟩)]) ?_ rfl ⟨?_, ?_⟩
 ·simp [results, Tryz.results15, go_sem, St.cells, didC, ca, cd]
 ·rw [← YF.out]
  rfl
 ·rw [← YF.out]
  exact mstep_end SM.out M10.out B0.out LP.out LA.out LB.out NA ND off23
theorem mstep_i2f (h0 : Bus memC w R M tb v y.m y.acc n) (hn : n < 500000) (ok : y.s.r.ok) (p : Int) (hst : y.s.stop = false) (hht : y.s.halt = false) (him : y.s.ime = true) (hp : pend y.m = p) (g0 : p % 2 = 0) (g1 : p / 2 % 2 = 0) (g2 : p / 4 % 2 = 1) : Calls Tryz.prog 15 #[.agg #[.int .u8 y.s.r.a, .int .u8 y.s.r.f, .int .u8 y.s.r.b, .int .u8 y.s.r.c, .int .u8 y.s.r.d, .int .u8 y.s.r.e, .int .u8 y.s.r.h, .int .u8 y.s.r.l, .int .u16 y.s.r.sp, .int .u16 y.s.r.pc, .bool y.s.ime, .bool y.s.soon, .bool y.s.halt, .bool y.s.stop], .pointer (some ⟨R, 0, none⟩)] w (ME R M tb v w (interS 2 (setHalt false y)) (⟨2, 2, y.s.r.pc, noOp, false⟩) (n + 12)) := by
 have pb := pend_bd y.m h0.okm; rw [hp] at pb; obtain ⟨p0, p1⟩ := pb; have HST := Hd hst; have HIM := Hd him; have HHT := Hd hht; clear hst him hht
 have pn : ¬ p = 0 := by omega
 have hpn : (p == 0) = false := by rw [beq_eq_false_iff_ne]; exact pn
 obtain ⟨P, A, B_, w0, hP, hA, hB, hw, LP, LA, LB, H1_, S0, B0, KP⟩ := start_m h0 ok; clear h0; go_enter Tryz.func15, Tryz.ntmps15; go_upto_region 1 with (fail); rw [← hw, ← hB, ← hA, ← hP]; clear hP hA hB hw; have M0 := Hd (PM.refl P R M tb v w0); obtain ⟨hc, hf⟩ := S0.out.cm; have hst := HST.out; have CP := Hd (mpend_p S0.out); rw [hp] at CP; go_upto_region 7 with (fail); clear hst; go_wp2_with fail
 with_reducible refine (CP.out).mono ?_
 rintro e w1 ⟨rfl, v1, s', m'⟩; replace KP := Hd (KP.out.next m'); have M1 := M0.tr m'; clear hc hf; obtain ⟨hc, hf⟩ := s'.cm; have S1 := Hd s'; clear s' m'; go_upto_region 8 with (fail); have hht := HHT.out; go_upto_region 11 with (fail); clear hht; go_upto_region 12 with (fail); have q := S1.out.stHalt false; have s' := q.1; have m' := q.2; clear q; generalize (World.setCell w1 ⟨P, 12, none⟩ (.bool false)) = w2 at s' m' ⊢; replace KP := Hd (KP.out.next m'); have M2 := M1.tr m'; clear hc hf; obtain ⟨y2, Y2, S2, hc, hf⟩ := sx (setHalt false y) s'; clear s' m'
 have z2 : y2.s.ime = true := by rw [Y2.out]; exact HIM.out
 go_upto_region 13 with (fail); clear z2; go_wp2
 refine wp_loop_rounds 6 ?_
 rw [rounds_succ]; go_wp2_with fail; rw [rounds_succ]; go_wp2_with fail; rw [rounds_succ]; go_wp2_with fail
 with_reducible refine (midle_p S2.out (by omega)).mono ?_
 rintro e w3 ⟨rfl, v3, s', m'⟩; replace KP := Hd (KP.out.next m'); have M3 := M2.tr m'; clear hc hf; obtain ⟨y3, Y3, S3, hc, hf⟩ := sx (idle y2) s'; clear s' m'; go_wp2_with fail
 with_reducible refine (midle_p S3.out (by omega)).mono ?_
 rintro e w4 ⟨rfl, v4, s', m'⟩; replace KP := Hd (KP.out.next m'); have M4 := M3.tr m'; clear hc hf; obtain ⟨y4, Y4, S4, hc, hf⟩ := sx (idle y3) s'; clear s' m'; go_wp2_with fail
 with_reducible refine (mpush_p S4.out (by omega) y4.s.r.pc S4.out.pcb.1 S4.out.pcb.2).mono ?_
 rintro e w5 ⟨rfl, v5, s', m'⟩; replace KP := Hd (KP.out.next m'); have M5 := M4.tr m'; clear hc hf; obtain ⟨y5, Y5, S5, hc, hf⟩ := sx (storeS y4.s.r.pc y4) s'; clear s' m'; have AK : Calls Tryz.prog 22 #[.pointer (some ⟨R, 0, none⟩), .int .i64 2] w5 (PE noD memC P R M tb v5 w5 (.tuple #[]) (setM (ackM 2 y5.m) y5) _) := mack_p S5.out 2 (by decide); have AK := Hd AK; go_wp2_with fail
 with_reducible refine (AK.out).mono ?_
 rintro e w6 ⟨rfl, v6, s', m'⟩; replace KP := Hd (KP.out.next m'); have M6 := M5.tr m'; clear hc hf; obtain ⟨y6, Y6, S6, hc, hf⟩ := sx (setM (ackM 2 y5.m) y5) s'; clear s' m'; go_wp2_with fail
 with_reducible refine (midle_p S6.out (by omega)).mono ?_
 rintro e w7 ⟨rfl, v7, s', m'⟩; replace KP := Hd (KP.out.next m'); have M7 := M6.tr m'; clear hc hf; obtain ⟨y7, Y7, S7, hc, hf⟩ := sx (idle y6) s'; clear s' m'; go_upto_region 24 with (fail); have q := S7.out.stIme false; have s' := q.1; have m' := q.2; clear q; generalize (World.setCell w7 ⟨P, 10, none⟩ (.bool false)) = w8 at s' m' ⊢; replace KP := Hd (KP.out.next m'); have M8 := M7.tr m'; clear hc hf; obtain ⟨y8, Y8, S8, hc, hf⟩ := sx (setIme false y7) s'; clear s' m'; have q := S8.out.stSoon false; have s' := q.1; have m' := q.2; clear q; generalize (World.setCell w8 ⟨P, 11, none⟩ (.bool false)) = w9 at s' m' ⊢; replace KP := Hd (KP.out.next m'); have M9 := M8.tr m'; clear hc hf; obtain ⟨y9, Y9, S9, hc, hf⟩ := sx (setSoon false y8) s'; clear s' m'; go_upto_region 25 with (fail); have q := S9.out.stPC 80 (by decide) (by decide); have s' := q.1; have m' := q.2; clear q; generalize (World.setCell w9 ⟨P, 9, none⟩ (.int .u16 80)) = w10 at s' m' ⊢; replace KP := Hd (KP.out.next m'); have M10 := M9.tr m'; clear hc hf; obtain ⟨y10, Y10, S10, hc, hf⟩ := sx (setPC 80 y9) s'; clear s' m'; have SM := Hd (S10.out.mono (n' := n + 12) (by omega))
 have yf : y10 = interS 2 (setHalt false y) := by rw [Y10.out, Y9.out, Y8.out, Y7.out, Y6.out, Y5.out, Y4.out, Y3.out, Y2.out]; rfl
 have YF := Hd yf; clear yf; obtain ⟨nAP, nBP, nAB, nBA, nPA, nPB⟩ := H1_.out; obtain ⟨⟨_, ca, fa⟩, NA, ⟨_, cd, fd⟩, ND⟩ := KP.out; go_wp2
 refine bodyPost_ret (v := .tuple #[.agg y10.s.cells, .agg (didC ⟨2, 2, y.s.r.pc, ⟨0, 0, 0, 0, 0⟩, false⟩)]) ?_ rfl ⟨?_, ?_⟩
 ·simp [results, Tryz.results15, go_sem, St.cells, didC, ca, cd]
 ·rw [← YF.out]
  rfl
 ·rw [← YF.out]
  exact mstep_end SM.out M10.out B0.out LP.out LA.out LB.out NA ND off23
end
end Go.Proofs.YtngdogldgcgnjaaGreat
